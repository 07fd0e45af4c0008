import PyProof.Rows.All
import Wide.All
import OpenK.AllK
import Wide.FinOn
import HandS.ForMost
import HandS.IsInst
import HandS.RevRange
import HandS.Zip
import HandS.Conv
import HandS.SortInts
import HandS.WideBits
import HandS.TupAny
import KE.GoesMore
import HandS.TupLe
import HandS.SortRule
import KE.KDictCopyH
import KE.KDictSum
import HandS.Text
import HandS.TupMul
import HandS.Style
import KE.SortData
import HandS.Deep
import HandS.SetFor
import KE.KTupSum
import HandS.Gcd
import KE.DataCmp
import KE.KDictWalk
import HandS.SetIn
import KE.DataMinMax
import HandS.SortKw
import PyProof.Rows.TupDisplay
import HandS.Strs
import HandS.TupSets
import KE.KRevSl
import KE.KMathGC
import HandS.Star
import HandS.RepeatKit
import HandS.RevTup
import PyProof.TupleIter
import PyProof.ListNew
import PyProof.WalksS
import PyProof.Walks
import HandS.DictTup
import HandS.Wide
import HandS.DictComp
import PyProof.DictUpdate
import PyProof.CollectIter
import HandS.Flow
import PyProof.Rows.SeqRoads
import PySem.Challenge.RW_cointakes_k87_across_puttings_back
set_option Elab.async false
set_option maxRecDepth 100000
set_option linter.all false
/-! DL: what a def does, said of data by value: no address is seen. -/
namespace DL
open PySem PySem.Spec PyProof.Rows L2

/-- what a dict of one's own holds: keys ints and texts, or tuples of them -/
inductive DCon where
  | K (kvs : List (Key × PyData))
  | T (kvs : List (List Key × PyData))
/-- a slot of a def: unknown, data that nobody changes any more, a list that this def alone holds, the row of draws -/
inductive Slot where
  | un
  | sh (d : PyData)
  | own (a : Addr) (ds : List PyData)
  | dic (a : Addr) (c : DCon)
  | row
  | mem (a : Addr) (f : List Int → PyData → Prop) (ks : List (List Int))
abbrev DEnv := List Slot
def Slot.addr : Slot → Option Addr
  | .own a _ => some a
  | .dic a _ => some a
  | .mem a _ _ => some a
  | _ => none
def owns (ρ : DEnv) : List Addr := ρ.filterMap Slot.addr
/-- what stands around: the heap at the entry, what others hold, the row of draws -/
structure Ctx where
  H0 : Hp
  ex : List Addr
  rw : List Addr
def mu (C : Ctx) (ρ : DEnv) : List Addr := C.rw ++ owns ρ
def hs (C : Ctx) (ρ : DEnv) : List Addr := C.ex ++ mu C ρ
/-- the heap without some addresses -/
def hide (as : List Addr) (H : Hp) : Hp := fun b => if b ∈ as then none else H b
theorem hide_out {as : List Addr} {H : Hp} {b : Addr} (h : b ∉ as) : hide as H b = H b := if_neg h
theorem hide_in {as : List Addr} {H : Hp} {b : Addr} (h : b ∈ as) : hide as H b = none := if_pos h
theorem hide_some {as : List Addr} {H : Hp} {b : Addr} {o : HO} (h : hide as H b = some o) : b ∉ as ∧ H b = some o := by
  by_cases q : b ∈ as
  · rw [hide_in q] at h; cases h
  · exact ⟨q, by rw [hide_out q] at h; exact h⟩
theorem hide_nil (H : Hp) : hide [] H = H := by funext b; exact hide_out (by simp)
theorem hide_congr {as bs : List Addr} {H : Hp} (h : ∀ b, b ∈ as ↔ b ∈ bs) : hide as H = hide bs H := by
  funext b
  by_cases q : b ∈ as
  · rw [hide_in q, hide_in ((h b).mp q)]
  · rw [hide_out q, hide_out (fun z => q ((h b).mpr z))]

/-- every tracked object of the first stands in the second -/
def Le (H H' : Hp) : Prop := ∀ b o, H b = some o → H' b = some o
theorem Le.rfl {H : Hp} : Le H H := fun _ _ e => e
theorem Le.trans {H H' H'' : Hp} (a : Le H H') (b : Le H' H'') : Le H H'' := fun c o e => b c o (a c o e)
theorem Le.upd {H : Hp} {p : Addr} {o : HO} (h : H p = none) : Le H (upd H p o) := fun b u e => by
  rw [upd_ne (ne_of_none e h)]; exact e
theorem Rd.le {H H' : Hp} {a : Addr} {u : HO} (l : Le H H') (r : Rd H a u) : Rd H' a u := by
  rcases r with r | ⟨o, r⟩
  · exact .inl (l _ _ r)
  · exact .inr ⟨o, l _ _ r⟩
theorem SqL.le {K : PySem.W.Frag} {H H' : Hp} {a : Addr} {xs : List V} (l : Le H H') (r : SqL K H a xs) : SqL K H' a xs := by
  rcases r with r | r
  · exact .inl (Rd.le l r)
  · exact .inr r
theorem SqT.le {K : PySem.W.Frag} {H H' : Hp} {a : Addr} {xs : List V} (l : Le H H') (r : SqT K H a xs) : SqT K H' a xs := by
  rcases r with r | r
  · exact .inl (Rd.le l r)
  · exact .inr r
/-- keys as data -/
def kD : Key → PyData
  | .inl i => .int i
  | .inr x => .str x
def tD (k : List Key) : PyData := .tuple (k.map kD)
/-! data by value: every tuple of it stands in the heap as one, every dict of it is locked for good -/
mutual
inductive Dp (K : PySem.W.Frag) (H : Hp) : V → PyData → Prop
  | non : Dp K H .non .none
  | bl (b : Bool) : Dp K H (.bl b) (.bool b)
  | int (i : Int) : Dp K H (.int i) (.int i)
  | str (x : Str) : Dp K H (.str x) (.str x)
  | lst {a : Addr} {xs : List V} {ds : List PyData} : SqL K H a xs → DpAll K H xs ds → Dp K H (.ref a) (.list ds)
  | tup {a : Addr} {xs : List V} {ds : List PyData} : H a = some (.tup xs) → DpAll K H xs ds → Dp K H (.ref a) (.tuple ds)
  | dicK {a : Addr} {o : Obj} {kvV : List (Key × V)} {kvs : List (PyData × PyData)} : H a = some (.frz o (.dK kvV)) → kvs.map (·.1) = kvV.map (fun p => kD p.1) → DpAll K H (kvV.map (·.2)) (kvs.map (·.2)) → Dp K H (.ref a) (.dict kvs)
  | dicT {a : Addr} {o : Obj} {kvV : List (List Key × V)} {kvs : List (PyData × PyData)} : H a = some (.frz o (.dT kvV)) → kvs.map (·.1) = kvV.map (fun p => tD p.1) → DpAll K H (kvV.map (·.2)) (kvs.map (·.2)) → Dp K H (.ref a) (.dict ((.none, .none) :: kvs))
inductive DpAll (K : PySem.W.Frag) (H : Hp) : List V → List PyData → Prop
  | nil : DpAll K H [] []
  | cons {v : V} {vs : List V} {d : PyData} {ds : List PyData} : Dp K H v d → DpAll K H vs ds → DpAll K H (v :: vs) (d :: ds)
end
/-! no dict within -/
mutual
def plain : PyData → Bool
  | .list xs => plainAll xs
  | .tuple xs => plainAll xs
  | .dict _ => false
  | _ => true
def plainAll : List PyData → Bool
  | [] => true
  | x :: xs => plain x && plainAll xs
end
mutual
theorem Dp.old {K : PySem.W.Frag} {H : Hp} : ∀ {v : V} {d : PyData}, plain d = true → Dp K H v d → L2.Dp K H v d
  | _, _, _, .non => .non
  | _, _, _, .bl b => .bl b
  | _, _, _, .int i => .int i
  | _, _, _, .str x => .str x
  | _, _, p, .lst s a => .lst s (DpAll.old (by simpa [plain] using p) a)
  | _, _, p, .tup s a => .tup (SqT.of s) (DpAll.old (by simpa [plain] using p) a)
  | _, _, p, .dicK _ _ _ => by simp [plain] at p
  | _, _, p, .dicT _ _ _ => by simp [plain] at p
theorem DpAll.old {K : PySem.W.Frag} {H : Hp} : ∀ {vs : List V} {ds : List PyData}, plainAll ds = true → DpAll K H vs ds → L2.DpAll K H vs ds
  | _, _, _, .nil => .nil
  | _, _, p, .cons a b => by
    rw [plainAll, Bool.and_eq_true_iff] at p
    exact .cons (Dp.old p.1 a) (DpAll.old p.2 b)
end
mutual
theorem plain_of : ∀ d : PyData, d.canLay0 = true → plain d = true
  | .none, _ => rfl
  | .bool _, _ => rfl
  | .int _, _ => rfl
  | .str _, _ => rfl
  | .list xs, h => by
    simp only [plain]
    exact plain_all xs (by simpa [PyData.canLay0] using h)
  | .tuple xs, h => by
    simp only [plain]
    exact plain_all xs (by simpa [PyData.canLay0] using h)
  | .dict _, h => by simp [PyData.canLay0] at h
theorem plain_all : ∀ ds : List PyData, PyData.canLayAll0 ds = true → plainAll ds = true
  | [], _ => rfl
  | d :: ds, h => by
    have h' : d.canLay0 = true ∧ PyData.canLayAll0 ds = true := by simpa [PyData.canLayAll0] using h
    simp only [plainAll, plain_of d h'.1, plain_all ds h'.2, Bool.and_self]
end
theorem plain_sh {d : PyData} (h : SeqAt.shaped d = true) : plain d = true := plain_of d (by
  unfold SeqAt.shaped at h
  exact (Bool.and_eq_true_iff.mp h).1)
mutual
theorem Dp.le {K : PySem.W.Frag} {H H' : Hp} (l : Le H H') : ∀ {v : V} {d : PyData}, Dp K H v d → Dp K H' v d
  | _, _, .non => .non
  | _, _, .bl b => .bl b
  | _, _, .int i => .int i
  | _, _, .str x => .str x
  | _, _, .lst s a => .lst (SqL.le l s) (DpAll.le l a)
  | _, _, .tup s a => .tup (l _ _ s) (DpAll.le l a)
  | _, _, .dicK s k a => .dicK (l _ _ s) k (DpAll.le l a)
  | _, _, .dicT s k a => .dicT (l _ _ s) k (DpAll.le l a)
theorem DpAll.le {K : PySem.W.Frag} {H H' : Hp} (l : Le H H') : ∀ {vs : List V} {ds : List PyData}, DpAll K H vs ds → DpAll K H' vs ds
  | _, _, .nil => .nil
  | _, _, .cons a b => .cons (Dp.le l a) (DpAll.le l b)
end
section
variable {K : PySem.W.Frag} {H : Hp}
theorem DpAll.length : ∀ {vs : List V} {ds : List PyData}, DpAll K H vs ds → vs.length = ds.length
  | _, _, .nil => rfl
  | _, _, .cons _ b => by simp [DpAll.length b]
theorem DpAll.get : ∀ {vs : List V} {ds : List PyData} {i : Nat} {d : PyData}, DpAll K H vs ds → ds[i]? = some d → ∃ v, vs[i]? = some v ∧ Dp K H v d
  | _, _, _, _, .nil, e => by simp at e
  | _, _, 0, _, .cons a _, e => by simp at e; subst e; exact ⟨_, rfl, a⟩
  | _, _, i + 1, d, .cons _ b, e => by
    obtain ⟨v, h1, h2⟩ := DpAll.get (i := i) (d := d) b (by simpa using e)
    exact ⟨v, by simpa using h1, h2⟩
theorem DpAll.getV : ∀ {vs : List V} {ds : List PyData} {i : Nat} {v : V}, DpAll K H vs ds → vs[i]? = some v → ∃ d, ds[i]? = some d ∧ Dp K H v d
  | _, _, _, _, .nil, e => by simp at e
  | _, _, 0, _, .cons a _, e => by simp at e; subst e; exact ⟨_, rfl, a⟩
  | _, _, i + 1, d, .cons _ b, e => by
    obtain ⟨v, h1, h2⟩ := DpAll.getV (i := i) (v := d) b (by simpa using e)
    exact ⟨v, by simpa using h1, h2⟩
theorem DpAll.append : ∀ {vs ws : List V} {ds es : List PyData}, DpAll K H vs ds → DpAll K H ws es → DpAll K H (vs ++ ws) (ds ++ es)
  | _, _, _, _, .nil, s => s
  | _, _, _, _, .cons r t, s => .cons r (DpAll.append t s)
theorem DpAll.set {v : V} {d : PyData} (r : Dp K H v d) : ∀ {vs : List V} {ds : List PyData} (i : Nat), DpAll K H vs ds → DpAll K H (vs.set i v) (ds.set i d)
  | _, _, _, .nil => .nil
  | _, _, 0, .cons _ t => .cons r t
  | _, _, i + 1, .cons q t => .cons q (DpAll.set r i t)
theorem DpAll.take : ∀ {vs : List V} {ds : List PyData} (n : Nat), DpAll K H vs ds → DpAll K H (vs.take n) (ds.take n)
  | _, _, 0, _ => .nil
  | _, _, _ + 1, .nil => .nil
  | _, _, n + 1, .cons r t => .cons r (DpAll.take n t)
theorem DpAll.drop : ∀ {vs : List V} {ds : List PyData} (n : Nat), DpAll K H vs ds → DpAll K H (vs.drop n) (ds.drop n)
  | _, _, 0, r => r
  | _, _, _ + 1, .nil => .nil
  | _, _, n + 1, .cons _ t => DpAll.drop n t
theorem DpAll.dropLast {vs : List V} {ds : List PyData} (h : DpAll K H vs ds) : DpAll K H vs.dropLast ds.dropLast := by
  rw [List.dropLast_eq_take, List.dropLast_eq_take, DpAll.length h]
  exact DpAll.take _ h
theorem DpAll.ints : ∀ {vs : List V} {ns : List Int}, DpAll K H vs (ns.map PyData.int) → vs = ns.map V.int
  | _, [], .nil => rfl
  | _, n :: ns, .cons (.int _) b => by rw [List.map_cons, DpAll.ints b]
theorem DpAll.of_ints : ∀ (ns : List Int), DpAll K H (ns.map V.int) (ns.map PyData.int)
  | [] => .nil
  | n :: ns => .cons (.int n) (DpAll.of_ints ns)
theorem DpAll.bls : ∀ {vs : List V} {ns : List Bool}, DpAll K H vs (ns.map PyData.bool) → vs = ns.map V.bl
  | _, [], .nil => rfl
  | _, n :: ns, .cons (.bl _) b => by rw [List.map_cons, DpAll.bls b]
theorem DpAll.nil_iff {vs : List V} {ds : List PyData} (h : DpAll K H vs ds) : vs.isEmpty = ds.isEmpty := by cases h <;> rfl
theorem Dp.int_of {v : V} {i : Int} (h : Dp K H v (.int i)) : v = .int i := by cases h; rfl
theorem Dp.bl_of {v : V} {b : Bool} (h : Dp K H v (.bool b)) : v = .bl b := by cases h; rfl
theorem Dp.list_of {v : V} {ds : List PyData} (h : Dp K H v (.list ds)) : ∃ a vs, v = .ref a ∧ SqL K H a vs ∧ DpAll K H vs ds := by
  cases h with | lst a b => exact ⟨_, _, rfl, a, b⟩
theorem Dp.tup_of {v : V} {ds : List PyData} (h : Dp K H v (.tuple ds)) : ∃ a vs, v = .ref a ∧ SqT K H a vs ∧ DpAll K H vs ds := by
  cases h with | tup a b => exact ⟨_, _, rfl, .of a, b⟩
theorem Dp.tup_at {v : V} {ds : List PyData} (h : Dp K H v (.tuple ds)) : ∃ a vs, v = .ref a ∧ H a = some (.tup vs) ∧ DpAll K H vs ds := by
  cases h with | tup a b => exact ⟨_, _, rfl, a, b⟩
end

/-- the row of draws: the script, how many are taken, the seed, what is left of a large cell -/
def RowOk (K : PySem.W.Frag) (hH H : Hp) (r : Addr) : Prop :=
  ∃ (sc : Addr) (ns : List Int) (i s b : Int), H r = some (.lst [.ref sc, .int i, .int s, .int b]) ∧ SqL K hH sc (ns.map V.int) ∧ 0 ≤ i ∧ 0 ≤ s ∧ s < 2147483647 ∧ 0 ≤ b

/-- a dict of one's own -/
def DicOk (K : PySem.W.Frag) (hH H : Hp) (a : Addr) : DCon → Prop
  | .K kvs => ∃ kvV : List (Key × V), H a = some (.dK kvV) ∧ kvV.map (·.1) = kvs.map (·.1) ∧ DpAll K hH (kvV.map (·.2)) (kvs.map (·.2))
  | .T kvs => ∃ kvV : List (List Key × V), H a = some (.dT kvV) ∧ kvV.map (·.1) = kvs.map (·.1) ∧ DpAll K hH (kvV.map (·.2)) (kvs.map (·.2))
/-- a dict of one's own that remembers answers: tuples of ints as keys, each answer as f says; some keys that are there -/
def keyI (k : List Int) : List Key := k.map Sum.inl
def MemOk (K : PySem.W.Frag) (hH H : Hp) (a : Addr) (f : List Int → PyData → Prop) (ks : List (List Int)) : Prop :=
  ∃ kvs : List (List Int × V × PyData), H a = some (.dT (kvs.map fun t => (keyI t.1, t.2.1))) ∧ (∀ t ∈ kvs, Dp K hH t.2.1 t.2.2 ∧ f t.1 t.2.2) ∧ (∀ k ∈ ks, ∃ t ∈ kvs, t.1 = k) ∧ (kvs.map (·.1)).Nodup
/-- a slot's value -/
def SlotOk (K : PySem.W.Frag) (C : Ctx) (hH H : Hp) : Option V → Slot → Prop
  | _, .un => True
  | some v, .sh d => Dp K hH v d
  | some v, .own a ds => v = .ref a ∧ (∃ vs, H a = some (.lst vs) ∧ DpAll K hH vs ds) ∧ C.H0 a = none
  | some v, .dic a c => v = .ref a ∧ DicOk K hH H a c ∧ C.H0 a = none
  | some v, .row => ∃ a, v = .ref a ∧ a ∈ C.rw
  | some v, .mem a f ks => v = .ref a ∧ MemOk K hH H a f ks ∧ C.H0 a = none
  | none, _ => False
theorem DicOk.move {K : PySem.W.Frag} {hH hH' H H' : Hp} {a : Addr} {c : DCon} (l : Le hH hH') (k : ∀ o, H a = some o → H' a = some o) (s : DicOk K hH H a c) : DicOk K hH' H' a c := by
  cases c with
  | K kvs => obtain ⟨w, h1, h2, h3⟩ := s; exact ⟨w, k _ h1, h2, DpAll.le l h3⟩
  | T kvs => obtain ⟨w, h1, h2, h3⟩ := s; exact ⟨w, k _ h1, h2, DpAll.le l h3⟩
theorem DicOk.some {K : PySem.W.Frag} {hH H : Hp} {a : Addr} {c : DCon} (s : DicOk K hH H a c) : ∃ o, H a = some o ∧ ∀ xs, o ≠ HO.tup xs := by
  cases c with
  | K kvs => obtain ⟨w, h1, _⟩ := s; exact ⟨_, h1, fun _ z => nomatch z⟩
  | T kvs => obtain ⟨w, h1, _⟩ := s; exact ⟨_, h1, fun _ z => nomatch z⟩
theorem MemOk.move {K : PySem.W.Frag} {hH hH' H H' : Hp} {a : Addr} {f : List Int → PyData → Prop} {ks : List (List Int)} (l : Le hH hH') (k : ∀ o, H a = some o → H' a = some o) (s : MemOk K hH H a f ks) : MemOk K hH' H' a f ks := by
  obtain ⟨kvs, h1, h2, h3⟩ := s
  exact ⟨kvs, k _ h1, fun t ht => ⟨Dp.le l (h2 t ht).1, (h2 t ht).2⟩, h3⟩
theorem MemOk.some {K : PySem.W.Frag} {hH H : Hp} {a : Addr} {f : List Int → PyData → Prop} {ks : List (List Int)} (s : MemOk K hH H a f ks) : ∃ o, H a = some o ∧ ∀ xs, o ≠ HO.tup xs := by
  obtain ⟨kvs, h1, _⟩ := s
  exact ⟨_, h1, fun _ z => nomatch z⟩
theorem SlotOk.move {K : PySem.W.Frag} {C C' : Ctx} {hH hH' H H' : Hp} {v : Option V} {x : Slot} (l : Le hH hH') (k : ∀ a, x.addr = some a → ∀ o, H a = some o → H' a = some o) (h0 : C'.H0 = C.H0) (hr : C'.rw = C.rw) (s : SlotOk K C hH H v x) : SlotOk K C' hH' H' v x := by
  cases x with
  | un => cases v <;> trivial
  | sh d => cases v with
    | none => cases s
    | some v => exact Dp.le l s
  | own a ds => cases v with
    | none => cases s
    | some v =>
      obtain ⟨e2, ⟨vs, e3, e4⟩, e5⟩ := s
      exact ⟨e2, ⟨vs, k a rfl _ e3, DpAll.le l e4⟩, by rw [h0]; exact e5⟩
  | dic a c => cases v with
    | none => cases s
    | some v =>
      obtain ⟨e2, e3, e5⟩ := s
      exact ⟨e2, DicOk.move l (k a rfl) e3, by rw [h0]; exact e5⟩
  | row => cases v with
    | none => cases s
    | some v => obtain ⟨a, e, m⟩ := s; exact ⟨a, e, by rw [hr]; exact m⟩
  | mem a f ks => cases v with
    | none => cases s
    | some v =>
      obtain ⟨e2, e3, e5⟩ := s
      exact ⟨e2, MemOk.move l (k a rfl) e3, by rw [h0]; exact e5⟩
/-- what a slot holds alone is there, and was not at the entry -/
theorem SlotOk.has {K : PySem.W.Frag} {C : Ctx} {hH H : Hp} {v : Option V} {x : Slot} {a : Addr} (s : SlotOk K C hH H v x) (h : x.addr = some a) : (∃ o, H a = some o ∧ ∀ xs, o ≠ HO.tup xs) ∧ C.H0 a = none := by
  cases x with
  | own b ds => cases h; cases v with
    | none => cases s
    | some v => obtain ⟨_, ⟨vs, e, _⟩, e2⟩ := s; exact ⟨⟨_, e, fun _ z => nomatch z⟩, e2⟩
  | dic b c => cases h; cases v with
    | none => cases s
    | some v => obtain ⟨_, e, e2⟩ := s; exact ⟨e.some, e2⟩
  | mem b f ks => cases h; cases v with
    | none => cases s
    | some v => obtain ⟨_, e, e2⟩ := s; exact ⟨e.some, e2⟩
  | _ => cases h

structure EnvD (C : Ctx) (K : PySem.W.Frag) (H : Hp) (σ : L2.St) (ρ : DEnv) : Prop where
  len : σ.length = ρ.length
  slots : ∀ (i : Nat) (x : Slot), ρ[i]? = some x → ∃ v, σ[i]? = some v ∧ SlotOk K C (hide (hs C ρ) H) H v x
  nd : (owns ρ).Nodup
  dj : ∀ a ∈ owns ρ, a ∉ C.ex ∧ a ∉ C.rw
  dr : ∀ a ∈ C.rw, a ∉ C.ex
  exd : ∀ a ∈ C.ex, ∃ o, H a = some o ∧ ∀ xs, o ≠ HO.tup xs
  row : ∀ a ∈ C.rw, RowOk K (hide (hs C ρ) H) H a
  keep : ∀ b o, C.H0 b = some o → b ∉ C.rw → H b = some o

theorem mem_owns {ρ : DEnv} {a : Addr} : a ∈ owns ρ ↔ ∃ (i : Nat) (x : Slot), ρ[i]? = some x ∧ x.addr = some a := by
  unfold owns
  rw [List.mem_filterMap]
  constructor
  · rintro ⟨x, hx, e⟩
    obtain ⟨i, hi⟩ := List.mem_iff_getElem?.mp hx
    exact ⟨i, x, hi, e⟩
  · rintro ⟨i, x, h, e⟩
    exact ⟨_, List.mem_of_getElem? h, e⟩

theorem nodup_two {ρ : DEnv} (nd : (owns ρ).Nodup) {i j : Nat} (ij : i ≠ j) {a : Addr} {x y : Slot} (h : ρ[i]? = some x) (hx : x.addr = some a) (h' : ρ[j]? = some y) (hy : y.addr = some a) : False := by
  induction ρ generalizing i j with
  | nil => simp at h
  | cons z ρ ih =>
    cases i with
    | zero =>
      cases j with
      | zero => exact ij rfl
      | succ j =>
        simp at h h'
        subst h
        have : owns (z :: ρ) = a :: owns ρ := List.filterMap_cons_some hx
        rw [this] at nd
        exact (List.nodup_cons.mp nd).1 (mem_owns.mpr ⟨j, y, h', hy⟩)
    | succ i =>
      cases j with
      | zero =>
        simp at h h'
        subst h'
        have : owns (z :: ρ) = a :: owns ρ := List.filterMap_cons_some hy
        rw [this] at nd
        exact (List.nodup_cons.mp nd).1 (mem_owns.mpr ⟨i, x, h, hx⟩)
      | succ j =>
        simp at h h'
        have nd' : (owns ρ).Nodup := by
          cases q : z.addr with
          | none =>
            have : owns (z :: ρ) = owns ρ := List.filterMap_cons_none q
            rw [this] at nd; exact nd
          | some b =>
            have : owns (z :: ρ) = b :: owns ρ := List.filterMap_cons_some q
            rw [this] at nd; exact (List.nodup_cons.mp nd).2
        exact ih nd' (fun z => ij (by rw [z])) h h'
section
variable {C : Ctx} {K : PySem.W.Frag} {H H' : Hp} {σ : L2.St} {ρ ρ' ρ'' : DEnv}
theorem EnvD.own_some (E : EnvD C K H σ ρ) {a : Addr} (h : a ∈ owns ρ) : ∃ o, H a = some o ∧ ∀ xs, o ≠ HO.tup xs := by
  obtain ⟨i, x, e, hx⟩ := mem_owns.mp h
  obtain ⟨v, _, s⟩ := E.slots i _ e
  exact (s.has hx).1
/-- what is hidden is there -/
theorem EnvD.hid (E : EnvD C K H σ ρ) {a : Addr} (h : a ∈ hs C ρ) : ∃ o, H a = some o ∧ ∀ xs, o ≠ HO.tup xs := by
  rcases List.mem_append.mp h with h | h
  · exact E.exd a h
  · rcases List.mem_append.mp h with h | h
    · obtain ⟨_, _, _, _, _, e, _⟩ := E.row a h; exact ⟨_, e, fun _ z => nomatch z⟩
    · exact E.own_some h
theorem hide_le {as : List Addr} (l : Le H H') : Le (hide as H) (hide as H') := fun b o e => by
  obtain ⟨n, e⟩ := hide_some e
  rw [hide_out n]; exact l b o e
/-- a step: what is not held alone is kept; what is newly held is new -/
structure Step (C : Ctx) (ρ : DEnv) (H : Hp) (ρ' : DEnv) (H' : Hp) : Prop where
  keep : ∀ b o, b ∉ mu C ρ → H b = some o → H' b = some o
  dom : ∀ b o, H b = some o → ∃ o', H' b = some o'
  new : ∀ a ∈ owns ρ', a ∈ owns ρ ∨ H a = none
theorem Step.rfl : Step C ρ H ρ H := ⟨fun _ _ _ e => e, fun _ o e => ⟨o, e⟩, fun _ h => .inl h⟩
theorem Step.trans {H'' : Hp} (s : Step C ρ H ρ' H') (t : Step C ρ' H' ρ'' H'') : Step C ρ H ρ'' H'' := by
  refine ⟨fun b o n e => ?_, fun b o e => ?_, fun a h => ?_⟩
  · refine t.keep b o (fun z => ?_) (s.keep b o n e)
    rcases List.mem_append.mp z with z | z
    · exact n (List.mem_append_left _ z)
    · rcases s.new b z with z | z
      · exact n (List.mem_append_right _ z)
      · rw [z] at e; cases e
  · obtain ⟨o', e'⟩ := s.dom b o e
    exact t.dom b o' e'
  · rcases t.new a h with h | h
    · exact s.new a h
    · cases q : H a with
      | none => exact .inr _root_.rfl
      | some o => obtain ⟨o', e'⟩ := s.dom a o q; rw [h] at e'; cases e'

theorem EnvD.le (E : EnvD C K H σ ρ) (l : Le H H') : EnvD C K H' σ ρ where
  len := E.len
  slots := fun i x e => by
    obtain ⟨v, e1, s⟩ := E.slots i x e
    exact ⟨v, e1, s.move (hide_le l) (fun a _ o e => l a o e) rfl rfl⟩
  nd := E.nd
  dj := E.dj
  dr := E.dr
  exd := fun a h => let ⟨o, e, n⟩ := E.exd a h; ⟨o, l _ _ e, n⟩
  row := fun a h => by
    obtain ⟨sc, ns, i, s, b, e, q, r⟩ := E.row a h
    exact ⟨sc, ns, i, s, b, l _ _ e, SqL.le (hide_le l) q, r⟩
  keep := fun b o e n => l _ _ (E.keep b o e n)
theorem Step.le (l : Le H H') : Step C ρ H ρ H' := ⟨fun b o _ e => l b o e, fun b o e => ⟨o, l b o e⟩, fun _ h => .inl h⟩
/-- what is visible stays so -/
theorem Step.vis (s : Step C ρ H ρ' H') : Le (hide (hs C ρ) H) (hide (hs C ρ') H') := fun b o e => by
  obtain ⟨n, e⟩ := hide_some e
  have n1 : b ∉ C.ex := fun z => n (List.mem_append_left _ z)
  have n2 : b ∉ mu C ρ := fun z => n (List.mem_append_right _ z)
  rw [hide_out]
  · exact s.keep b o n2 e
  · intro z
    rcases List.mem_append.mp z with z | z
    · exact n1 z
    · rcases List.mem_append.mp z with z | z
      · exact n2 (List.mem_append_left _ z)
      · rcases s.new b z with z | z
        · exact n2 (List.mem_append_right _ z)
        · rw [z] at e; cases e
theorem EnvD.fresh0 (E : EnvD C K H σ ρ) {a : Addr} (h : H a = none) : C.H0 a = none := by
  cases q : C.H0 a with
  | none => rfl
  | some o =>
    by_cases r : a ∈ C.rw
    · obtain ⟨_, _, _, _, _, e, _⟩ := E.row a r; rw [h] at e; cases e
    · rw [E.keep a o q r] at h; cases h
theorem EnvD.notin (E : EnvD C K H σ ρ) {a : Addr} (h : H a = none) : a ∉ hs C ρ := fun z => by
  obtain ⟨o, e, _⟩ := E.hid z; rw [h] at e; cases e

/-! ### slots that change -/
theorem owns_set_sub {i : Nat} {x : Slot} (hx : x.addr = none) {a : Addr} (h : a ∈ owns (ρ.set i x)) : a ∈ owns ρ := by
  obtain ⟨j, y, e, hy⟩ := mem_owns.mp h
  rw [List.getElem?_set] at e
  split at e
  · split at e
    · cases e; rw [hx] at hy; cases hy
    · cases e
  · exact mem_owns.mpr ⟨j, y, e, hy⟩
theorem filterMap_set_sub {x : Slot} (hx : x.addr = none) : ∀ (ρ : DEnv) (i : Nat), (owns (ρ.set i x)).Sublist (owns ρ)
  | [], _ => by simp [owns]
  | y :: ρ, 0 => by
    show (List.filterMap Slot.addr (x :: ρ)).Sublist (List.filterMap Slot.addr (y :: ρ))
    rw [List.filterMap_cons_none hx]
    cases h : y.addr with
    | none => rw [List.filterMap_cons_none h]; exact List.Sublist.refl _
    | some a => rw [List.filterMap_cons_some h]; exact List.Sublist.cons _ (List.Sublist.refl _)
  | y :: ρ, i + 1 => by
    show (List.filterMap Slot.addr (y :: ρ.set i x)).Sublist (List.filterMap Slot.addr (y :: ρ))
    have ih := filterMap_set_sub hx ρ i
    cases h : y.addr with
    | none => rw [List.filterMap_cons_none h, List.filterMap_cons_none h]; exact ih
    | some a => rw [List.filterMap_cons_some h, List.filterMap_cons_some h]; exact List.Sublist.cons_cons _ ih
theorem hide_sub {as bs : List Addr} (h : ∀ b, b ∈ bs → b ∈ as) : Le (hide as H) (hide bs H) := fun b o e => by
  obtain ⟨n, e⟩ := hide_some e
  rw [hide_out (fun z => n (h b z))]; exact e
theorem hs_sub (h : ∀ b, b ∈ owns ρ' → b ∈ owns ρ) : ∀ b, b ∈ hs C ρ' → b ∈ hs C ρ := fun b z => by
  rcases List.mem_append.mp z with z | z
  · exact List.mem_append_left _ z
  · rcases List.mem_append.mp z with z | z
    · exact List.mem_append_right _ (List.mem_append_left _ z)
    · exact List.mem_append_right _ (List.mem_append_right _ (h b z))
theorem SlotOk.mono {hH hH' : Hp} {v : Option V} {x : Slot} (l : Le hH hH') (s : SlotOk K C hH H v x) : SlotOk K C hH' H v x := s.move l (fun _ _ _ e => e) rfl rfl
theorem RowOk.mono {hH hH' : Hp} {r : Addr} (l : Le hH hH') (s : RowOk K hH H r) : RowOk K hH' H r := by
  obtain ⟨sc, ns, i, s, b, e, q, r⟩ := s
  exact ⟨sc, ns, i, s, b, e, SqL.le l q, r⟩
/-- a slot is given something that is no list of one's own -/
theorem EnvD.put (E : EnvD C K H σ ρ) {i : Nat} {v : Option V} {x : Slot} (hx : x.addr = none) (hs' : SlotOk K C (hide (hs C (ρ.set i x)) H) H v x) : EnvD C K H (σ.set i v) (ρ.set i x) := by
  have sub : ∀ b, b ∈ owns (ρ.set i x) → b ∈ owns ρ := fun b z => owns_set_sub hx z
  have l : Le (hide (hs C ρ) H) (hide (hs C (ρ.set i x)) H) := hide_sub (hs_sub sub)
  refine ⟨by simp [E.len], fun j y e => ?_, (filterMap_set_sub hx ρ i).nodup E.nd, fun a h => E.dj a (sub a h), E.dr, E.exd, fun a h => RowOk.mono l (E.row a h), E.keep⟩
  rw [List.getElem?_set] at e
  by_cases ij : i = j
  · subst ij
    rw [if_pos rfl] at e
    split at e
    · cases e
      exact ⟨v, by rw [List.getElem?_set]; simp [E.len]; assumption, hs'⟩
    · cases e
  · rw [if_neg ij] at e
    obtain ⟨u, e1, s⟩ := E.slots j y e
    exact ⟨u, by rw [List.getElem?_set_ne ij]; exact e1, SlotOk.mono l s⟩
theorem EnvD.sh (E : EnvD C K H σ ρ) {i : Nat} {v : V} {d : PyData} (h : Dp K (hide (hs C ρ) H) v d) : EnvD C K H (σ.set i (some v)) (ρ.set i (.sh d)) :=
  E.put rfl (Dp.le (hide_sub (hs_sub fun b z => owns_set_sub rfl z)) h)
theorem Step.put {i : Nat} {x : Slot} (hx : x.addr = none) : Step C ρ H (ρ.set i x) H := ⟨fun _ _ _ e => e, fun _ o e => ⟨o, e⟩, fun _ h => .inl (owns_set_sub hx h)⟩
/-- a list of one's own is let go: from now on it stays as it is -/
theorem EnvD.freeze (E : EnvD C K H σ ρ) {i : Nat} {a : Addr} {ds : List PyData} (h : ρ[i]? = some (.own a ds)) : EnvD C K H σ (ρ.set i (.sh (.list ds))) ∧ ∃ v, σ[i]? = some (some v) ∧ Dp K (hide (hs C (ρ.set i (.sh (.list ds)))) H) v (.list ds) := by
  obtain ⟨v, e, s⟩ := E.slots i _ h
  cases v with
  | none => cases s
  | some v =>
    obtain ⟨e2, ⟨vs, e3, e4⟩, e5⟩ := s
    have sub : ∀ b, b ∈ owns (ρ.set i (.sh (.list ds))) → b ∈ owns ρ := fun b z => owns_set_sub rfl z
    have l : Le (hide (hs C ρ) H) (hide (hs C (ρ.set i (.sh (.list ds)))) H) := hide_sub (hs_sub sub)
    have na : a ∉ owns (ρ.set i (.sh (.list ds))) := by
      intro z
      obtain ⟨j, y, q, hy⟩ := mem_owns.mp z
      by_cases ij : i = j
      · subst ij
        rw [List.getElem?_set] at q
        split at q
        · split at q
          · cases q; cases hy
          · cases q
        · rename_i z; exact z rfl
      · rw [List.getElem?_set_ne ij] at q
        exact nodup_two E.nd ij h rfl q hy
    have ha := E.dj a (mem_owns.mpr ⟨i, _, h, rfl⟩)
    have vis : a ∉ hs C (ρ.set i (.sh (.list ds))) := fun z => by
      rcases List.mem_append.mp z with z | z
      · exact ha.1 z
      · rcases List.mem_append.mp z with z | z
        · exact ha.2 z
        · exact na z
    have D : Dp K (hide (hs C (ρ.set i (.sh (.list ds)))) H) v (.list ds) := by
      subst e2
      exact .lst (SqL.of (by rw [hide_out vis]; exact e3)) (DpAll.le l e4)
    refine ⟨?_, v, e, D⟩
    have E' := E.put (i := i) (v := some v) (x := .sh (.list ds)) rfl D
    have q : σ.set i (some v) = σ := by
      apply List.ext_getElem?
      intro j
      by_cases ij : i = j
      · subst ij
        rw [e, List.getElem?_set_self (by exact (List.getElem?_eq_some_iff.mp e).1)]
      · rw [List.getElem?_set_ne ij]
    rw [q] at E'
    exact E'
end
end DL
/-! DL: the judgements: what a piece of Python asks, said of data. -/
namespace DL
open PySem PySem.Spec PyProof.Rows L2
abbrev DQ := PyData → DEnv → Prop
abbrev TDE := DEnv → DQ → Prop
abbrev TDT := DEnv → (Bool → DEnv → Prop) → Prop
abbrev TDA := DEnv → (List PyData → DEnv → Prop) → Prop
/-- an expression -/
structure DE (X : Cx) (e : Expr) (t : TDE) : Prop where
  ex : ∃ te, PE X e te ∧ ∀ C σ H ρ q Q, EnvD C X.K H σ ρ → t ρ q → (∀ v H' d ρ', EnvD C X.K H' σ ρ' → Step C ρ H ρ' H' → Dp X.K (hide (hs C ρ') H') v d → q d ρ' → Q v H') → te σ H Q
/-- a value that may be a list of one's own, lent -/
def BV (K : PySem.W.Frag) (C : Ctx) (ρ : DEnv) (H : Hp) (v : V) (d : PyData) : Prop :=
  Dp K (hide (hs C ρ) H) v d ∨ ∃ a vs ds, v = .ref a ∧ d = .list ds ∧ H a = some (.lst vs) ∧ DpAll K (hide (hs C ρ) H) vs ds ∧ ∃ i : Nat, ρ[i]? = some (.own a ds)
structure DB (X : Cx) (e : Expr) (t : TDE) : Prop where
  ex : ∃ te, PE X e te ∧ ∀ C σ H ρ q Q, EnvD C X.K H σ ρ → t ρ q → (∀ v H' d ρ', EnvD C X.K H' σ ρ' → Step C ρ H ρ' H' → BV X.K C ρ' H' v d → q d ρ' → Q v H') → te σ H Q
/-- a test -/
structure DT (X : Cx) (e : Expr) (t : TDT) : Prop where
  ex : ∃ te, PT X e te ∧ ∀ C σ H ρ q Q, EnvD C X.K H σ ρ → t ρ q → (∀ b H' ρ', EnvD C X.K H' σ ρ' → Step C ρ H ρ' H' → q b ρ' → Q b H') → te σ H Q
structure DW (X : Cx) (e : Expr) (t : TDT) : Prop where
  ex : ∃ te, PW X e te ∧ ∀ C σ H ρ q Q, EnvD C X.K H σ ρ → t ρ q → (∀ b H' ρ', EnvD C X.K H' σ ρ' → Step C ρ H ρ' H' → q b ρ' → Q b H') → te σ H Q
/-- arguments -/
structure DA (X : Cx) (es : List Expr) (t : TDA) : Prop where
  ex : ∃ te, PA X es te ∧ ∀ C σ H ρ q Q, EnvD C X.K H σ ρ → t ρ q → (∀ vs H' ds ρ', EnvD C X.K H' σ ρ' → Step C ρ H ρ' H' → DpAll X.K (hide (hs C ρ') H') vs ds → q ds ρ' → Q vs H') → te σ H Q
abbrev Ctx.with (C : Ctx) (a : Addr) : Ctx := { C with ex := a :: C.ex }
/-- an expression that makes a new list -/
structure DF (X : Cx) (e : Expr) (t : TDA) : Prop where
  ex : ∃ te, PE X e te ∧ ∀ C σ H ρ q Q, EnvD C X.K H σ ρ → t ρ q → (∀ a vs H' ds ρ', EnvD (C.with a) X.K H' σ ρ' → Step C ρ H ρ' H' → H a = none → H' a = some (.lst vs) → DpAll X.K (hide (hs (C.with a) ρ') H') vs ds → q ds ρ' → Q (.ref a) H') → te σ H Q
/-- what is wanted behind a statement -/
structure DEnds where
  nx : DEnv → Prop
  rt : PyData → DEnv → Prop
  bk : DEnv → Prop := fun _ => False
  ct : DEnv → Prop := fun _ => False
abbrev TDS := DEnds → DEnv → Prop
structure EndsOk (C : Ctx) (K : PySem.W.Frag) (ρ : DEnv) (H : Hp) (q : DEnds) (Q : Ends) : Prop where
  nx : ∀ σ' H' ρ', EnvD C K H' σ' ρ' → Step C ρ H ρ' H' → q.nx ρ' → Q.nx σ' H'
  rt : ∀ v σ' H' d ρ', EnvD C K H' σ' ρ' → Step C ρ H ρ' H' → Dp K (hide (hs C ρ') H') v d → q.rt d ρ' → Q.rt v H'
  bk : ∀ σ' H' ρ', EnvD C K H' σ' ρ' → Step C ρ H ρ' H' → q.bk ρ' → Q.bk σ' H'
  ct : ∀ σ' H' ρ', EnvD C K H' σ' ρ' → Step C ρ H ρ' H' → q.ct ρ' → Q.ct σ' H'
theorem EndsOk.step {C : Ctx} {K : PySem.W.Frag} {ρ ρ1 : DEnv} {H H1 : Hp} {q : DEnds} {Q : Ends} (e : EndsOk C K ρ H q Q) (s : Step C ρ H ρ1 H1) : EndsOk C K ρ1 H1 q Q :=
  ⟨fun σ' H' ρ' a b => e.nx σ' H' ρ' a (s.trans b), fun v σ' H' d ρ' a b => e.rt v σ' H' d ρ' a (s.trans b), fun σ' H' ρ' a b => e.bk σ' H' ρ' a (s.trans b), fun σ' H' ρ' a b => e.ct σ' H' ρ' a (s.trans b)⟩
structure DS (X : Cx) (st : Stmt) (t : TDS) : Prop where
  ex : ∃ ts, PS X st ts ∧ ∀ C σ H ρ q Q, EnvD C X.K H σ ρ → t q ρ → EndsOk C X.K ρ H q Q → ts Q σ H
structure DSs (X : Cx) (st : List Stmt) (t : TDS) : Prop where
  ex : ∃ ts, PSs X st ts ∧ ∀ C σ H ρ q Q, EnvD C X.K H σ ρ → t q ρ → EndsOk C X.K ρ H q Q → ts Q σ H

section
variable {X : Cx} {e a b c : Expr} {es : List Expr} {pos : Pos} {t ta tb tc : TDE}
/-! ### names, constants -/
def tdSh (i : Nat) : TDE := fun ρ q => match ρ[i]? with
  | some (.sh d) => q d ρ
  | some (.own _ ds) => q (.list ds) (ρ.set i (.sh (.list ds)))
  | _ => False
theorem de_var {i : Nat} {x : Str} (hN : X.N[i]? = some x) (hv : Vis X.env.scope x) (hd : (x == ("__debug__" : Str)) = false := by decide) (hcd : (x == ("__classdict__" : Str)) = false := by decide) : DE X (.Name x pos) (tdSh i) := by
  refine ⟨_, pe_var hN hv hd hcd, fun C σ H ρ q Q E h k => ?_⟩
  unfold tdSh at h
  split at h
  · rename_i d e
    obtain ⟨v, e1, s⟩ := E.slots i _ e
    cases v with
    | none => cases s
    | some v => exact ⟨v, e1, k v H d ρ E .rfl s h⟩
  · rename_i a ds e
    obtain ⟨E', v, e1, D⟩ := E.freeze e
    exact ⟨v, e1, k v H _ _ E' (.put rfl) D h⟩
  · exact h.elim
def tdLent (i : Nat) : TDE := fun ρ q => match ρ[i]? with
  | some (.sh d) => q d ρ
  | some (.own _ ds) => q (.list ds) ρ
  | _ => False
theorem db_var {i : Nat} {x : Str} (hN : X.N[i]? = some x) (hv : Vis X.env.scope x) (hd : (x == ("__debug__" : Str)) = false := by decide) (hcd : (x == ("__classdict__" : Str)) = false := by decide) : DB X (.Name x pos) (tdLent i) := by
  refine ⟨_, pe_var hN hv hd hcd, fun C σ H ρ q Q E h k => ?_⟩
  unfold tdLent at h
  split at h
  · rename_i d e
    obtain ⟨v, e1, s⟩ := E.slots i _ e
    cases v with
    | none => cases s
    | some v => exact ⟨v, e1, k v H d ρ E .rfl (.inl s) h⟩
  · rename_i a ds e
    obtain ⟨v, e1, s⟩ := E.slots i _ e
    cases v with
    | none => cases s
    | some v =>
      obtain ⟨e2, ⟨vs, e3, e4⟩, e5⟩ := s
      exact ⟨v, e1, k v H _ ρ E .rfl (.inr ⟨a, vs, ds, e2, rfl, e3, e4, i, e⟩) h⟩
  · exact h.elim
theorem DE.lend (h : DE X e t) : DB X e t := by
  obtain ⟨te, hp, hq⟩ := h.ex
  exact ⟨te, hp, fun C σ H ρ q Q E w k => hq C σ H ρ q Q E w fun v H' d ρ' E' s D z => k v H' d ρ' E' s (.inl D) z⟩
theorem BV.list {K : PySem.W.Frag} {C : Ctx} {ρ : DEnv} {H : Hp} {v : V} {ds : List PyData} (h : BV K C ρ H v (.list ds)) : ∃ a vs, v = .ref a ∧ SqL K H a vs ∧ DpAll K (hide (hs C ρ) H) vs ds := by
  rcases h with h | ⟨a, vs, es, e1, e2, e3, e4, _⟩
  · obtain ⟨a, vs, e, s, d⟩ := Dp.list_of h
    exact ⟨a, vs, e, SqL.le (fun b o z => (hide_some z).2) s, d⟩
  · cases e2; exact ⟨a, vs, e1, SqL.of e3, e4⟩
theorem hide_Le {as : List Addr} {H : Hp} : Le (hide as H) H := fun b o z => (hide_some z).2
theorem BV.tup {K : PySem.W.Frag} {C : Ctx} {ρ : DEnv} {H : Hp} {v : V} {ds : List PyData} (h : BV K C ρ H v (.tuple ds)) : ∃ a vs, v = .ref a ∧ SqT K H a vs ∧ DpAll K (hide (hs C ρ) H) vs ds := by
  rcases h with h | ⟨a, vs, es, e1, e2, e3, e4, _⟩
  · obtain ⟨a, vs, e, s, d⟩ := Dp.tup_of h
    exact ⟨a, vs, e, SqT.le hide_Le s, d⟩
  · cases e2
theorem BV.flat {K : PySem.W.Frag} {C : Ctx} {ρ : DEnv} {H : Hp} {v : V} {d : PyData} (h : BV K C ρ H v d) (n : ∀ ds, d ≠ .list ds) : Dp K (hide (hs C ρ) H) v d := by
  rcases h with h | ⟨a, vs, es, e1, e2, e3, e4, _⟩
  · exact h
  · exact absurd e2 (n es)
/-- lent: through a step -/
theorem BV.step {K : PySem.W.Frag} {C : Ctx} {ρ ρ' : DEnv} {H H' : Hp} {v : V} {d : PyData} (h : Dp K (hide (hs C ρ) H) v d) (s : Step C ρ H ρ' H') : Dp K (hide (hs C ρ') H') v d := Dp.le s.vis h
def tdC (d : PyData) : TDE := fun ρ q => q d ρ
theorem de_int {i j} : DE X (.Constant (.int i) j pos) (tdC (.int i)) := ⟨_, pe_int, fun C σ H ρ q Q E h k => k _ H _ ρ E .rfl (.int i) h⟩
theorem de_bl {b j} : DE X (.Constant (.bool b) j pos) (tdC (.bool b)) := ⟨_, pe_bl, fun C σ H ρ q Q E h k => k _ H _ ρ E .rfl (.bl b) h⟩
theorem de_non {j} : DE X (.Constant .none j pos) (tdC .none) := ⟨_, pe_non, fun C σ H ρ q Q E h k => k _ H _ ρ E .rfl .non h⟩
/-- a module's plain constant -/
theorem de_glob {x : Str} {v : V} {u : Value} {d : PyData} (hg : Gl X x) (hm : X.mg x = some u) (r : RelV v u) (hd : ∀ H, Dp X.K H v d) (hdb : (x == ("__debug__" : Str)) = false := by decide) : DE X (.Name x pos) (tdC d) :=
  ⟨_, pe_glob hg hm r hdb, fun C σ H ρ q Q E h k => k _ H _ ρ E .rfl (hd _) h⟩

/-! ### operators -/
abbrev RD2 := PyData → PyData → (PyData → Prop) → Prop
def LOp (X : Cx) (f : Value → Value → Sem Value) (rd : RD2) : Prop :=
  ∃ r, OpR X f r ∧ ∀ as H x y dx dy qd Q, (∀ a ∈ as, ∃ o, H a = some o ∧ ∀ xs, o ≠ HO.tup xs) → Dp X.K (hide as H) x dx → Dp X.K (hide as H) y dy → rd dx dy qd →
    (∀ v H' d, Le H H' → Dp X.K (hide as H') v d → qd d → Q v H') → r x y H Q
def td2 (rd : RD2) (ta tb : TDE) : TDE := fun ρ q => ta ρ fun x ρ1 => tb ρ1 fun y ρ2 => rd x y fun z => q z ρ2
theorem de_op {op : Operator} {rd : RD2} (hl : LOp X (binaryOp op) rd) (ha : DE X a ta) (hb : DE X b tb) : DE X (.BinOp a op b pos) (td2 rd ta tb) := by
  obtain ⟨r, ho, hl⟩ := hl
  obtain ⟨pa, ha, qa⟩ := ha.ex
  obtain ⟨pb, hb, qb⟩ := hb.ex
  refine ⟨_, pe_op ho ha hb, fun C σ H ρ q Q E h k => ?_⟩
  refine qa C σ H ρ _ _ E h fun x H1 dx ρ1 E1 s1 D1 h1 => ?_
  refine qb C σ H1 ρ1 _ _ E1 h1 fun y H2 dy ρ2 E2 s2 D2 h2 => ?_
  refine hl (hs C ρ2) H2 x y dx dy _ _ (fun a h => E2.hid h) (BV.step D1 s2) D2 h2 fun v H3 d l D q3 => ?_
  exact k v H3 d ρ2 (E2.le l) ((s1.trans s2).trans (.le l)) D q3
theorem de_cmp {op : CmpOp} {rd : RD2} (hl : LOp X (compareOp op) rd) (ha : DE X a ta) (hb : DE X b tb) (hm : behindInMarks op b = false) : DE X (.Compare a [op] [b] pos) (td2 rd ta tb) := by
  obtain ⟨r, ho, hl⟩ := hl
  obtain ⟨pa, ha, qa⟩ := ha.ex
  obtain ⟨pb, hb, qb⟩ := hb.ex
  refine ⟨_, pe_cmpR ho ha hb hm, fun C σ H ρ q Q E h k => ?_⟩
  refine qa C σ H ρ _ _ E h fun x H1 dx ρ1 E1 s1 D1 h1 => ?_
  refine qb C σ H1 ρ1 _ _ E1 h1 fun y H2 dy ρ2 E2 s2 D2 h2 => ?_
  refine hl (hs C ρ2) H2 x y dx dy _ _ (fun a h => E2.hid h) (BV.step D1 s2) D2 h2 fun v H3 d l D q3 => ?_
  exact k v H3 d ρ2 (E2.le l) ((s1.trans s2).trans (.le l)) D q3
/-- a bool as a test -/
def tdB (t : TDE) : TDT := fun ρ q => t ρ fun d ρ1 => match d with
  | .bool b => q b ρ1
  | _ => False
theorem dt_of {te : TE} (hp : PT X e (tTest te)) (hq : ∀ C σ H ρ q Q, EnvD C X.K H σ ρ → t ρ q → (∀ v H' d ρ', EnvD C X.K H' σ ρ' → Step C ρ H ρ' H' → Dp X.K (hide (hs C ρ') H') v d → q d ρ' → Q v H') → te σ H Q) : DT X e (tdB t) := by
  refine ⟨_, hp, fun C σ H ρ q Q E h k => ?_⟩
  refine hq C σ H ρ _ _ E h fun v H' d ρ' E' s D z => ?_
  cases d with
  | bool b => cases D; exact ⟨b, rfl, k b H' ρ' E' s z⟩
  | _ => exact z.elim
theorem dt_cmp {op : CmpOp} {rd : RD2} (hl : LOp X (compareOp op) rd) (ha : DE X a ta) (hb : DE X b tb) (hm : behindInMarks op b = false) : DT X (.Compare a [op] [b] pos) (tdB (td2 rd ta tb)) := by
  obtain ⟨r, ho, hl⟩ := hl
  obtain ⟨pa, ha, qa⟩ := ha.ex
  obtain ⟨pb, hb, qb⟩ := hb.ex
  refine dt_of (pt_cmpR ho ha hb hm) fun C σ H ρ q Q E h k => ?_
  refine qa C σ H ρ _ _ E h fun x H1 dx ρ1 E1 s1 D1 h1 => ?_
  refine qb C σ H1 ρ1 _ _ E1 h1 fun y H2 dy ρ2 E2 s2 D2 h2 => ?_
  refine hl (hs C ρ2) H2 x y dx dy _ _ (fun a h => E2.hid h) (BV.step D1 s2) D2 h2 fun v H3 d l D q3 => ?_
  exact k v H3 d ρ2 (E2.le l) ((s1.trans s2).trans (.le l)) D q3
/-- an expression whose value is a bool -/
theorem dt_val (h : DE X e t) (he : ∀ whole, isTrue e X.env whole = (do let v ← whole; standAt e.pos; holding [v] (truthy v)) := by intro _; rfl) : DT X e (tdB t) := by
  obtain ⟨te, hp, hq⟩ := h.ex
  exact dt_of (pt_val hp he) hq
/-! ### and, or, not -/
def tdAnd (t u : TDT) : TDT := fun ρ q => t ρ fun c ρ1 => if c = true then u ρ1 q else q false ρ1
def tdOr (t u : TDT) : TDT := fun ρ q => t ρ fun c ρ1 => if c = true then q true ρ1 else u ρ1 q
def tdNot (t : TDT) : TDT := fun ρ q => t ρ fun c ρ1 => q (!c) ρ1
variable {tA tB : TDT} {rest : List Expr}
theorem DW.dt (h : DW X e tA) : DT X e tA := by obtain ⟨te, hp, hq⟩ := h.ex; exact ⟨te, hp.pt, hq⟩
theorem dw_and1 (h : DT X a tA) : DW X (.BoolOp .And [a] pos) tA := by obtain ⟨te, hp, hq⟩ := h.ex; exact ⟨te, pw_and1 hp, hq⟩
theorem dw_or1 (h : DT X a tA) : DW X (.BoolOp .Or [a] pos) tA := by obtain ⟨te, hp, hq⟩ := h.ex; exact ⟨te, pw_or1 hp, hq⟩
theorem dw_and (ha : DT X a tA) (hb : DW X (.BoolOp .And (b :: rest) pos) tB) : DW X (.BoolOp .And (a :: b :: rest) pos) (tdAnd tA tB) := by
  obtain ⟨pa, ha, qa⟩ := ha.ex
  obtain ⟨pb, hb, qb⟩ := hb.ex
  refine ⟨_, pw_and ha hb, fun C σ H ρ q Q E h k => ?_⟩
  refine qa C σ H ρ _ _ E h fun x H1 ρ1 E1 s1 h1 => ?_
  cases x with
  | true => exact qb C σ H1 ρ1 _ _ E1 h1 fun y H2 ρ2 E2 s2 h2 => k y H2 ρ2 E2 (s1.trans s2) h2
  | false => exact k false H1 ρ1 E1 s1 h1
theorem dw_or (ha : DT X a tA) (hb : DW X (.BoolOp .Or (b :: rest) pos) tB) : DW X (.BoolOp .Or (a :: b :: rest) pos) (tdOr tA tB) := by
  obtain ⟨pa, ha, qa⟩ := ha.ex
  obtain ⟨pb, hb, qb⟩ := hb.ex
  refine ⟨_, pw_or ha hb, fun C σ H ρ q Q E h k => ?_⟩
  refine qa C σ H ρ _ _ E h fun x H1 ρ1 E1 s1 h1 => ?_
  cases x with
  | true => exact k true H1 ρ1 E1 s1 h1
  | false => exact qb C σ H1 ρ1 _ _ E1 h1 fun y H2 ρ2 E2 s2 h2 => k y H2 ρ2 E2 (s1.trans s2) h2
theorem dt_not (h : DT X a tA) : DT X (.UnaryOp .Not a pos) (tdNot tA) := by
  obtain ⟨te, hp, hq⟩ := h.ex
  exact ⟨_, pt_not hp, fun C σ H ρ q Q E h k => hq C σ H ρ _ _ E h fun b H' ρ' E' s z => k _ H' ρ' E' s z⟩
/-- .. as values: all but the last True or False -/
def tdAndV (ta tb : TDE) : TDE := fun ρ q => ta ρ fun x ρ1 => match x with
  | .bool c => if c = true then tb ρ1 q else q (.bool false) ρ1
  | _ => False
def tdOrV (ta tb : TDE) : TDE := fun ρ q => ta ρ fun x ρ1 => match x with
  | .bool c => if c = true then q (.bool true) ρ1 else tb ρ1 q
  | _ => False
def tdNotV (ta : TDE) : TDE := fun ρ q => ta ρ fun x ρ1 => match x with
  | .bool c => q (.bool (!c)) ρ1
  | _ => False
theorem de_one {op} (h : DE X a ta) : DE X (.BoolOp op [a] pos) ta := by obtain ⟨te, hp, hq⟩ := h.ex; exact ⟨te, pe_one hp, hq⟩
theorem de_and (ha : DE X a ta) (hb : DE X (.BoolOp .And (b :: rest) pos) tb) : DE X (.BoolOp .And (a :: b :: rest) pos) (tdAndV ta tb) := by
  obtain ⟨pa, ha, qa⟩ := ha.ex
  obtain ⟨pb, hb, qb⟩ := hb.ex
  refine ⟨_, pe_and ha hb, fun C σ H ρ q Q E h k => ?_⟩
  refine qa C σ H ρ _ _ E h fun x H1 dx ρ1 E1 s1 D1 h1 => ?_
  cases dx with
  | bool c =>
    cases D1
    refine ⟨c, rfl, ?_⟩
    cases c with
    | true => exact qb C σ H1 ρ1 _ _ E1 h1 fun y H2 d2 ρ2 E2 s2 D2 h2 => k y H2 d2 ρ2 E2 (s1.trans s2) D2 h2
    | false => exact k _ H1 _ ρ1 E1 s1 (.bl false) h1
  | _ => exact h1.elim
theorem de_not (h : DE X a ta) : DE X (.UnaryOp .Not a pos) (tdNotV ta) := by
  obtain ⟨te, hp, hq⟩ := h.ex
  refine ⟨_, pe_not hp, fun C σ H ρ q Q E h k => hq C σ H ρ _ _ E h fun x H1 dx ρ1 E1 s1 D1 h1 => ?_⟩
  cases dx with
  | bool c => cases D1; exact ⟨c, rfl, k _ H1 _ ρ1 E1 s1 (.bl _) h1⟩
  | _ => exact h1.elim
/-- a if t else b -/
def tdIf (t : TDT) (ta tb : TDE) : TDE := fun ρ q => t ρ fun c ρ1 => if c = true then ta ρ1 q else tb ρ1 q
theorem de_if (hc : DT X c tA) (ha : DE X a ta) (hb : DE X b tb) : DE X (.IfExp c a b pos) (tdIf tA ta tb) := by
  obtain ⟨pc, hc, qc⟩ := hc.ex
  obtain ⟨pa, ha, qa⟩ := ha.ex
  obtain ⟨pb, hb, qb⟩ := hb.ex
  refine ⟨_, pe_ifExp hc ha hb, fun C σ H ρ q Q E h k => ?_⟩
  refine qc C σ H ρ _ _ E h fun x H1 ρ1 E1 s1 h1 => ?_
  cases x with
  | true => exact qa C σ H1 ρ1 _ _ E1 h1 fun y H2 d2 ρ2 E2 s2 D2 h2 => k y H2 d2 ρ2 E2 (s1.trans s2) D2 h2
  | false => exact qb C σ H1 ρ1 _ _ E1 h1 fun y H2 d2 ρ2 E2 s2 D2 h2 => k y H2 d2 ρ2 E2 (s1.trans s2) D2 h2
/-! ### arguments, displays -/
def tdNil : TDA := fun ρ q => q [] ρ
def tdCons (te : TDE) (t : TDA) : TDA := fun ρ q => te ρ fun x ρ1 => t ρ1 fun xs ρ2 => q (x :: xs) ρ2
theorem da_nil : DA X [] tdNil := ⟨_, pa_nil, fun C σ H ρ q Q E h k => k [] H [] ρ E .rfl .nil h⟩
theorem da_cons {ts : TDA} (he : DE X e t) (hr : DA X es ts) (hs' : starEach (e :: es) X.env = (false, eval e X.env) :: starEach es X.env := by rfl) : DA X (e :: es) (tdCons t ts) := by
  obtain ⟨pa, ha, qa⟩ := he.ex
  obtain ⟨pb, hb, qb⟩ := hr.ex
  refine ⟨_, pa_cons ha hb hs', fun C σ H ρ q Q E h k => ?_⟩
  refine qa C σ H ρ _ _ E h fun x H1 dx ρ1 E1 s1 D1 h1 => ?_
  exact qb C σ H1 ρ1 _ _ E1 h1 fun ys H2 d2 ρ2 E2 s2 D2 h2 => k _ H2 _ ρ2 E2 (s1.trans s2) (.cons (BV.step D1 s2) D2) h2
theorem upd_vis {C : Ctx} {K : PySem.W.Frag} {H : Hp} {σ : L2.St} {ρ : DEnv} (E : EnvD C K H σ ρ) {p : Addr} {o : HO} (hp : H p = none) : hide (hs C ρ) (upd H p o) p = some o := by
  rw [hide_out (E.notin hp), upd_same]
def tdTup (ts : TDA) : TDE := fun ρ q => ts ρ fun ds ρ1 => ds.length ≤ sizeLine ∧ q (.tuple ds) ρ1
theorem de_tup {ts : TDA} {x1} (h : DA X es ts) : DE X (.Tuple es x1 pos) (tdTup ts) := by
  obtain ⟨pa, ha, qa⟩ := h.ex
  refine ⟨_, pe_tup ha, fun C σ H ρ q Q E h k => ?_⟩
  refine qa C σ H ρ _ _ E h fun xs H1 ds ρ1 E1 s1 D1 h1 => ⟨by rw [DpAll.length D1]; exact h1.1, fun p hp => ?_⟩
  exact k _ _ _ ρ1 (E1.le (.upd hp)) (s1.trans (.le (.upd hp))) (.tup ((upd_vis E1 hp)) (DpAll.le (hide_le (.upd hp)) D1)) h1.2
theorem EnvD.with_fresh {C : Ctx} {K : PySem.W.Frag} {H : Hp} {σ : L2.St} {ρ : DEnv} (E : EnvD C K H σ ρ) {p : Addr} {o : HO} (hp : H p = none) (ho : ∀ xs, o ≠ HO.tup xs := by exact fun _ z => nomatch z) : EnvD (C.with p) K (upd H p o) σ ρ := by
  have nin : p ∉ hs C ρ := E.notin hp
  have l : Le (hide (hs C ρ) H) (hide (hs (C.with p) ρ) (upd H p o)) := fun b u e => by
    obtain ⟨n, e⟩ := hide_some e
    have ne : b ≠ p := ne_of_none e hp
    rw [hide_out, upd_ne ne]
    · exact e
    · intro z
      rcases List.mem_cons.mp z with z | z
      · exact ne z
      · exact n z
  have E' := E.le (Le.upd (o := o) hp)
  refine ⟨E.len, fun i x e => ?_, E.nd, fun a h => ⟨fun z => ?_, (E.dj a h).2⟩, fun a h z => ?_, fun a h => ?_, fun a h => ?_, E'.keep⟩
  · obtain ⟨v, e1, s⟩ := E.slots i x e
    exact ⟨v, e1, s.move l (fun a _ o e => Le.upd hp a o e) rfl rfl⟩
  · rcases List.mem_cons.mp z with z | z
    · subst z; exact nin (List.mem_append_right _ (List.mem_append_right _ h))
    · exact (E.dj a h).1 z
  · rcases List.mem_cons.mp z with z | z
    · subst z; exact nin (List.mem_append_right _ (List.mem_append_left _ h))
    · exact E.dr a h z
  · rcases List.mem_cons.mp h with z | z
    · subst z; exact ⟨_, upd_same, ho⟩
    · exact E'.exd a z
  · obtain ⟨sc, ns, i, s, b, e, q, r⟩ := E.row a h
    exact ⟨sc, ns, i, s, b, Le.upd hp _ _ e, SqL.le l q, r⟩
theorem EnvD.unwith {C : Ctx} {K : PySem.W.Frag} {H : Hp} {σ : L2.St} {ρ : DEnv} {a : Addr} (E : EnvD (C.with a) K H σ ρ) : EnvD C K H σ ρ := by
  have l : Le (hide (hs (C.with a) ρ) H) (hide (hs C ρ) H) := hide_sub fun b z => List.mem_cons_of_mem _ z
  exact ⟨E.len, fun i x e => let ⟨v, e1, s⟩ := E.slots i x e; ⟨v, e1, s.move l (fun _ _ _ e => e) rfl rfl⟩,
    E.nd, fun b h => ⟨fun z => (E.dj b h).1 (List.mem_cons_of_mem _ z), (E.dj b h).2⟩, fun b h z => E.dr b h (List.mem_cons_of_mem _ z), fun b h => E.exd b (List.mem_cons_of_mem _ h), fun b h => RowOk.mono l (E.row b h), E.keep⟩
theorem EnvD.with_out {C : Ctx} {K : PySem.W.Frag} {H : Hp} {σ : L2.St} {ρ : DEnv} {a : Addr} (E : EnvD (C.with a) K H σ ρ) (hc : a ∉ C.ex) : a ∉ hs C ρ := fun z => by
  rcases List.mem_append.mp z with z | z
  · exact hc z
  · rcases List.mem_append.mp z with z | z
    · exact E.dr a z List.mem_cons_self
    · exact (E.dj a z).1 List.mem_cons_self
theorem DF.de {ts : TDA} (h : DF X e ts) : DE X e (fun ρ q => ts ρ fun ds ρ1 => q (.list ds) ρ1) := by
  obtain ⟨te, hp, hq⟩ := h.ex
  refine ⟨te, hp, fun C σ H ρ q Q E h k => hq C σ H ρ _ _ E h fun a vs H' ds ρ' E' s hn ha D z => ?_⟩
  have hc : a ∉ C.ex := fun z => by obtain ⟨o, e, _⟩ := E.exd a z; rw [hn] at e; cases e
  exact k _ H' _ ρ' E'.unwith s (.lst (SqL.of (by rw [hide_out (E'.with_out hc)]; exact ha)) (DpAll.le (hide_sub fun b z => List.mem_cons_of_mem _ z) D)) z
def tdLst (ts : TDA) : TDA := fun ρ q => ts ρ fun ds ρ1 => ds.length ≤ sizeLine ∧ q ds ρ1
theorem DpAll.with_fresh {C : Ctx} {K : PySem.W.Frag} {H : Hp} {ρ : DEnv} {p : Addr} {o : HO} (hp : H p = none) : Le (hide (hs C ρ) H) (hide (hs (C.with p) ρ) (upd H p o)) := fun b u e => by
    obtain ⟨n, e⟩ := hide_some e
    have ne : b ≠ p := ne_of_none e hp
    rw [hide_out, upd_ne ne]
    · exact e
    · intro z
      rcases List.mem_cons.mp z with z | z
      · exact ne z
      · exact n z
theorem Step.free {C : Ctx} {ρ ρ' : DEnv} {H H' : Hp} {p : Addr} (s : Step C ρ H ρ' H') (hp : H' p = none) : H p = none := by
  cases q : H p with
  | none => rfl
  | some o => obtain ⟨o', e⟩ := s.dom p o q; rw [hp] at e; cases e
theorem df_lst {ts : TDA} (h : DA X es ts) : DF X (.List es pos) (tdLst ts) := by
  obtain ⟨pa, ha, qa⟩ := h.ex
  refine ⟨_, pe_lst ha, fun C σ H ρ q Q E h k => ?_⟩
  refine qa C σ H ρ _ _ E h fun xs H1 ds ρ1 E1 s1 D1 h1 => ⟨by rw [DpAll.length D1]; exact h1.1, fun p hp => ?_⟩
  exact k p xs _ ds ρ1 (E1.with_fresh hp) (s1.trans (.le (.upd hp))) (s1.free hp) upd_same (DpAll.le (DpAll.with_fresh (K := X.K) hp) D1) h1.2
end
end DL
/-! DL: statements, loops. -/
namespace DL
open PySem PySem.Spec PyProof.Rows L2
section
variable {X : Cx} {e a b c : Expr} {es : List Expr} {pos : Pos} {t ta tb tc : TDE} {st : Stmt} {rest : List Stmt} {u v : TDS}
def tdNext : TDS := fun q ρ => q.nx ρ
def tdSeq (u v : TDS) : TDS := fun q ρ => u { q with nx := v q } ρ
theorem dss_nil : DSs X [] tdNext := ⟨_, pss_nil, fun C σ H ρ q Q E h k => k.nx σ H ρ E .rfl h⟩
theorem dss_cons (h1 : DS X st u) (h2 : DSs X rest v) : DSs X (st :: rest) (tdSeq u v) := by
  obtain ⟨p1, h1, q1⟩ := h1.ex
  obtain ⟨p2, h2, q2⟩ := h2.ex
  refine ⟨_, pss_cons h1 h2, fun C σ H ρ q Q E h k => ?_⟩
  refine q1 C σ H ρ _ _ E h ⟨fun σ' H' ρ' E' s z => ?_, k.rt, k.bk, k.ct⟩
  exact q2 C σ' H' ρ' _ _ E' z (k.step s)
theorem dss_one (h1 : DS X st u) : DSs X [st] u := by
  obtain ⟨p1, h1, q1⟩ := h1.ex
  exact ⟨_, pss_one h1, q1⟩
def tdBreak : TDS := fun q ρ => q.bk ρ
def tdCont : TDS := fun q ρ => q.ct ρ
def tdDrop (t : TDE) : TDS := fun q ρ => t ρ fun _ ρ1 => q.nx ρ1
theorem ds_expr (h : DE X e t) (hs' : swapsWith e none pos.line X.env = pure false := by rfl) : DS X (.Expr e pos) (tdDrop t) := by
  obtain ⟨te, hp, hq⟩ := h.ex
  exact ⟨_, ps_expr hp hs', fun C σ H ρ q Q E h k => hq C σ H ρ _ _ E h fun v H' d ρ' E' s D z => k.nx σ H' ρ' E' s z⟩
def tdRet (t : TDE) : TDS := fun q ρ => t ρ fun d ρ1 => q.rt d ρ1
theorem ds_ret (h : DE X e t) : DS X (.Return (some e) pos) (tdRet t) := by
  obtain ⟨te, hp, hq⟩ := h.ex
  exact ⟨_, ps_ret hp, fun C σ H ρ q Q E h k => hq C σ H ρ _ _ E h fun v H' d ρ' E' s D z => k.rt v σ H' d ρ' E' s D z⟩
def tdRetN : TDS := fun q ρ => q.rt .none ρ
def tdIfS (c : TDT) (u v : TDS) : TDS := fun q ρ => c ρ fun b ρ1 => if b = true then u q ρ1 else v q ρ1
theorem ds_if {tA : TDT} {s1 s2 : List Stmt} (hc : DT X c tA) (ha : DSs X s1 u) (hb : DSs X s2 v) : DS X (.If c s1 s2 pos) (tdIfS tA u v) := by
  obtain ⟨pc, hc, qc⟩ := hc.ex
  obtain ⟨pa, ha, qa⟩ := ha.ex
  obtain ⟨pb, hb, qb⟩ := hb.ex
  refine ⟨_, ps_if hc ha hb, fun C σ H ρ q Q E h k => qc C σ H ρ _ _ E h fun b H1 ρ1 E1 s1 h1 => ?_⟩
  cases b with
  | true => exact qa C σ H1 ρ1 _ _ E1 h1 (k.step s1)
  | false => exact qb C σ H1 ρ1 _ _ E1 h1 (k.step s1)
def tdNever : TDS := fun _ _ => False
theorem ds_never : DS X st tdNever := ⟨_, ps_never, fun C σ H ρ q Q E h k => h⟩
/-! ### targets -/
theorem wipe_in {σ : L2.St} {i : Nat} : ∀ {vs : List Nat}, i ∈ vs → (L2.wipe σ vs)[i]? = (σ[i]?).map fun _ => none
  | v :: vs, h => by
    unfold L2.wipe
    by_cases e : v = i
    · subst e
      rw [List.getElem?_set]
      simp only [if_true, L2.wipe_length]
      by_cases q : v < σ.length
      · simp [q]
      · simp [q]
    · rw [List.getElem?_set_ne e]
      rcases List.mem_cons.mp h with z | z
      · exact absurd z.symm e
      · exact wipe_in z
theorem wipe_set {σ : L2.St} {i : Nat} {v : Option V} {vs : List Nat} (h : i ∈ vs) : L2.wipe (σ.set i v) vs = L2.wipe σ vs := by
  apply List.ext_getElem?
  intro j
  by_cases q : j ∈ vs
  · rw [wipe_in q, wipe_in q, List.getElem?_set]
    by_cases e : i = j
    · subst e
      rw [if_pos rfl]
      split
      · rename_i z
        have z' : i < σ.length := z
        simp [z']
      · rename_i z
        have z' : ¬ i < σ.length := z
        simp [z']
    · rw [if_neg e]
  · rw [L2.wipe_out q, L2.wipe_out q, List.getElem?_set_ne (fun e => q (by rw [← e]; exact h))]

abbrev TDG := PyData → DEnv → (DEnv → Prop) → Prop
structure DG (X : Cx) (tg : Expr) (g : TDG) (S : List Nat) : Prop where
  ex : ∃ gt, PG X tg gt ∧ ∀ C σ H ρ v d q Q, EnvD C X.K H σ ρ → Dp X.K (hide (hs C ρ) H) v d → g d ρ q → (∀ σ' H' ρ', EnvD C X.K H' σ' ρ' → Step C ρ H ρ' H' → (∀ vs : List Nat, (∀ i ∈ S, i ∈ vs) → L2.wipe σ' vs = L2.wipe σ vs) → q ρ' → Q σ' H') → gt v σ H Q
abbrev TDGs := List PyData → DEnv → (DEnv → Prop) → Prop
structure DGs (X : Cx) (tg : List Expr) (g : TDGs) (S : List Nat) : Prop where
  ex : ∃ gt, PGs X tg gt ∧ ∀ C σ H ρ vs ds q Q, EnvD C X.K H σ ρ → DpAll X.K (hide (hs C ρ) H) vs ds → g ds ρ q → (∀ σ' H' ρ', EnvD C X.K H' σ' ρ' → Step C ρ H ρ' H' → (∀ vs : List Nat, (∀ i ∈ S, i ∈ vs) → L2.wipe σ' vs = L2.wipe σ vs) → q ρ' → Q σ' H') → gt vs σ H Q
def gdName (i : Nat) : TDG := fun d ρ q => q (ρ.set i (.sh d))
theorem dg_name {i : Nat} {x : Str} (hN : X.N.Nodup) (hi : X.N[i]? = some x) (hx : Loc X.env.scope x) (hf : X.fn x = true ∨ X.env.scope.names.lookup x = some .local := by first | exact .inl rfl | exact .inr rfl | assumption) : DG X (.Name x pos) (gdName i) [i] :=
  ⟨_, pg_name hN hi hx hf, fun C σ H ρ v d q Q E D h k => k _ H _ (E.sh D) (.put rfl) (fun vs m => wipe_set (m i (by simp))) h⟩
def gdNil : TDGs := fun ds ρ q => ds = [] ∧ q ρ
def gdCons (g : TDG) (r : TDGs) : TDGs := fun ds ρ q => match ds with
  | d :: ds => g d ρ fun ρ1 => r ds ρ1 q
  | [] => False
theorem dgs_nil : DGs X [] gdNil [] := ⟨_, pgs_nil, fun C σ H ρ vs ds q Q E D h k => by
  obtain ⟨rfl, h⟩ := h
  cases D
  exact ⟨rfl, k σ H ρ E .rfl (fun _ _ => rfl) h⟩⟩
theorem dgs_cons {g : TDG} {r : TDGs} {S S' : List Nat} (h1 : DG X e g S) (h2 : DGs X es r S') (hs' : (assignEach (e :: es) X.env).map (·.2) = assign e X.env :: (assignEach es X.env).map (·.2) := by rfl) : DGs X (e :: es) (gdCons g r) (S ++ S') := by
  obtain ⟨p1, h1, q1⟩ := h1.ex
  obtain ⟨p2, h2, q2⟩ := h2.ex
  refine ⟨_, pgs_cons h1 h2 hs', fun C σ H ρ vs ds q Q E D h k => ?_⟩
  cases ds with
  | nil => exact h.elim
  | cons d ds =>
    cases D with
    | cons d1 d2 =>
      refine ⟨_, _, rfl, q1 C σ H ρ _ _ _ _ E d1 h fun σ1 H1 ρ1 E1 s1 w1 h1 => ?_⟩
      exact q2 C σ1 H1 ρ1 _ _ _ _ E1 (DpAll.le s1.vis d2) h1 fun σ2 H2 ρ2 E2 s2 w2 h2 => k σ2 H2 ρ2 E2 (s1.trans s2) (fun vs m => (w2 vs fun i z => m i (List.mem_append_right _ z)).trans (w1 vs fun i z => m i (List.mem_append_left _ z))) h2
def gdTup (n : Nat) (r : TDGs) : TDG := fun d ρ q => match d with
  | .tuple ds => ds.length = n ∧ r ds ρ q
  | _ => False
theorem dg_tup {r : TDGs} {S : List Nat} {k n : Nat} (hc : X.calm = true) (h : DGs X es r S) (hn : (assignEach es X.env).length = n := by rfl) (hst : (assignEach es X.env).findIdx? (·.1) = none := by rfl) : DG X (.Tuple es k pos) (gdTup n r) S := by
  obtain ⟨p1, h1, q1⟩ := h.ex
  refine ⟨_, pg_tup hc h1 hn hst, fun C σ H ρ v d q Q E D h k => ?_⟩
  cases d with
  | tuple ds =>
    obtain ⟨a, vs, rfl, s, D⟩ := Dp.tup_of D
    exact ⟨a, vs, rfl, SqT.le hide_Le s, by rw [DpAll.length D]; exact h.1, q1 C σ H ρ vs ds _ _ E D h.2 k⟩
  | _ => exact h.elim
/-- target = e -/
def tdAsg (t : TDE) (g : TDG) : TDS := fun q ρ => t ρ fun d ρ1 => g d ρ1 q.nx
theorem ds_asg {tg : Expr} {g : TDG} {S : List Nat} (he : DE X e t) (hg : DG X tg g S) (hs' : swapsWithSole [tg] e pos.line X.env = pure false := by rfl) (hw : swappedStores [tg] e X.env = pure none := by rfl)
    (h1 : (assignEach [tg] X.env).map (·.2) = [assign tg X.env] := by rfl) : DS X (.Assign [tg] e pos) (tdAsg t g) := by
  obtain ⟨pe, he, qe⟩ := he.ex
  obtain ⟨pg, hg, qg⟩ := hg.ex
  refine ⟨_, ps_asg he hg hs' hw h1, fun C σ H ρ q Q E h k => ?_⟩
  refine qe C σ H ρ _ _ E h fun v H' d ρ' E' s D z => ?_
  exact qg C σ H' ρ' v d _ _ E' D z fun σ2 H2 ρ2 E2 s2 _ z2 => k.nx σ2 H2 ρ2 E2 (s.trans s2) z2
/-- name = e -/
def tdSet (i : Nat) (t : TDE) : TDS := fun q ρ => t ρ fun d ρ1 => q.nx (ρ1.set i (.sh d))
theorem ds_set {i : Nat} {x : Str} {pos' : Pos} (hN : X.N.Nodup) (hi : X.N[i]? = some x) (hx : Loc X.env.scope x) (he : DE X e t) (hs' : swapsWith e (some (.Name x pos')) pos.line X.env = pure false := by rfl) (hf : X.fn x = true ∨ X.env.scope.names.lookup x = some .local := by first | exact .inl rfl | exact .inr rfl | assumption) :
    DS X (.Assign [.Name x pos'] e pos) (tdSet i t) := by
  obtain ⟨pe, he, qe⟩ := he.ex
  refine ⟨_, ps_set hN hi hx he hs' hf, fun C σ H ρ q Q E h k => ?_⟩
  exact qe C σ H ρ _ _ E h fun v H' d ρ' E' s D z => k.nx _ H' _ (E'.sh D) (s.trans (.put rfl)) z
/-- name = a new list: from now on this def's own -/
def tdOwn (i : Nat) (t : TDA) : TDS := fun q ρ => t ρ fun ds ρ1 => ∀ a, a ∉ owns ρ1 → q.nx (ρ1.set i (.own a ds))
theorem EnvD.own {C : Ctx} {K : PySem.W.Frag} {H : Hp} {σ : L2.St} {ρ : DEnv} {i : Nat} {a : Addr} {vs : List V} {ds : List PyData} (E : EnvD (C.with a) K H σ ρ) (ha : H a = some (.lst vs)) (h0 : C.H0 a = none) (hc : a ∉ C.ex)
    (D : DpAll K (hide (hs (C.with a) ρ) H) vs ds) : EnvD C K H (σ.set i (some (.ref a))) (ρ.set i (.own a ds)) := by
  have na : a ∉ owns ρ := fun z => (E.dj a z).1 List.mem_cons_self
  have nr : a ∉ C.rw := fun z => E.dr a z List.mem_cons_self
  have sub : ∀ b, b ∈ owns (ρ.set i (.own a ds)) → b = a ∨ b ∈ owns ρ := fun b z => by
    obtain ⟨j, y, e, hy⟩ := mem_owns.mp z
    rw [List.getElem?_set] at e
    split at e
    · split at e
      · cases e; cases hy; exact .inl rfl
      · cases e
    · exact .inr (mem_owns.mpr ⟨j, y, e, hy⟩)
  have l : Le (hide (hs (C.with a) ρ) H) (hide (hs C (ρ.set i (.own a ds))) H) := hide_sub fun b z => by
    rcases List.mem_append.mp z with z | z
    · exact List.mem_cons_of_mem _ (List.mem_append_left _ z)
    · rcases List.mem_append.mp z with z | z
      · exact List.mem_cons_of_mem _ (List.mem_append_right _ (List.mem_append_left _ z))
      · rcases sub b z with z | z
        · subst z; exact List.mem_cons_self
        · exact List.mem_cons_of_mem _ (List.mem_append_right _ (List.mem_append_right _ z))
  have nd' : ∀ (ρ : DEnv) (i : Nat), (owns ρ).Nodup → a ∉ owns ρ → (owns (ρ.set i (.own a ds))).Nodup := by
    intro ρ
    induction ρ with
    | nil => intro i n _; simp [owns]
    | cons y ρ ih =>
      intro i n m
      cases i with
      | zero =>
        show (List.filterMap Slot.addr (Slot.own a ds :: ρ)).Nodup
        rw [List.filterMap_cons_some (show Slot.addr (.own a ds) = some a from rfl)]
        cases h : y.addr with
        | none =>
          unfold owns at n m
          rw [List.filterMap_cons_none h] at n m
          exact List.nodup_cons.mpr ⟨m, n⟩
        | some b =>
          unfold owns at n m
          rw [List.filterMap_cons_some h] at n m
          exact List.nodup_cons.mpr ⟨fun z => m (List.mem_cons_of_mem _ z), (List.nodup_cons.mp n).2⟩
      | succ i =>
        show (List.filterMap Slot.addr (y :: ρ.set i (.own a ds))).Nodup
        cases h : y.addr with
        | none =>
          unfold owns at n m
          rw [List.filterMap_cons_none h] at n m ⊢
          exact ih i n m
        | some b =>
          unfold owns at n m
          rw [List.filterMap_cons_some h] at n m ⊢
          refine List.nodup_cons.mpr ⟨fun z => ?_, ih i (List.nodup_cons.mp n).2 fun z => m (List.mem_cons_of_mem _ z)⟩
          obtain ⟨j, y', e, hy⟩ := mem_owns.mp (show b ∈ owns (ρ.set i (.own a ds)) from z)
          rw [List.getElem?_set] at e
          split at e
          · split at e
            · cases e; cases hy; exact m List.mem_cons_self
            · cases e
          · exact (List.nodup_cons.mp n).1 (mem_owns.mpr ⟨j, y', e, hy⟩)
  refine ⟨by simp [E.len], fun j x e => ?_, nd' ρ i E.nd na, fun b h => ?_, fun b h z => E.dr b h (List.mem_cons_of_mem _ z), fun b h => E.exd b (List.mem_cons_of_mem _ h), fun b h => RowOk.mono l (E.row b h), E.keep⟩
  · rw [List.getElem?_set] at e
    by_cases ij : i = j
    · subst ij
      rw [if_pos rfl] at e
      split at e
      · cases e
        exact ⟨some (.ref a), by rw [List.getElem?_set]; simp [E.len]; assumption, rfl, ⟨vs, ha, DpAll.le l D⟩, h0⟩
      · cases e
    · rw [if_neg ij] at e
      obtain ⟨w, e1, s⟩ := E.slots j x e
      refine ⟨w, by rw [List.getElem?_set_ne ij]; exact e1, ?_⟩
      exact s.move l (fun _ _ _ e => e) rfl rfl
  · rcases sub b h with z | z
    · subst z; exact ⟨hc, nr⟩
    · exact ⟨fun y => (E.dj b z).1 (List.mem_cons_of_mem _ y), (E.dj b z).2⟩
theorem owns_set_own {ρ : DEnv} {i : Nat} {a b : Addr} {ds : List PyData} (h : b ∈ owns (ρ.set i (.own a ds))) : b = a ∨ b ∈ owns ρ := by
  obtain ⟨j, y, e, hy⟩ := mem_owns.mp h
  rw [List.getElem?_set] at e
  split at e
  · split at e
    · cases e; cases hy; exact .inl rfl
    · cases e
  · exact .inr (mem_owns.mpr ⟨j, y, e, hy⟩)
theorem ds_own {i : Nat} {x : Str} {pos' : Pos} {t : TDA} (hN : X.N.Nodup) (hi : X.N[i]? = some x) (hx : Loc X.env.scope x) (he : DF X e t) (hs' : swapsWith e (some (.Name x pos')) pos.line X.env = pure false := by rfl) (hf : X.fn x = true ∨ X.env.scope.names.lookup x = some .local := by first | exact .inl rfl | exact .inr rfl | assumption) :
    DS X (.Assign [.Name x pos'] e pos) (tdOwn i t) := by
  obtain ⟨pe, he, qe⟩ := he.ex
  refine ⟨_, ps_set hN hi hx he hs' hf, fun C σ H ρ q Q E h k => ?_⟩
  refine qe C σ H ρ _ _ E h fun a vs H' ds ρ' E' s hn ha D z => ?_
  have hc : a ∉ C.ex := fun z => by obtain ⟨o, e, _⟩ := E.exd a z; rw [hn] at e; cases e
  refine k.nx _ H' _ (E'.own ha (E.fresh0 hn) hc D) ⟨s.keep, s.dom, fun b h => ?_⟩ (z a fun y => (E'.dj a y).1 List.mem_cons_self)
  rcases owns_set_own h with h | h
  · subst h; exact .inr hn
  · exact s.new b h
/-- a list of one's own is changed -/
theorem owns_same {ρ : DEnv} {i : Nat} {a : Addr} {ds es : List PyData} (h : ρ[i]? = some (.own a ds)) : owns (ρ.set i (.own a es)) = owns ρ := by
  induction ρ generalizing i with
  | nil => simp at h
  | cons y ρ ih =>
    cases i with
    | zero => simp at h; subst h; rfl
    | succ i =>
      simp at h
      show List.filterMap Slot.addr (y :: ρ.set i (.own a es)) = List.filterMap Slot.addr (y :: ρ)
      have := ih h
      unfold owns at this
      cases q : y.addr with
      | none => rw [List.filterMap_cons_none q, List.filterMap_cons_none q]; exact this
      | some b => rw [List.filterMap_cons_some q, List.filterMap_cons_some q, this]
theorem EnvD.own_at {C : Ctx} {K : PySem.W.Frag} {H : Hp} {σ : L2.St} {ρ : DEnv} (E : EnvD C K H σ ρ) {i : Nat} {a : Addr} {ds : List PyData} (h : ρ[i]? = some (.own a ds)) :
    σ[i]? = some (some (.ref a)) ∧ (∃ vs, H a = some (.lst vs) ∧ DpAll K (hide (hs C ρ) H) vs ds) := by
  obtain ⟨v, e, s⟩ := E.slots i _ h
  cases v with
  | none => cases s
  | some v => obtain ⟨rfl, q, _⟩ := s; exact ⟨e, q⟩
theorem EnvD.wr {C : Ctx} {K : PySem.W.Frag} {H : Hp} {σ : L2.St} {ρ : DEnv} (E : EnvD C K H σ ρ) {i : Nat} {a : Addr} {ds es : List PyData} {ws : List V} (h : ρ[i]? = some (.own a ds)) (D : DpAll K (hide (hs C ρ) H) ws es) :
    EnvD C K (upd H a (.lst ws)) σ (ρ.set i (.own a es)) ∧ Step C ρ H (ρ.set i (.own a es)) (upd H a (.lst ws)) := by
  have ho : owns (ρ.set i (.own a es)) = owns ρ := owns_same h
  have hh : hs C (ρ.set i (.own a es)) = hs C ρ := by unfold hs mu; rw [ho]
  have ao : a ∈ owns ρ := mem_owns.mpr ⟨i, _, h, rfl⟩
  have am : a ∈ mu C ρ := List.mem_append_right _ ao
  have ah : a ∈ hs C ρ := List.mem_append_right _ am
  have hu : hide (hs C ρ) (upd H a (.lst ws)) = hide (hs C ρ) H := by
    funext b
    by_cases q : b ∈ hs C ρ
    · rw [hide_in q, hide_in q]
    · rw [hide_out q, hide_out q, upd_ne (fun z => q (by rw [z]; exact ah))]
  obtain ⟨e1, vs, e2, _⟩ := E.own_at h
  refine ⟨⟨by rw [E.len]; simp, fun j x e => ?_, by rw [ho]; exact E.nd, fun b z => E.dj b (by rw [ho] at z; exact z), E.dr, fun b z => ?_, fun b z => ?_, fun b o z n => ?_⟩, ⟨fun b o n z => ?_, fun b o z => ?_, fun b z => .inl (by rw [ho] at z; exact z)⟩⟩
  · rw [hh, hu]
    rw [List.getElem?_set] at e
    by_cases ij : i = j
    · subst ij
      rw [if_pos rfl] at e
      split at e
      · cases e
        obtain ⟨w, e3, s⟩ := E.slots i _ h
        cases w with
        | none => cases s
        | some w => obtain ⟨s1, _, s3⟩ := s; exact ⟨some w, e3, s1, ⟨ws, upd_same, D⟩, s3⟩
      · cases e
    · rw [if_neg ij] at e
      obtain ⟨w, e3, s⟩ := E.slots j x e
      refine ⟨w, e3, s.move Le.rfl (fun b hb o z => ?_) rfl rfl⟩
      rw [upd_ne (fun y => by subst y; exact nodup_two E.nd ij h rfl e hb)]
      exact z
  · obtain ⟨o, q, nt⟩ := E.exd b z
    exact ⟨o, by rw [upd_ne (fun y => (E.dj a ao).1 (by rw [← y]; exact z))]; exact q, nt⟩
  · obtain ⟨sc, ns, i', s, b', q, r⟩ := E.row b z
    rw [hh, hu]
    exact ⟨sc, ns, i', s, b', by rw [upd_ne (fun y => (E.dj a ao).2 (by rw [← y]; exact z))]; exact q, r⟩
  · have h0 : b ≠ a := fun y => by
      subst y
      obtain ⟨w, e3, s⟩ := E.slots i _ h
      cases w with
      | none => cases s
      | some w => obtain ⟨_, _, s3⟩ := s; rw [z] at s3; cases s3
    rw [upd_ne h0]; exact E.keep b o z n
  · rw [upd_ne (fun y => n (by rw [y]; exact am))]; exact z
  · by_cases q : b = a
    · subst q; exact ⟨_, upd_same⟩
    · exact ⟨o, by rw [upd_ne q]; exact z⟩
/-- xs[k] = value, xs a list of one's own -/
def gdSub (i : Nat) (tk : TDE) : TDG := fun d ρ q => match ρ[i]? with
  | some (.own _ _) => tk ρ fun k ρ1 => match ρ1[i]?, k with
    | some (.own a ds), .int n => ∃ j, ixN ds.length n = some j ∧ q (ρ1.set i (.own a (ds.set j d)))
    | _, _ => False
  | _ => False
theorem dg_sub {i : Nat} {x : Str} {px : Pos} {k : Expr} {tk : TDE} (hN : X.N[i]? = some x) (hv : Vis X.env.scope x) (hk : DE X k tk) (hd : (x == ("__debug__" : Str)) = false := by decide) (hcd : (x == ("__classdict__" : Str)) = false := by decide)
    (ha : ∀ v, assign (.Subscript (.Name x px) k pos) X.env v = (do
      let ov ← holding [v] (eval (.Name x px) X.env)
      let iv ← holding [v, ov] (eval k X.env)
      standAt pos
      holding [v, ov, iv] (setItem ov iv v)
      release [v, ov, iv] []) := by intro _; rfl) : DG X (.Subscript (.Name x px) k pos) (gdSub i tk) [] := by
  obtain ⟨pk, hk, qk⟩ := hk.ex
  refine ⟨_, pg_sub (pe_var hN hv hd hcd) hk set_list ha, fun C σ H ρ v d q Q E D h k => ?_⟩
  unfold gdSub at h
  split at h
  · rename_i a0 ds0 e0
    have hw := (E.own_at e0).1
    refine ⟨_, hw, qk C σ H ρ _ _ E h fun kv H1 dk ρ1 E1 s1 D1 h1 => ?_⟩
    split at h1
    · rename_i a ds n e1
      obtain ⟨j, hj, h1⟩ := h1
      obtain ⟨e2, vs, e3, D3⟩ := E1.own_at e1
      rw [hw] at e2
      cases e2
      cases D1
      have D' := DpAll.set (BV.step D s1) j D3
      obtain ⟨E2, s2⟩ := E1.wr e1 D'
      refine ⟨a0, vs, n, j, rfl, rfl, e3, by rw [DpAll.length D3]; exact hj, ?_⟩
      exact k σ _ _ E2 (s1.trans s2) (fun _ _ => rfl) h1
    · exact h1.elim
  · exact h.elim
/-- xs.append(e) -/
def tdAppend (i : Nat) (t : TDE) : TDS := fun q ρ => match ρ[i]? with
  | some (.own _ _) => t ρ fun d ρ1 => match ρ1[i]? with
    | some (.own a ds) => ds.length < sizeLine ∧ q.nx (ρ1.set i (.own a (ds ++ [d])))
    | _ => False
  | _ => False
theorem tyL {K : PySem.W.Frag} {H : Hp} {a : Addr} {vs : List V} (h : SqL K H a vs) : tyV K "list" (.ref a) H := .inl ⟨rfl, _, h⟩
theorem ds_append {i : Nat} {x : Str} {px apos cpos : Pos} (hN : X.N[i]? = some x) (hv : Vis X.env.scope x) (he : DE X e t) (hd : (x == ("__debug__" : Str)) = false := by decide) (hcd : (x == ("__classdict__" : Str)) = false := by decide)
    (hbase : attributeBase (.Name x px) "append" X.env (eval (.Name x px) X.env) = eval (.Name x px) X.env := by rfl)
    (hfew : ((backTo cpos (starEach [e] X.env)).all (fun x => !x.1) && (backToKw cpos (keywordEach [] X.env)).all (fun x => x.1.isSome)
      && decide (([e] : List Expr).length + ([] : List Keyword).length + (if ([] : List Keyword).isEmpty then 0 else 1) < 30)) = true := by rfl)
    (hline : (apos.endLine == cpos.line) = true := by rfl) (hst : starEach [e] X.env = (false, eval e X.env) :: starEach [] X.env := by rfl) (hplain : (backTo cpos (starEach [] X.env)).any (·.1) = false := by rfl)
    (hs' : swapsWith (.Call (.Attribute (.Name x px) "append" apos) [e] [] cpos) none pos.line X.env = pure false := by rfl) :
    DS X (.Expr (.Call (.Attribute (.Name x px) "append" apos) [e] [] cpos) pos) (tdAppend i t) := by
  obtain ⟨pe, he, qe⟩ := he.ex
  refine ⟨_, ps_expr (pe_bm PySem.F.plainAttrs_list PySem.F.slot_list_append PySem.F.type_list_append mt_append (pe_var hN hv hd hcd) (pa_cons he pa_nil hst) hbase hfew hline hst hplain) hs', fun C σ H ρ q Q E h k => ?_⟩
  unfold tdAppend at h
  split at h
  · rename_i a0 ds0 e0
    obtain ⟨hw, vs0, e3, _⟩ := E.own_at e0
    refine ⟨_, hw, tyL (SqL.of e3), qe C σ H ρ _ _ E h fun v H1 d ρ1 E1 s1 D1 h1 => ?_⟩
    split at h1
    · rename_i a ds e1
      obtain ⟨e2, vs, e4, D4⟩ := E1.own_at e1
      rw [hw] at e2
      cases e2
      obtain ⟨E2, s2⟩ := E1.wr e1 (DpAll.append D4 (.cons D1 .nil))
      refine ⟨a0, vs, v, rfl, rfl, e4, by rw [DpAll.length D4]; exact h1.1, ?_⟩
      exact k.nx σ _ _ E2 (s1.trans s2) h1.2
    · exact h1.elim
  · exact h.elim
/-- xs.extend(ys), ys a list -/
def tdExtend (i : Nat) (t : TDA) : TDS := fun q ρ => match ρ[i]? with
  | some (.own _ _) => t ρ fun es ρ1 => match ρ1[i]? with
    | some (.own a ds) => ds.length + es.length ≤ sizeLine ∧ q.nx (ρ1.set i (.own a (ds ++ es)))
    | _ => False
  | _ => False
/-- xs.pop() -/
def tdPop (i : Nat) : TDE := fun ρ q => match ρ[i]? with
  | some (.own a ds) => match ds[ds.length - 1]? with
    | some d => q d (ρ.set i (.own a ds.dropLast))
    | none => False
  | _ => False
/-- x op= e at a name of ints -/
def tdAug (i : Nat) (t : TDE) (rd : RD2) : TDS := fun q ρ => match ρ[i]? with
  | some (.sh d) => t ρ fun y ρ1 => rd d y fun z => q.nx (ρ1.set i (.sh z))
  | _ => False
theorem ds_aug {i : Nat} {x : Str} {op : Operator} {rd : RD2} {pos' : Pos} (hN : X.N.Nodup) (hi : X.N[i]? = some x) (hx : Loc X.env.scope x) (he : DE X e t) (ho : LOp X (inplaceOp op) rd) (hf : X.fn x = true ∨ X.env.scope.names.lookup x = some .local := by first | exact .inl rfl | exact .inr rfl | assumption) :
    DS X (.AugAssign (.Name x pos') op e pos) (tdAug i t rd) := by
  obtain ⟨pe, he, qe⟩ := he.ex
  obtain ⟨r, ho, hl⟩ := ho
  refine ⟨_, ps_aug hN hi hx he ho hf, fun C σ H ρ q Q E h k => ?_⟩
  unfold tdAug at h
  split at h
  · rename_i d e0
    obtain ⟨w, e1, s⟩ := E.slots i _ e0
    cases w with
    | none => cases s
    | some w =>
      refine ⟨w, e1, qe C σ H ρ _ _ E h fun v H1 d1 ρ1 E1 s1 D1 h1 => ?_⟩
      refine hl (hs C ρ1) H1 w v d d1 _ _ (fun a h => E1.hid h) (BV.step s s1) D1 h1 fun z H2 dz l D q3 => ?_
      exact k.nx _ H2 _ ((E1.le l).sh D) ((s1.trans (.le l)).trans (.put rfl)) q3
  · exact h.elim
end
end DL
/-! DL: loops, comprehensions. -/
namespace DL
open PySem PySem.Spec PyProof.Rows L2
/-- what a loop walks: the data ds, whatever is done meanwhile -/
def ItD (K : PySem.W.Frag) (C : Ctx) (ρ1 : DEnv) (H1 : Hp) (J : It) (ds : List PyData) : Prop :=
  ∀ (i : Nat) (H' : Hp), (∀ b o, b ∉ hs C ρ1 → H1 b = some o → H' b = some o) →
    (i < ds.length → J.go i H' ∧ ∀ x H'', J.yld i H' x H'' → Le H' H'' ∧ ∀ as : List Addr, (∀ a ∈ as, (∃ o, H' a = some o ∧ ∀ xs, o ≠ HO.tup xs) ∧ (a ∈ hs C ρ1 ∨ H1 a = none)) → ∃ d, ds[i]? = some d ∧ Dp K (hide as H'') x d) ∧
    (ds.length ≤ i → J.stop i H')
structure DI (X : Cx) (tg iter : Expr) (t : TDA) : Prop where
  ex : ∃ wi, PI X tg iter wi ∧ ∀ C σ H ρ q R, EnvD C X.K H σ ρ → t ρ q → (∀ J H1 ds ρ1, EnvD C X.K H1 σ ρ1 → Step C ρ H ρ1 H1 → ItD X.K C ρ1 H1 J ds → q ds ρ1 → R J H1) → wi σ H R
section
variable {X : Cx} {e a b c tg iter : Expr} {es : List Expr} {pos : Pos} {t ta tb tc : TDE} {st : Stmt} {rest : List Stmt} {u v : TDS}
theorem vis_as {C : Ctx} {ρ1 : DEnv} {H1 H' H'' : Hp} {as : List Addr} (k : ∀ b o, b ∉ hs C ρ1 → H1 b = some o → H' b = some o) (l : Le H' H'') (h : ∀ a ∈ as, (∃ o, H' a = some o ∧ ∀ xs, o ≠ HO.tup xs) ∧ (a ∈ hs C ρ1 ∨ H1 a = none)) : Le (hide (hs C ρ1) H1) (hide as H'') := fun b o e => by
  obtain ⟨n, e⟩ := hide_some e
  rw [hide_out]
  · exact l _ _ (k b o n e)
  · intro z
    rcases (h b z).2 with q | q
    · exact n q
    · rw [q] at e; cases e
theorem SqL.stay {K : PySem.W.Frag} {C : Ctx} {ρ1 : DEnv} {H1 H' : Hp} {a : Addr} {vs : List V} (k : ∀ b o, b ∉ hs C ρ1 → H1 b = some o → H' b = some o) (h : SqL K (hide (hs C ρ1) H1) a vs) : SqL K H' a vs :=
  SqL.le (fun b o e => by obtain ⟨n, e⟩ := hide_some e; exact k b o n e) h
theorem SqT.stay {K : PySem.W.Frag} {C : Ctx} {ρ1 : DEnv} {H1 H' : Hp} {a : Addr} {vs : List V} (k : ∀ b o, b ∉ hs C ρ1 → H1 b = some o → H' b = some o) (h : SqT K (hide (hs C ρ1) H1) a vs) : SqT K H' a vs :=
  SqT.le (fun b o e => by obtain ⟨n, e⟩ := hide_some e; exact k b o n e) h
def tiL (t : TDE) : TDA := fun ρ q => t ρ fun d ρ1 => match d with
  | .list ds => q ds ρ1
  | _ => False
theorem di_list (h : DE X e t) : DI X tg e (tiL t) := by
  obtain ⟨te, hp, hq⟩ := h.ex
  refine ⟨_, pi_list hp, fun C σ H ρ q R E w k => hq C σ H ρ _ _ E w fun v H1 d ρ1 E1 s1 D1 h1 => ?_⟩
  cases d with
  | list ds =>
    obtain ⟨a, vs, rfl, sq, D⟩ := Dp.list_of D1
    refine ⟨a, rfl, ⟨vs, SqL.le hide_Le sq⟩, k _ H1 ds ρ1 E1 s1 (fun i H' ke => ⟨fun hi => ?_, fun hi => ?_⟩) h1⟩
    · have s' := SqL.stay ke sq
      have hv : i < vs.length := by rw [DpAll.length D]; exact hi
      refine ⟨⟨vs, vs[i], s', by simp [hv]⟩, fun x H'' y => ?_⟩
      obtain ⟨e1, y⟩ := y
      subst e1
      refine ⟨.rfl, fun as ha => ?_⟩
      obtain ⟨d, h1, h2⟩ := DpAll.getV D (y vs s')
      exact ⟨d, h1, Dp.le (vis_as ke .rfl ha) h2⟩
    · exact ⟨vs, SqL.stay ke sq, by rw [DpAll.length D]; exact hi⟩
  | _ => exact h1.elim
def tiT (t : TDE) : TDA := fun ρ q => t ρ fun d ρ1 => match d with
  | .tuple ds => q ds ρ1
  | _ => False
theorem di_tup (h : DE X e t) : DI X tg e (tiT t) := by
  obtain ⟨te, hp, hq⟩ := h.ex
  refine ⟨_, pi_tup hp, fun C σ H ρ q R E w k => hq C σ H ρ _ _ E w fun v H1 d ρ1 E1 s1 D1 h1 => ?_⟩
  cases d with
  | tuple ds =>
    obtain ⟨a, vs, rfl, sq, D⟩ := Dp.tup_of D1
    refine ⟨a, rfl, ⟨vs, SqT.le hide_Le sq⟩, k _ H1 ds ρ1 E1 s1 (fun i H' ke => ⟨fun hi => ?_, fun hi => ?_⟩) h1⟩
    · have s' := SqT.stay ke sq
      have hv : i < vs.length := by rw [DpAll.length D]; exact hi
      refine ⟨⟨vs, vs[i], s', by simp [hv]⟩, fun x H'' y => ?_⟩
      obtain ⟨e1, y⟩ := y
      subst e1
      refine ⟨.rfl, fun as ha => ?_⟩
      obtain ⟨d, h1, h2⟩ := DpAll.getV D (y vs s')
      exact ⟨d, h1, Dp.le (vis_as ke .rfl ha) h2⟩
    · exact ⟨vs, SqT.stay ke sq, by rw [DpAll.length D]; exact hi⟩
  | _ => exact h1.elim
/-- lo, lo + 1, .. (n of them) -/
def rangeD (lo : Int) (n : Nat) : List PyData := (List.range n).map fun (k : Nat) => PyData.int (lo + (k : Int))
theorem rangeD_len (lo : Int) (n : Nat) : (rangeD lo n).length = n := by simp [rangeD]
theorem itD_range {K : PySem.W.Frag} {C : Ctx} {ρ1 : DEnv} {H1 : Hp} {lo : Int} {n : Nat} : ItD K C ρ1 H1 (Itr lo n) (rangeD lo n) := fun i H' ke => by
  rw [rangeD_len]
  refine ⟨fun hi => ⟨hi, fun x H'' y => ?_⟩, fun hi => hi⟩
  obtain ⟨e1, e2⟩ := y
  subst e1 e2
  exact ⟨.rfl, fun as ha => ⟨_, by simp [rangeD, hi], .int _⟩⟩
def tiR1 (ts : TDA) : TDA := fun ρ q => ts ρ fun ds ρ1 => match ds with
  | [.int j] => (-(2 ^ 62) ≤ j ∧ j < 2 ^ 62) ∧ q (rangeD 0 j.toNat) ρ1
  | _ => False
def tiR2 (ts : TDA) : TDA := fun ρ q => ts ρ fun ds ρ1 => match ds with
  | [.int i, .int j] => (-(2 ^ 62) ≤ i ∧ i < 2 ^ 62 ∧ -(2 ^ 62) ≤ j ∧ j < 2 ^ 62) ∧ q (rangeD i (j - i).toNat) ρ1
  | _ => False
theorem di_range1 {p : Pos} {ts : TDA} (hg : Gl X "range") (hm : X.mg "range" = none) (ha : DA X [a] ts) (hs' : starEach [a] X.env = [(false, eval a X.env)] := by rfl) : DI X tg (.Call (.Name "range" p) [a] [] pos) (tiR1 ts) := by
  obtain ⟨te, hp, hq⟩ := ha.ex
  refine ⟨_, pi_range1 hg hm hp hs', fun C σ H ρ q R E w k => hq C σ H ρ _ _ E w fun vs H1 ds ρ1 E1 s1 D1 h1 => ?_⟩
  match ds, h1, D1 with
  | [.int j], h1, D1 =>
    cases D1 with
    | cons d1 d2 =>
      cases d1; cases d2
      exact ⟨j, rfl, h1.1.1, h1.1.2, k _ H1 _ ρ1 E1 s1 itD_range h1.2⟩
theorem di_range2 {p : Pos} {ts : TDA} (hg : Gl X "range") (hm : X.mg "range" = none) (ha : DA X [a, b] ts) (hs' : starEach [a, b] X.env = [(false, eval a X.env), (false, eval b X.env)] := by rfl) (hs2 : starEach [b] X.env = [(false, eval b X.env)] := by rfl) : DI X tg (.Call (.Name "range" p) [a, b] [] pos) (tiR2 ts) := by
  obtain ⟨te, hp, hq⟩ := ha.ex
  refine ⟨_, pi_range2 hg hm hp hs' hs2, fun C σ H ρ q R E w k => hq C σ H ρ _ _ E w fun vs H1 ds ρ1 E1 s1 D1 h1 => ?_⟩
  match ds, h1, D1 with
  | [.int i, .int j], h1, D1 =>
    cases D1 with
    | cons d1 d2 =>
      cases d1
      cases d2 with
      | cons d3 d4 =>
        cases d3; cases d4
        exact ⟨i, j, rfl, h1.1, k _ H1 _ ρ1 E1 s1 itD_range h1.2⟩
/-! ### for -/
/-- the loop over ds, turn by turn -/
def wFor (g : TDG) (body : TDS) (q : DEnds) : List PyData → DEnv → Prop
  | [], ρ => q.nx ρ
  | d :: ds, ρ => g d ρ fun ρ1 => body { q with nx := wFor g body q ds, ct := wFor g body q ds, bk := q.nx } ρ1
def tdFor (ti : TDA) (g : TDG) (body : TDS) : TDS := fun q ρ => ti ρ fun ds ρ1 => wFor g body q ds ρ1
theorem ds_for {ti : TDA} {g : TDG} {body : List Stmt} {tb : TDS} (hp : PassesOwn (model X.prog X.w) X.A X.env X.xe) (hc : X.calm = true) (hi : DI X tg iter ti) {S : List Nat} (hg : DG X tg g S) (hb : DSs X body tb)
    (hs' : ∀ x, foldedSetIterable iter X.env x = pure x := by intro _; rfl) : DS X (.For tg iter body [] pos) (tdFor ti g tb) := by
  obtain ⟨pi, hi, qi⟩ := hi.ex
  obtain ⟨pg, hg, qg⟩ := hg.ex
  obtain ⟨pb, hb, qb⟩ := hb.ex
  refine ⟨_, ps_for hp hc hi hg hb hs', fun C σ H ρ q Q E h k => ?_⟩
  refine qi C σ H ρ _ _ E h fun J H1 ds ρ1 E1 s1 it h1 => ?_
  refine ⟨fun i m σ' H' => m = ds.length - i ∧ i ≤ ds.length ∧ ∃ ρ', EnvD C X.K H' σ' ρ' ∧ Step C ρ1 H1 ρ' H' ∧ wFor g tb q (ds.drop i) ρ', ⟨_, rfl, Nat.zero_le _, ρ1, E1, .rfl, h1⟩, ?_⟩
  rintro i m σ' H' ⟨rfl, hi, ρ', E', s', w⟩
  obtain ⟨go, stop⟩ := it i H' fun b o n => s'.keep b o fun z => n (List.mem_append_right _ z)
  by_cases hlt : i < ds.length
  · refine .inr ⟨(go hlt).1, fun σ2 H2 => i + 1 ≤ ds.length ∧ ∃ ρ2, EnvD C X.K H2 σ2 ρ2 ∧ Step C ρ1 H1 ρ2 H2 ∧ wFor g tb q (ds.drop (i + 1)) ρ2, fun σ2 H2 ⟨z, n⟩ => ⟨ds.length - (i + 1), by omega, rfl, z, n⟩, fun x H'' y => ?_⟩
    obtain ⟨l, yd⟩ := (go hlt).2 x H'' y
    obtain ⟨d, e1, D⟩ := yd (hs C ρ') fun a ha => ⟨let ⟨o, e, nt⟩ := E'.hid ha; ⟨o, e, nt⟩, by
      rcases List.mem_append.mp ha with z | z
      · exact .inl (List.mem_append_left _ z)
      · rcases List.mem_append.mp z with z | z
        · exact .inl (List.mem_append_right _ (List.mem_append_left _ z))
        · rcases s'.new a z with z | z
          · exact .inl (List.mem_append_right _ (List.mem_append_right _ z))
          · exact .inr z⟩
    have e2 : ds.drop i = d :: ds.drop (i + 1) := by
      rw [List.drop_eq_getElem_cons hlt]
      have : ds[i] = d := by rw [List.getElem?_eq_getElem hlt] at e1; exact Option.some.inj e1
      rw [this]
    rw [e2] at w
    refine qg C σ' H'' ρ' x d _ _ (E'.le l) D w fun σ2 H2 ρ2 E2 s2 _ w2 => ?_
    have s02 : Step C ρ1 H1 ρ2 H2 := s'.trans ((Step.le l).trans s2)
    have nx : ∀ σ3 H3 ρ3, EnvD C X.K H3 σ3 ρ3 → Step C ρ2 H2 ρ3 H3 → wFor g tb q (ds.drop (i + 1)) ρ3 → i + 1 ≤ ds.length ∧ ∃ ρ2, EnvD C X.K H3 σ3 ρ2 ∧ Step C ρ1 H1 ρ2 H3 ∧ wFor g tb q (ds.drop (i + 1)) ρ2 :=
      fun σ3 H3 ρ3 E3 s3 w3 => ⟨hlt, ρ3, E3, s02.trans s3, w3⟩
    exact qb C σ2 H2 ρ2 _ _ E2 w2 ⟨nx, fun v σ3 H3 d3 ρ3 E3 s3 D3 z => k.rt v σ3 H3 d3 ρ3 E3 ((s1.trans s02).trans s3) D3 z, fun σ3 H3 ρ3 E3 s3 z => k.nx σ3 H3 ρ3 E3 ((s1.trans s02).trans s3) z, nx⟩
  · have e : i = ds.length := by omega
    subst e
    rw [List.drop_length] at w
    exact .inl ⟨stop (Nat.le_refl _), k.nx σ' H' ρ' E' (s1.trans s') w⟩
/-! ### while -/
def tdWhile (c : TDT) (body : TDS) : TDS := fun q ρ => ∃ (Pv : Nat → DEnv → Prop) (m : Nat), Pv m ρ ∧ ∀ m ρ, Pv m ρ → c ρ fun b ρ1 =>
  if b = true then body { q with nx := fun ρ' => ∃ m', m' < m ∧ Pv m' ρ', ct := fun ρ' => ∃ m', m' < m ∧ Pv m' ρ', bk := q.nx } ρ1 else q.nx ρ1
theorem ds_while {tA : TDT} {body : List Stmt} {tb : TDS} (hp : PassesOwn (model X.prog X.w) X.A X.env X.xe) (hc : DT X c tA) (hb : DSs X body tb) : DS X (.While c body [] pos) (tdWhile tA tb) := by
  obtain ⟨pc, hc, qc⟩ := hc.ex
  obtain ⟨pb, hb, qb⟩ := hb.ex
  refine ⟨_, ps_while hp hc hb, fun C σ H ρ q Q E h k => ?_⟩
  obtain ⟨Pv, m0, p0, turn⟩ := h
  refine ⟨fun m σ' H' => ∃ ρ', EnvD C X.K H' σ' ρ' ∧ Step C ρ H ρ' H' ∧ Pv m ρ', ⟨m0, ρ, E, .rfl, p0⟩, ?_⟩
  rintro m σ' H' ⟨ρ', E', s', p⟩
  refine qc C σ' H' ρ' _ _ E' (turn m ρ' p) fun b H1 ρ1 E1 s1 h1 => ?_
  cases b with
  | true =>
    refine ⟨fun σ2 H2 => ∃ m', m' < m ∧ ∃ ρ2, EnvD C X.K H2 σ2 ρ2 ∧ Step C ρ H ρ2 H2 ∧ Pv m' ρ2, fun _ _ n => n, ?_⟩
    have nx : ∀ σ3 H3 ρ3, EnvD C X.K H3 σ3 ρ3 → Step C ρ1 H1 ρ3 H3 → (∃ m', m' < m ∧ Pv m' ρ3) → ∃ m', m' < m ∧ ∃ ρ2, EnvD C X.K H3 σ3 ρ2 ∧ Step C ρ H ρ2 H3 ∧ Pv m' ρ2 :=
      fun σ3 H3 ρ3 E3 s3 ⟨m', l, p'⟩ => ⟨m', l, ρ3, E3, (s'.trans s1).trans s3, p'⟩
    exact qb C σ' H1 ρ1 _ _ E1 h1 ⟨nx, fun v σ3 H3 d3 ρ3 E3 s3 D3 z => k.rt v σ3 H3 d3 ρ3 E3 ((s'.trans s1).trans s3) D3 z, fun σ3 H3 ρ3 E3 s3 z => k.nx σ3 H3 ρ3 E3 ((s'.trans s1).trans s3) z, nx⟩
  | false => exact k.nx σ' H1 ρ1 E1 (s'.trans s1) h1
/-! ### comprehensions of one clause -/
def wipeD (ρ : DEnv) : List Nat → DEnv
  | [] => ρ
  | v :: vs => (wipeD ρ vs).set v .un
def noOwn (ρ : DEnv) (vs : List Nat) : Bool := vs.all fun i => match ρ[i]? with
  | some x => x.addr.isNone
  | none => true
/-- the new list, item by item; ρ0 is the block's environment between turns -/
def wLc (g : TDG) (tt : TDT) (te : TDE) (vs : List Nat) (q : List PyData → Prop) (ρ0 : DEnv) : List PyData → List PyData → Prop
  | [], acc => q acc
  | d :: ds, acc => g d ρ0 fun ρ1 => wipeD ρ1 vs = ρ0 ∧ tt ρ1 fun b ρ2 => ρ2 = ρ1 ∧
      if b = true then te ρ1 fun y ρ3 => ρ3 = ρ1 ∧ acc.length < sizeLine ∧ wLc g tt te vs q ρ0 ds (acc ++ [y]) else wLc g tt te vs q ρ0 ds acc
def tdLc (ti : TDA) (g : TDG) (tt : TDT) (te : TDE) (vs : List Nat) : TDA := fun ρ q => ti ρ fun ds ρ1 => noOwn ρ1 vs = true ∧ wLc g tt te vs (fun acc => q acc ρ1) (wipeD ρ1 vs) ds []
structure DTs (X : Cx) (ifs : List Expr) (t : TDT) : Prop where
  ex : ∃ te, PTs X ifs te ∧ ∀ C σ H ρ q Q, EnvD C X.K H σ ρ → t ρ q → (∀ b H' ρ', EnvD C X.K H' σ ρ' → Step C ρ H ρ' H' → q b ρ' → Q b H') → te σ H Q
def tdYes : TDT := fun ρ q => q true ρ
theorem dts_nil : DTs X [] tdYes := ⟨_, pts_nil, fun C σ H ρ q Q E h k => k true H ρ E .rfl h⟩
theorem dts_one {tA : TDT} (h : DT X c tA) : DTs X [c] tA := by obtain ⟨te, hp, hq⟩ := h.ex; exact ⟨_, pts_one hp, hq⟩
theorem EnvD.wipe {C : Ctx} {K : PySem.W.Frag} {H : Hp} {σ : L2.St} {ρ : DEnv} (E : EnvD C K H σ ρ) : ∀ vs : List Nat, EnvD C K H (wipe σ vs) (wipeD ρ vs)
  | [] => E
  | v :: vs => (E.wipe vs).put rfl (by show SlotOk K C _ H none .un; trivial)
theorem Step.wipe {C : Ctx} {ρ : DEnv} {H : Hp} : ∀ vs : List Nat, Step C ρ H (wipeD ρ vs) H
  | [] => .rfl
  | v :: vs => (Step.wipe vs).trans (Step.put (by rfl))

theorem wipeD_out {ρ : DEnv} {i : Nat} : ∀ {vs : List Nat}, i ∉ vs → (wipeD ρ vs)[i]? = ρ[i]?
  | [], _ => rfl
  | v :: vs, h => by
    unfold wipeD
    rw [List.getElem?_set_ne (fun e => h (by rw [e]; exact List.mem_cons_self))]
    exact wipeD_out fun z => h (List.mem_cons_of_mem _ z)
theorem owns_set_un {ρ : DEnv} {i : Nat} (h : ∀ x, ρ[i]? = some x → x.addr = none) : owns (ρ.set i .un) = owns ρ := by
  induction ρ generalizing i with
  | nil => rfl
  | cons y ρ ih =>
    cases i with
    | zero =>
      show List.filterMap Slot.addr (Slot.un :: ρ) = List.filterMap Slot.addr (y :: ρ)
      rw [List.filterMap_cons_none rfl, List.filterMap_cons_none (h y rfl)]
    | succ i =>
      show List.filterMap Slot.addr (y :: ρ.set i .un) = List.filterMap Slot.addr (y :: ρ)
      have := ih (i := i) (fun x e => h x (by simpa using e))
      unfold owns at this
      cases q : y.addr with
      | none => rw [List.filterMap_cons_none q, List.filterMap_cons_none q]; exact this
      | some b => rw [List.filterMap_cons_some q, List.filterMap_cons_some q, this]
theorem wipeD_get {ρ : DEnv} {i : Nat} {x : Slot} : ∀ {vs : List Nat}, (wipeD ρ vs)[i]? = some x → x = .un ∨ ρ[i]? = some x
  | [], h => .inr h
  | v :: vs, h => by
    unfold wipeD at h
    rw [List.getElem?_set] at h
    split at h
    · split at h
      · cases h; exact .inl rfl
      · cases h
    · exact wipeD_get h
theorem owns_wipe {ρ : DEnv} : ∀ {vs : List Nat}, noOwn ρ vs = true → owns (wipeD ρ vs) = owns ρ
  | [], _ => rfl
  | v :: vs, h => by
    unfold noOwn at h
    rw [List.all_cons, Bool.and_eq_true] at h
    unfold wipeD
    rw [owns_set_un, owns_wipe (show noOwn ρ vs = true from h.2)]
    intro x z
    rcases wipeD_get z with q | q
    · subst q; rfl
    · rw [q] at h; simpa using h.1
/-- the readings of data as readings of values -/
def cE (K : PySem.W.Frag) (t : TDE) : TE := fun σ H Q => ∃ C ρ q, EnvD C K H σ ρ ∧ t ρ q ∧ ∀ v H' d ρ', EnvD C K H' σ ρ' → Step C ρ H ρ' H' → Dp K (hide (hs C ρ') H') v d → q d ρ' → Q v H'
theorem DE.pe (h : DE X e t) : PE X e (cE X.K t) := by
  obtain ⟨te, hp, hq⟩ := h.ex
  exact ⟨fun pins s σ H Q I ⟨C, ρ, q, E, w, k⟩ => hp.run pins s σ H Q I (hq C σ H ρ q Q E w k)⟩
def cT (K : PySem.W.Frag) (t : TDT) : TT := fun σ H Q => ∃ C ρ q, EnvD C K H σ ρ ∧ t ρ q ∧ ∀ b H' ρ', EnvD C K H' σ ρ' → Step C ρ H ρ' H' → q b ρ' → Q b H'
theorem DTs.pe {ifs : List Expr} {tt : TDT} (h : DTs X ifs tt) : PTs X ifs (cT X.K tt) := by
  obtain ⟨te, hp, hq⟩ := h.ex
  exact ⟨fun pins s σ H Q I ⟨C, ρ, q, E, w, k⟩ => hp.run pins s σ H Q I (hq C σ H ρ q Q E w k)⟩
def cG (K : PySem.W.Frag) (g : TDG) (S : List Nat) : TG := fun v σ H Q => ∃ C ρ d q, EnvD C K H σ ρ ∧ Dp K (hide (hs C ρ) H) v d ∧ g d ρ q ∧ ∀ σ' H' ρ', EnvD C K H' σ' ρ' → Step C ρ H ρ' H' → (∀ vs : List Nat, (∀ i ∈ S, i ∈ vs) → L2.wipe σ' vs = L2.wipe σ vs) → q ρ' → Q σ' H'
theorem DG.pe {g : TDG} {S : List Nat} (h : DG X tg g S) : PG X tg (cG X.K g S) := by
  obtain ⟨te, hp, hq⟩ := h.ex
  exact ⟨fun pins s σ H v u Q I r ⟨C, ρ, d, q, E, D, w, k⟩ => hp.run pins s σ H v u Q I r (hq C σ H ρ v d q Q E D w k)⟩
theorem EnvD.updEx {C : Ctx} {K : PySem.W.Frag} {H : Hp} {σ : L2.St} {ρ : DEnv} {a : Addr} {o : HO} (E : EnvD C K H σ ρ) (ha : a ∈ C.ex) (h0 : C.H0 a = none) (ho : ∀ xs, o ≠ HO.tup xs := by exact fun _ z => nomatch z) : EnvD C K (upd H a o) σ ρ := by
  have ah : a ∈ hs C ρ := List.mem_append_left _ ha
  have hu : hide (hs C ρ) (upd H a o) = hide (hs C ρ) H := by
    funext b
    by_cases q : b ∈ hs C ρ
    · rw [hide_in q, hide_in q]
    · rw [hide_out q, hide_out q, upd_ne (fun z => q (by rw [z]; exact ah))]
  refine ⟨E.len, fun i x e => ?_, E.nd, E.dj, E.dr, fun b h => ?_, fun b h => ?_, fun b u e n => ?_⟩
  · obtain ⟨v, e1, s⟩ := E.slots i x e
    refine ⟨v, e1, ?_⟩
    rw [hu]
    refine s.move Le.rfl (fun b hb o z => ?_) rfl rfl
    rw [upd_ne (fun y => (E.dj b (mem_owns.mpr ⟨i, x, e, hb⟩)).1 (by rw [y]; exact ha))]
    exact z
  · by_cases q : b = a
    · subst q; exact ⟨_, upd_same, ho⟩
    · obtain ⟨u, z, nt⟩ := E.exd b h; exact ⟨u, by rw [upd_ne q]; exact z, nt⟩
  · obtain ⟨sc, ns, i', s, b', q, r⟩ := E.row b h
    rw [hu]
    exact ⟨sc, ns, i', s, b', by rw [upd_ne (fun y => E.dr b h (by rw [y]; exact ha))]; exact q, r⟩
  · rw [upd_ne (fun y => by rw [y, h0] at e; cases e)]
    exact E.keep b u e n
theorem lc_sound {ti : TDA} {g : TDG} {S : List Nat} {tt : TDT} {te : TDE} {vs : List Nat} {pi : TI} {K : PySem.W.Frag}
    (qi : ∀ C σ H ρ q R, EnvD C K H σ ρ → ti ρ q → (∀ J H1 ds ρ1, EnvD C K H1 σ ρ1 → Step C ρ H ρ1 H1 → ItD K C ρ1 H1 J ds → q ds ρ1 → R J H1) → pi σ H R)
    (hS : ∀ i ∈ S, i ∈ vs) (C : Ctx) (σ : L2.St) (H : Hp) (ρ : DEnv) (q : List PyData → DEnv → Prop) (Q : VK) (E : EnvD C K H σ ρ) (h : tdLc ti g tt te vs ρ q)
    (k : ∀ a ws H' ds ρ', EnvD (C.with a) K H' σ ρ' → Step C ρ H ρ' H' → H a = none → H' a = some (.lst ws) → DpAll K (hide (hs (C.with a) ρ') H') ws ds → q ds ρ' → Q (.ref a) H') :
    tLc pi (cG K g S) (cT K tt) (cE K te) vs σ H Q := by
  refine qi C σ H ρ _ _ E h fun J H1 ds ρ1 E1 s1 it h1 => ?_
  obtain ⟨no, h1⟩ := h1
  intro D hD
  have ho : owns (wipeD ρ1 vs) = owns ρ1 := owns_wipe no
  have hD0 : C.H0 D = none := E1.fresh0 hD
  have hh : hs (C.with D) (wipeD ρ1 vs) = hs (C.with D) ρ1 := by unfold hs mu; rw [ho]
  have st0 : Step C ρ1 H1 (wipeD ρ1 vs) (upd H1 D (.lst [])) := (Step.wipe vs).trans (.le (.upd hD))
  refine ⟨fun i m H' => m = ds.length - i ∧ i ≤ ds.length ∧ ∃ (acc : List PyData) (va : List V), EnvD (C.with D) K H' (L2.wipe σ vs) (wipeD ρ1 vs) ∧ Step C ρ1 H1 (wipeD ρ1 vs) H' ∧ H' D = some (.lst va) ∧ DpAll K (hide (hs (C.with D) ρ1) H') va acc ∧ wLc g tt te vs (fun acc => q acc ρ1) (wipeD ρ1 vs) (ds.drop i) acc,
    ⟨_, rfl, Nat.zero_le _, [], [], (E1.wipe vs).with_fresh hD, st0, upd_same, .nil, h1⟩, ?_⟩
  rintro i m H' ⟨rfl, hi', acc, va, E', s', hDa, Da, w⟩
  obtain ⟨go, stop⟩ := it i H' fun b o n => s'.keep b o fun z => n (List.mem_append_right _ z)
  by_cases hlt : i < ds.length
  · refine .inr ⟨(go hlt).1, fun H2 => i + 1 ≤ ds.length ∧ ∃ (acc : List PyData) (va : List V), EnvD (C.with D) K H2 (L2.wipe σ vs) (wipeD ρ1 vs) ∧ Step C ρ1 H1 (wipeD ρ1 vs) H2 ∧ H2 D = some (.lst va) ∧ DpAll K (hide (hs (C.with D) ρ1) H2) va acc ∧ wLc g tt te vs (fun acc => q acc ρ1) (wipeD ρ1 vs) (ds.drop (i + 1)) acc,
      fun H2 ⟨z, n⟩ => ⟨ds.length - (i + 1), by omega, rfl, z, n⟩, fun x H'' y => ?_⟩
    obtain ⟨l, yd⟩ := (go hlt).2 x H'' y
    obtain ⟨d, e1, Dx⟩ := yd (hs (C.with D) (wipeD ρ1 vs)) fun a ha => ⟨let ⟨o, e, nt⟩ := E'.hid ha; ⟨o, e, nt⟩, by
      rw [hh] at ha
      rcases List.mem_cons.mp ha with z | z
      · subst z; exact .inr hD
      · exact .inl z⟩
    have e2 : ds.drop i = d :: ds.drop (i + 1) := by
      rw [List.drop_eq_getElem_cons hlt]
      have : ds[i] = d := by rw [List.getElem?_eq_getElem hlt] at e1; exact Option.some.inj e1
      rw [this]
    rw [e2] at w
    refine ⟨C.with D, wipeD ρ1 vs, d, _, E'.le l, Dx, w, fun σ2 H2 ρ2 E2 s2 wp2 w2 => ?_⟩
    have wq : L2.wipe σ2 vs = L2.wipe σ vs := by
      rw [wp2 vs hS]
      apply List.ext_getElem?
      intro j
      by_cases qj : j ∈ vs
      · rw [wipe_in qj, wipe_in qj]
        cases σ[j]? <;> rfl
      · rw [L2.wipe_out qj]
    have hD2 : H2 D = some (.lst va) := s2.keep D _ (fun z => by
      rcases List.mem_append.mp z with z | z
      · exact (E'.dr D z) List.mem_cons_self
      · exact (E'.dj D z).1 List.mem_cons_self) (l _ _ hDa)
    have Da2 : DpAll K (hide (hs (C.with D) ρ2) H2) va acc := DpAll.le s2.vis (DpAll.le (hide_le l) (by rw [hh]; exact Da))
    refine ⟨wq, C.with D, ρ2, _, E2, w2.2, fun b H3 ρ3 E3 s3 w3 => ?_⟩
    obtain ⟨r3, w3⟩ := w3
    subst r3
    have hD3 : H3 D = some (.lst va) := s3.keep D _ (fun z => by
      rcases List.mem_append.mp z with z | z
      · exact (E2.dr D z) List.mem_cons_self
      · exact (E2.dj D z).1 List.mem_cons_self) hD2
    have Da3 := DpAll.le s3.vis Da2
    -- the environment between turns again
    have again : ∀ {H5 : Hp}, EnvD (C.with D) K H5 σ2 ρ3 → EnvD (C.with D) K H5 (L2.wipe σ vs) (wipeD ρ1 vs) := fun {H5} E5 => by
      have := E5.wipe vs
      rw [wq, w2.1] at this
      exact this
    have muD : mu (C.with D) (wipeD ρ1 vs) = mu C ρ1 := by unfold mu; rw [ho]
    have stepN : ∀ {H5 : Hp}, Step (C.with D) (wipeD ρ1 vs) H'' ρ3 H5 → Step C ρ1 H1 (wipeD ρ1 vs) H5 := fun {H5} s5 =>
      ⟨fun b o n z => s5.keep b o (by rw [muD]; exact n) (l _ _ (s'.keep b o n z)), fun b o z => by
        obtain ⟨o1, z1⟩ := s'.dom b o z
        exact s5.dom b o1 (l _ _ z1), fun b z => .inl (by rw [ho] at z; exact z)⟩
    cases b with
    | false =>
      rw [if_neg (by decide)] at w3 ⊢
      refine ⟨hlt, acc, va, again E3, stepN (s2.trans s3), hD3, ?_, w3⟩
      refine DpAll.le (hide_sub fun b z => ?_) Da3
      rw [← hh] at z
      rw [← w2.1] at z
      exact hs_sub (fun c y => by
        obtain ⟨j, x', q, hx'⟩ := mem_owns.mp y
        rcases wipeD_get q with q | q
        · subst q; cases hx'
        · exact mem_owns.mpr ⟨j, x', q, hx'⟩) b z
    | true =>
      rw [if_pos rfl] at w3 ⊢
      refine ⟨C.with D, ρ3, _, E3, w3, fun y H4 dy ρ4 E4 s4 D4 w4 => ?_⟩
      obtain ⟨r4, hz, w4⟩ := w4
      subst r4
      have hD4 : H4 D = some (.lst va) := s4.keep D _ (fun z => by
        rcases List.mem_append.mp z with z | z
        · exact (E3.dr D z) List.mem_cons_self
        · exact (E3.dj D z).1 List.mem_cons_self) hD3
      have Da4 := DpAll.le s4.vis Da3
      refine ⟨va, hD4, by rw [DpAll.length Da4]; exact hz, hlt, acc ++ [dy], va ++ [y], again (E4.updEx List.mem_cons_self hD0), ?_, upd_same, ?_, w4⟩
      · have s6 := stepN ((s2.trans s3).trans s4)
        exact ⟨fun b o n z => by rw [upd_ne (ne_of_none z hD)]; exact s6.keep b o n z, fun b o z => by
          rw [upd_ne (ne_of_none z hD)]; exact s6.dom b o z, s6.new⟩
      · have D5 := DpAll.append Da4 (.cons D4 .nil)
        refine DpAll.le (fun b o z => ?_) D5
        obtain ⟨n, z⟩ := hide_some z
        have nD : b ≠ D := fun q => n (by rw [q]; exact List.mem_cons_self)
        rw [hide_out, upd_ne nD]
        · exact z
        · intro z'
          rw [← hh, ← w2.1] at z'
          exact n (hs_sub (fun c y => by
            obtain ⟨j, x', q, hx'⟩ := mem_owns.mp y
            rcases wipeD_get q with q | q
            · subst q; cases hx'
            · exact mem_owns.mpr ⟨j, x', q, hx'⟩) b z')
  · have e : i = ds.length := by omega
    subst e
    rw [List.drop_length] at w
    refine .inl ⟨stop (Nat.le_refl _), ?_⟩
    have vis : Le (hide (hs C ρ1) H1) (hide (hs (C.with D) ρ1) H') := fun b o z => by
      obtain ⟨n, z⟩ := hide_some z
      have nD : b ≠ D := ne_of_none z hD
      rw [hide_out]
      · exact s'.keep b o (fun y => n (List.mem_append_right _ y)) z
      · intro y
        rcases List.mem_cons.mp y with y | y
        · exact nD y
        · exact n y
    have EF : EnvD (C.with D) K H' σ ρ1 := by
      refine ⟨E1.len, fun j x e => ?_, E1.nd, fun b z => E'.dj b (by rw [ho]; exact z), E'.dr, E'.exd, fun b z => by have := E'.row b z; rw [hh] at this; exact this, E'.keep⟩
      by_cases qj : j ∈ vs
      · obtain ⟨v, e1, sl⟩ := E1.slots j x e
        refine ⟨v, e1, sl.move vis (fun a ha o z => ?_) rfl rfl⟩
        have := List.all_eq_true.mp no j qj
        rw [e] at this
        simp [ha] at this
      · obtain ⟨v, e1, sl⟩ := E'.slots j x (by rw [wipeD_out qj]; exact e)
        rw [L2.wipe_out qj] at e1
        rw [hh] at sl
        exact ⟨v, e1, sl⟩
    exact k D va H' acc ρ1 EF (s1.trans ⟨s'.keep, s'.dom, fun b z => .inl z⟩) (s1.free hD) hDa Da w

/-- [elt for tg in iter if ..]: a new list -/
theorem df_lc {elt : Expr} {ifs : List Expr} {scope : Scope} {own : List (Str × Nat)} {ti : TDA} {g : TDG} {S : List Nat} {tt : TDT} {te : TDE} (hc : X.calm = true) (hN : X.N.Nodup) (hi : DI X tg iter ti) (ok : BlkOk X.N X.env.scope scope own)
    (hg : ∀ (s : Shared) (H : Hp) (C : Addr) (cl : List (Str × Addr)) (fp : List Addr), DG (X.blk s H scope (compEnvC scope cl C X.env) fp) tg g S)
    (ht : ∀ (s : Shared) (H : Hp) (C : Addr) (cl : List (Str × Addr)) (fp : List Addr), DTs (X.blk s H scope (compEnvC scope cl C X.env) fp) ifs tt)
    (he : ∀ (s : Shared) (H : Hp) (C : Addr) (cl : List (Str × Addr)) (fp : List Addr), DE (X.blk s H scope (compEnvC scope cl C X.env) fp) elt te)
    (hS : ∀ i ∈ S, i ∈ own.map (·.2) := by decide) (hs' : ∀ x, foldedSetIterable iter X.env x = pure x := by intro _; rfl) :
    DF X (.ListComp elt [⟨tg, iter, ifs, 0⟩] scope pos) (tdLc ti g tt te (own.map (·.2))) := by
  obtain ⟨pi, hi, qi⟩ := hi.ex
  exact ⟨_, pe_lc (g := cG X.K g S) (tt := cT X.K tt) (te := cE X.K te) hc hN hi ok (fun s H C cl fp => (hg s H C cl fp).pe) (fun s H C cl fp => (ht s H C cl fp).pe) (fun s H C cl fp => (he s H C cl fp).pe) hs', fun C σ H ρ q Q E h k => lc_sound qi hS C σ H ρ q Q E h k⟩
/-- name = [..] on one line: shared, or this def's own -/
theorem ds_setLc {i : Nat} {y : Str} {py spos : Pos} {elt : Expr} {ifs : List Expr} {scope : Scope} {own : List (Str × Nat)} {ti : TDA} {g : TDG} {S : List Nat} {tt : TDT} {te : TDE} (hc : X.calm = true) (hN : X.N.Nodup) (hy : X.N[i]? = some y) (hyl : X.env.scope.names.lookup y = some .local)
    (hsw : swapsWith (.ListComp elt [⟨tg, iter, ifs, 0⟩] scope pos) (some (.Name y py)) spos.line X.env = pure true) (hi : DI X tg iter ti) (ok : BlkOk X.N X.env.scope scope own)
    (hg : ∀ (s : Shared) (H : Hp) (C : Addr) (cl : List (Str × Addr)) (fp : List Addr), DG (X.blk s H scope (compEnvC scope cl C X.env) fp) tg g S)
    (ht : ∀ (s : Shared) (H : Hp) (C : Addr) (cl : List (Str × Addr)) (fp : List Addr), DTs (X.blk s H scope (compEnvC scope cl C X.env) fp) ifs tt)
    (he : ∀ (s : Shared) (H : Hp) (C : Addr) (cl : List (Str × Addr)) (fp : List Addr), DE (X.blk s H scope (compEnvC scope cl C X.env) fp) elt te)
    (hS : ∀ i ∈ S, i ∈ own.map (·.2) := by decide) (hs' : ∀ x, foldedSetIterable iter X.env x = pure x := by intro _; rfl) :
    DS X (.Assign [.Name y py] (.ListComp elt [⟨tg, iter, ifs, 0⟩] scope pos) spos) (tdSet i fun ρ q => tdLc ti g tt te (own.map (·.2)) ρ fun ds ρ1 => q (.list ds) ρ1) := by
  obtain ⟨pi, hi, qi⟩ := hi.ex
  refine ⟨_, ps_setLc (g := cG X.K g S) (tt := cT X.K tt) (te := cE X.K te) hc hN hy hyl hsw hi ok (fun s H C cl fp => (hg s H C cl fp).pe) (fun s H C cl fp => (ht s H C cl fp).pe) (fun s H C cl fp => (he s H C cl fp).pe) hs', fun C σ H ρ q Q E h k => ?_⟩
  refine lc_sound qi hS C σ H ρ _ _ E h fun a vs H' ds ρ' E' s hn ha D z => ?_
  have hcx : a ∉ C.ex := fun z => by obtain ⟨o, e, _⟩ := E.exd a z; rw [hn] at e; cases e
  have D' : Dp X.K (hide (hs C ρ') H') (.ref a) (.list ds) := .lst (SqL.of (by rw [hide_out (E'.with_out hcx)]; exact ha)) (DpAll.le (hide_sub fun b z => List.mem_cons_of_mem _ z) D)
  exact k.nx _ _ _ (E'.unwith.sh D') (s.trans (Step.put (by rfl))) z
end
end DL
/-! DL: operators, calls. -/
namespace DL
open PySem PySem.Spec PyProof.Rows L2
/-! ### operators by data -/
def rI (P : Int → Int → Prop) (g : Int → Int → PyData) : RD2 := fun x y q => match x, y with
  | .int i, .int j => P i j ∧ q (g i j)
  | _, _ => False
def rI0 (g : Int → Int → PyData) : RD2 := fun x y q => match x, y with
  | .int i, .int j => q (g i j)
  | _, _ => False
section
variable {X : Cx} {e a b c tg iter : Expr} {es : List Expr} {pos : Pos} {t ta tb tc : TDE}
theorem lop_i {f : Value → Value → Sem Value} {P : Int → Int → Prop} {g : Int → Int → V} {gd : Int → Int → PyData} (h : OpR X f (L2.rI P g)) (hg : ∀ i j H, Dp X.K H (g i j) (gd i j)) : LOp X f (rI P gd) := by
  refine ⟨_, h, fun as H x y dx dy qd Q ex Dx Dy w k => ?_⟩
  cases dx with
  | int i =>
    cases dy with
    | int j =>
      cases Dx; cases Dy
      exact ⟨i, j, rfl, rfl, w.1, k _ H _ .rfl (hg _ _ _) w.2⟩
    | _ => exact False.elim w
  | _ => exact False.elim w
theorem lop_i0 {f : Value → Value → Sem Value} {g : Int → Int → V} {gd : Int → Int → PyData} (h : OpR X f (L2.rI0 g)) (hg : ∀ i j H, Dp X.K H (g i j) (gd i j)) : LOp X f (rI0 gd) := by
  refine ⟨_, h, fun as H x y dx dy qd Q ex Dx Dy w k => ?_⟩
  cases dx with
  | int i =>
    cases dy with
    | int j =>
      cases Dx; cases Dy
      exact ⟨i, j, rfl, rfl, k _ H _ .rfl (hg _ _ _) w⟩
    | _ => exact False.elim w
  | _ => exact False.elim w
theorem l_add : LOp X (binaryOp .Add) (rI0 fun i j => .int (i + j)) := lop_i0 op_add fun _ _ _ => .int _
theorem l_sub : LOp X (binaryOp .Sub) (rI0 fun i j => .int (i - j)) := lop_i0 op_sub fun _ _ _ => .int _
theorem l_mul : LOp X (binaryOp .Mult) (rI CMul fun i j => .int (i * j)) := lop_i op_mul fun _ _ _ => .int _
theorem l_fdiv : LOp X (binaryOp .FloorDiv) (rI CDiv fun i j => .int (i / j)) := lop_i op_fdiv fun _ _ _ => .int _
theorem l_mod : LOp X (binaryOp .Mod) (rI (fun _ j => 0 < j) fun i j => .int (i % j)) := lop_i op_mod fun _ _ _ => .int _
theorem l_pow : LOp X (binaryOp .Pow) (rI CPow fun i j => .int (i ^ j.toNat)) := lop_i op_pow fun _ _ _ => .int _
theorem l_shl : LOp X (binaryOp .LShift) (rI CPow fun i j => .int (i * 2 ^ j.toNat)) := lop_i op_shl fun _ _ _ => .int _
theorem l_shr : LOp X (binaryOp .RShift) (rI (fun _ j => 0 ≤ j) fun i j => .int (i / 2 ^ j.toNat)) := lop_i op_shr fun _ _ _ => .int _
theorem l_and : LOp X (binaryOp .BitAnd) (rI0 fun i j => .int (Builtin.bitAnd i j)) := lop_i0 op_and fun _ _ _ => .int _
theorem l_or : LOp X (binaryOp .BitOr) (rI0 fun i j => .int (Builtin.bitOr i j)) := lop_i0 op_or fun _ _ _ => .int _
theorem l_xor : LOp X (binaryOp .BitXor) (rI0 fun i j => .int (Builtin.bitXor i j)) := lop_i0 op_xor fun _ _ _ => .int _
theorem li_add : LOp X (inplaceOp .Add) (rI0 fun i j => .int (i + j)) := lop_i0 iop_add fun _ _ _ => .int _
theorem li_or : LOp X (inplaceOp .BitOr) (rI0 fun i j => .int (Builtin.bitOr i j)) := lop_i0 iop_or fun _ _ _ => .int _
theorem li_xor : LOp X (inplaceOp .BitXor) (rI0 fun i j => .int (Builtin.bitXor i j)) := lop_i0 iop_xor fun _ _ _ => .int _
theorem l_lt : LOp X (compareOp .Lt) (rI0 fun i j => .bool (decide (i < j))) := lop_i0 op_lt fun _ _ _ => .bl _
theorem l_le : LOp X (compareOp .LtE) (rI0 fun i j => .bool (decide (i ≤ j))) := lop_i0 op_le fun _ _ _ => .bl _
theorem l_gt : LOp X (compareOp .Gt) (rI0 fun i j => .bool (decide (j < i))) := lop_i0 op_gt fun _ _ _ => .bl _
theorem l_ge : LOp X (compareOp .GtE) (rI0 fun i j => .bool (decide (j ≤ i))) := lop_i0 op_ge fun _ _ _ => .bl _
/-- ==, != of data at any depth -/
theorem Dp.all {K : PySem.W.Frag} {as : List Addr} {H : Hp} {v : V} {d : PyData} (p : plain d = true) (h : Dp K (hide as H) v d) : L2.Dp K H v d := Dp.old p (Dp.le hide_Le h)
theorem l_eq (hu : X.A.units + 64 < cLine) : LOp X (compareOp .Eq) (fun x y q => SeqAt.shaped x = true ∧ SeqAt.shaped y = true ∧ q (.bool (PyData.eqv x y))) :=
  ⟨_, op_eqD hu, fun as H x y dx dy qd Q ex Dx Dy w k => ⟨dx, dy, Dp.all (plain_sh w.1) Dx, Dp.all (plain_sh w.2.1) Dy, w.1, w.2.1, k _ H _ .rfl (.bl _) w.2.2⟩⟩
theorem l_ne (hu : X.A.units + 64 < cLine) : LOp X (compareOp .NotEq) (fun x y q => SeqAt.shaped x = true ∧ SeqAt.shaped y = true ∧ q (.bool (!PyData.eqv x y))) :=
  ⟨_, op_neD hu, fun as H x y dx dy qd Q ex Dx Dy w k => ⟨dx, dy, Dp.all (plain_sh w.1) Dx, Dp.all (plain_sh w.2.1) Dy, w.1, w.2.1, k _ H _ .rfl (.bl _) w.2.2⟩⟩
def isNoneD : PyData → Bool
  | .none => true
  | _ => false
theorem Dp.isNone {K : PySem.W.Frag} {H : Hp} {v : V} {d : PyData} (h : Dp K H v d) : decide (v = .non) = isNoneD d := by
  cases h <;> simp [isNoneD]
theorem l_notN : LOp X (compareOp .IsNot) (fun x y q => isNoneD y = true ∧ q (.bool (!isNoneD x))) := by
  refine ⟨_, op_notN, fun as H x y dx dy qd Q ex Dx Dy w k => ?_⟩
  obtain ⟨w1, w2⟩ := w
  cases dy with
  | none => cases Dy; exact ⟨rfl, by rw [Dp.isNone Dx]; exact k _ H _ .rfl (.bl _) w2⟩
  | _ => exact absurd w1 Bool.false_ne_true
/-- a unary operator -/
def LUn (X : Cx) (f : Value → Sem Value) (rd : PyData → (PyData → Prop) → Prop) : Prop := ∃ r, UnR X f r ∧ ∀ as H x dx qd Q, Dp X.K (hide as H) x dx → rd dx qd → (∀ v d, (∀ H, Dp X.K H v d) → qd d → Q v H) → r x H Q
theorem de_un {op : UnaryOp} {rd : PyData → (PyData → Prop) → Prop} (hl : LUn X (unaryOp op) rd) (ha : DE X a ta) : DE X (.UnaryOp op a pos) (fun ρ q => ta ρ fun x ρ1 => rd x fun z => q z ρ1) := by
  obtain ⟨r, ho, hl⟩ := hl
  obtain ⟨pa, ha, qa⟩ := ha.ex
  refine ⟨_, pe_un ho ha, fun C σ H ρ q Q E h k => qa C σ H ρ _ _ E h fun x H1 dx ρ1 E1 s1 D1 h1 => ?_⟩
  exact hl (hs C ρ1) H1 x dx _ _ D1 h1 fun v d D z => k v H1 d ρ1 E1 s1 (D _) z
def rU (g : Int → Int) : PyData → (PyData → Prop) → Prop := fun x q => match x with
  | .int i => q (.int (g i))
  | _ => False
theorem lun_i {f : Value → Sem Value} {g : Int → Int} (h : UnR X f (L2.rU fun i => .int (g i))) : LUn X f (rU g) := by
  refine ⟨_, h, fun as H x dx qd Q D w k => ?_⟩
  cases dx with
  | int i => cases D; exact ⟨i, rfl, k _ _ (fun _ => .int _) w⟩
  | _ => exact False.elim w
theorem l_neg : LUn X (unaryOp .USub) (rU fun i => -i) := lun_i un_neg
theorem l_inv : LUn X (unaryOp .Invert) (rU Builtin.bitNot) := lun_i un_inv
/-- a < b < c -/
def tdChain (rd rd' : RD2) (ta tb tc : TDE) : TDE := fun ρ q => ta ρ fun x ρ1 => tb ρ1 fun y ρ2 => rd x y fun z => match z with
  | .bool k => if k = true then tc ρ2 fun w ρ3 => rd' y w fun z' => q z' ρ3 else q (.bool false) ρ2
  | _ => False
theorem de_chain {op op' : CmpOp} {rd rd' : RD2} (hl : LOp X (compareOp op) rd) (hl' : LOp X (compareOp op') rd') (ha : DE X a ta) (hb : DE X b tb) (hc : DE X c tc)
    (hm : lastMarks [op, op'] [b, c] = false := by with_unfolding_all rfl) : DE X (.Compare a [op, op'] [b, c] pos) (tdChain rd rd' ta tb tc) := by
  obtain ⟨r, ho, hl⟩ := hl
  obtain ⟨r', ho', hl'⟩ := hl'
  obtain ⟨pa, ha, qa⟩ := ha.ex
  obtain ⟨pb, hb, qb⟩ := hb.ex
  obtain ⟨pc, hc, qc⟩ := hc.ex
  refine ⟨_, pe_chain ho ho' ha hb hc hm, fun C σ H ρ q Q E h k => ?_⟩
  refine qa C σ H ρ _ _ E h fun x H1 dx ρ1 E1 s1 D1 h1 => ?_
  refine qb C σ H1 ρ1 _ _ E1 h1 fun y H2 dy ρ2 E2 s2 D2 h2 => ?_
  refine hl (hs C ρ2) H2 x y dx dy _ _ (fun a h => E2.hid h) (BV.step D1 s2) D2 h2 fun v H3 d l D q3 => ?_
  cases d with
  | bool kk =>
    cases D
    refine ⟨kk, rfl, ?_⟩
    cases kk with
    | true =>
      refine qc C σ H3 ρ2 _ _ (E2.le l) q3 fun w H4 dw ρ4 E4 s4 D4 h4 => ?_
      refine hl' (hs C ρ4) H4 y w dy dw _ _ (fun a h => E4.hid h) (BV.step (Dp.le (hide_le l) D2) s4) D4 h4 fun v5 H5 d5 l5 D5 q5 => ?_
      exact k v5 H5 d5 ρ4 (E4.le l5) (((s1.trans s2).trans (.le l)).trans (s4.trans (.le l5))) D5 q5
    | false => exact k _ H3 _ ρ2 (E2.le l) ((s1.trans s2).trans (.le l)) (.bl false) q3
  | _ => exact False.elim q3
/-! ### own defs -/
abbrev SD := List PyData → (PyData → Prop) → Prop
/-- what a def that draws nothing promises, by data -/
def spD (K : PySem.W.Frag) (n : Nat) (sd : SD) : Sp := fun vs H Q _ => vs.length = n ∧ ∃ (as : List Addr) (ds : List PyData) (q0 : PyData → Prop), (∀ a ∈ as, ∃ o, H a = some o ∧ ∀ xs, o ≠ HO.tup xs) ∧ DpAll K (hide as H) vs ds ∧ sd ds q0 ∧ ∀ d, q0 d → ∀ v H', Le H H' → Dp K (hide as H') v d → Q v H'
theorem startD_len {N : List Str} {vs : List V} {ds : List PyData} (h : vs.length = ds.length) (hn : vs.length ≤ N.length) : (start N vs).length = (ds.map Slot.sh ++ List.replicate (N.length - ds.length) Slot.un).length := by
  unfold L2.start
  simp [h]
theorem start_envD {K : PySem.W.Frag} {H : Hp} {as : List Addr} {N : List Str} {vs : List V} {ds : List PyData} (ex : ∀ a ∈ as, ∃ o, H a = some o ∧ ∀ xs, o ≠ HO.tup xs) (D : DpAll K (hide as H) vs ds) (hn : vs.length ≤ N.length) :
    EnvD ⟨H, as, []⟩ K H (start N vs) (ds.map Slot.sh ++ List.replicate (N.length - ds.length) Slot.un) := by
  have ho : owns (ds.map Slot.sh ++ List.replicate (N.length - ds.length) Slot.un) = [] := by
    apply List.eq_nil_iff_forall_not_mem.mpr
    intro a h
    obtain ⟨i, x, e, hx⟩ := mem_owns.mp h
    rw [List.getElem?_append] at e
    split at e
    · rw [List.getElem?_map] at e
      cases q : ds[i]? with
      | none => rw [q] at e; cases e
      | some d => rw [q] at e; cases e; cases hx
    · rw [List.getElem?_replicate] at e
      split at e
      · cases e; cases hx
      · cases e
  have hh : hs ⟨H, as, []⟩ (ds.map Slot.sh ++ List.replicate (N.length - ds.length) Slot.un) = as := by unfold hs mu; rw [ho]; simp
  refine ⟨startD_len (DpAll.length D) hn, fun i x e => ?_, by rw [ho]; exact List.nodup_nil, fun a h => (by rw [ho] at h; cases h), fun a h => (nomatch h), ex, fun a h => (nomatch h), fun b o e _ => e⟩
  rw [hh]
  have hl := DpAll.length D
  rw [List.getElem?_append] at e
  unfold L2.start
  split at e
  · rename_i z
    rw [List.getElem?_map] at e
    cases q : ds[i]? with
    | none => rw [q] at e; cases e
    | some d =>
      rw [q] at e; cases e
      obtain ⟨v, h1, h2⟩ := DpAll.get D q
      refine ⟨some v, ?_, h2⟩
      rw [List.getElem?_append_left (by simp; exact (List.getElem?_eq_some_iff.mp h1).1), List.getElem?_map, h1]
      rfl
  · rename_i z
    rw [List.getElem?_replicate] at e
    split at e
    · rename_i z2
      cases e
      refine ⟨none, ?_, trivial⟩
      rw [List.length_map] at z z2
      rw [List.getElem?_append_right (by simp; omega), List.getElem?_replicate]
      simp only [List.length_map]
      rw [if_pos (by omega)]
    · cases e
/-- a def of the text keeps what its body's reading says -/
theorem fnD {P : Program} {w : World} {K : PySem.W.Frag} {mg : Str → Option Value} {base : Heap} {x qual : Str} {st : Stmt} {f : Addr} {fd : FuncData} {N ps : List Str} {k : Nat} {sd : SD} {u : TDS} (F : Fun K x qual st f fd) (S : FnScope N ps (defScope st)) (hn : ps.length ≤ N.length)
    (hbody : ∀ (cdv : Value) (A : Around) (outer : List Env) (s : Shared) (H : Hp) (E : XK), Room k (A.deeper (envOfC qual (defScope st) s.heap.objs.size f cdv)) →
      DSs (cxOf CX0 P w K mg base N qual (defScope st) f cdv A outer s H E).nox (defBody st) u)
    (hr : ∀ ds q, ds.length = ps.length → sd ds q → u { nx := fun _ => q .none, rt := fun d _ => q d } (ds.map Slot.sh ++ List.replicate (N.length - ds.length) Slot.un)) :
    FnOk P w K mg base CX0 (k + 1) f fd ps (spD K ps.length sd) := by
  refine F.ok S (fun vs H Q E h => h.1) fun cdv A outer s H vs Q E hrm h => ?_
  obtain ⟨hl, as, ds, q0, ex, D, w', fin⟩ := h
  obtain ⟨ts, hp, hq⟩ := (hbody cdv A outer s H E hrm).ex
  refine ⟨ts, hp, ?_⟩
  have hld : ds.length = ps.length := (DpAll.length D).symm.trans hl
  have E0 : EnvD ⟨H, as, []⟩ K H (start N vs) (ds.map Slot.sh ++ List.replicate (N.length - ds.length) Slot.un) := start_envD ex D (by omega)
  have sub : ∀ (ρ : DEnv), ∀ b, b ∈ as → b ∈ hs ⟨H, as, []⟩ ρ := fun ρ b z => List.mem_append_left _ z
  refine hq ⟨H, as, []⟩ (start N vs) H _ { nx := fun _ => q0 .none, rt := fun d _ => q0 d } _ E0 (hr ds _ hld w') ⟨fun σ' H' ρ' E' s' z => ?_, fun v σ' H' d ρ' E' s' D' z => ?_, fun _ _ _ _ _ z => z, fun _ _ _ _ _ z => z⟩
  · exact fin _ z .non H' (fun b o e => E'.keep b o e (by simp)) .non
  · exact fin _ z v H' (fun b o e => E'.keep b o e (by simp)) (Dp.le (hide_sub (sub ρ')) D')
/-- a call of it -/
theorem de_call {k : Nat} {f : Addr} {fd : FuncData} {ps : List Str} {n : Nat} {sd : SD} {x : Str} {p : Pos} {ts : TDA} (F : FnOk X.prog X.w X.K X.mg X.base CX0 k f fd ps (spD X.K n sd)) (hr : Room k X.A) (hg : Gl X x) (hm : X.mg x = some (.ref f)) (hk : PySem.W.keepIn X.K (.ref f) = true) (hb : Binds X.K fd ps [])
    (ha : DA X (e :: es) ts) (hdb : (x == ("__debug__" : Str)) = false := by decide) (he : starEach (e :: es) X.env = (false, eval e X.env) :: starEach es X.env := by rfl) (hpl : (backTo pos (starEach es X.env)).any (·.1) = false := by rfl) :
    DE X (.Call (.Name x p) (e :: es) [] pos) (fun ρ q => ts ρ fun ds ρ1 => ds.length = n ∧ sd ds fun d => q d ρ1) := by
  obtain ⟨ta, ha, qa⟩ := ha.ex
  refine ⟨_, pe_call F hr hg hm hk hb .nil pass0 (E := E0) ha hdb he hpl, fun C σ H ρ q Q E h k => ?_⟩
  refine qa C σ H ρ _ _ E h fun vs H1 ds ρ1 E1 s1 D1 h1 => ?_
  refine ⟨by rw [List.append_nil, DpAll.length D1]; exact h1.1, hs C ρ1, ds, fun d => q d ρ1, fun a h => E1.hid h, by rw [List.append_nil]; exact D1, h1.2, fun d z v H' l D => ?_⟩
  exact k v H' d ρ1 (E1.le l) (s1.trans (.le l)) D z
end
end DL
/-! DL: built-ins, subscripts, iterators. -/
namespace DL
open PySem PySem.Spec PyProof.Rows L2
section
variable {X : Cx} {e a b c tg iter : Expr} {es : List Expr} {pos : Pos} {t ta tb tc : TDE}
/-! ### arguments that may be lent -/
/-- one argument, lent -/
structure D1 (X : Cx) (e : Expr) (t : TDE) : Prop where
  ex : ∃ te, PA X [e] te ∧ ∀ C σ H ρ q (Q : List V → Hp → Prop), EnvD C X.K H σ ρ → t ρ q → (∀ v H' d ρ', EnvD C X.K H' σ ρ' → Step C ρ H ρ' H' → BV X.K C ρ' H' v d → q d ρ' → Q [v] H') → te σ H Q
theorem d1 (h : DB X e t) (hs' : starEach [e] X.env = (false, eval e X.env) :: starEach [] X.env := by rfl) : D1 X e t := by
  obtain ⟨te, hp, hq⟩ := h.ex
  exact ⟨_, pa_cons hp pa_nil hs', fun C σ H ρ q Q E w k => hq C σ H ρ _ _ E w fun v H' d ρ' E' s B z => k v H' d ρ' E' s B z⟩
/-- a built-in of one lent argument, by data -/
def L1 (X : Cx) (r : List V → Hp → VK → Prop) (rd : PyData → (PyData → Prop) → Prop) : Prop :=
  ∀ C σ ρ H v d qd Q, EnvD C X.K H σ ρ → BV X.K C ρ H v d → rd d qd → (∀ v' H' d', Le H H' → Dp X.K (hide (hs C ρ) H') v' d' → qd d' → Q v' H') → r [v] H Q
def td1 (rd : PyData → (PyData → Prop) → Prop) (t : TDE) : TDE := fun ρ q => t ρ fun d ρ1 => rd d fun z => q z ρ1
theorem de_b1 {id : String} {r : List V → Hp → VK → Prop} {rd : PyData → (PyData → Prop) → Prop} {x : Str} {p : Pos} (hc : CallR X (.builtin id) r) (hl : L1 X r rd) (hg : Gl X x) (hm : X.mg x = none) (hv : bootBuiltins x = some (.builtin id)) (ha : D1 X e t)
    (hn : x ≠ "__name__" := by decide) (hdb : (x == ("__debug__" : Str)) = false := by decide) (he : starEach [e] X.env = (false, eval e X.env) :: starEach [] X.env := by rfl) (hpl : (backTo pos (starEach [] X.env)).any (·.1) = false := by rfl) :
    DE X (.Call (.Name x p) [e] [] pos) (td1 rd t) := by
  obtain ⟨te, hp, hq⟩ := ha.ex
  refine ⟨_, pe_callB hc hg hm hv hp hn hdb he hpl, fun C σ H ρ q Q E h k => hq C σ H ρ _ _ E h fun v H1 d ρ1 E1 s1 B h1 => ?_⟩
  exact hl C σ ρ1 H1 v d _ _ E1 B h1 fun v' H' d' l D z => k v' H' d' ρ1 (E1.le l) (s1.trans (.le l)) D z
theorem de_t1 {T : String} {r : List V → Hp → VK → Prop} {rd : PyData → (PyData → Prop) → Prop} {x : Str} {p : Pos} (hc : CallR X (.type T) r) (hl : L1 X r rd) (hg : Gl X x) (hm : X.mg x = none) (hv : bootBuiltins x = some (.type T)) (ha : D1 X e t)
    (hn : x ≠ "__name__" := by decide) (hdb : (x == ("__debug__" : Str)) = false := by decide) (he : starEach [e] X.env = (false, eval e X.env) :: starEach [] X.env := by rfl) (hpl : (backTo pos (starEach [] X.env)).any (·.1) = false := by rfl) :
    DE X (.Call (.Name x p) [e] [] pos) (td1 rd t) := by
  obtain ⟨te, hp, hq⟩ := ha.ex
  refine ⟨_, pe_callTy hc hg hm hv hp hn hdb he hpl, fun C σ H ρ q Q E h k => hq C σ H ρ _ _ E h fun v H1 d ρ1 E1 s1 B h1 => ?_⟩
  exact hl C σ ρ1 H1 v d _ _ E1 B h1 fun v' H' d' l D z => k v' H' d' ρ1 (E1.le l) (s1.trans (.le l)) D z
def rLen : PyData → (PyData → Prop) → Prop := fun d q => match d with
  | .list ds => q (.int ds.length)
  | .tuple ds => q (.int ds.length)
  | _ => False
theorem l1_len : L1 X (fun xs H Q => ∃ p ys, xs = [.ref p] ∧ (SqL X.K H p ys ∨ SqT X.K H p ys) ∧ Q (.int ys.length) H) rLen := by
  intro C σ ρ H v d qd Q E B w k
  cases d with
  | list ds =>
    obtain ⟨a, vs, rfl, s, D⟩ := B.list
    exact ⟨a, vs, rfl, .inl s, by rw [DpAll.length D]; exact k _ H _ .rfl (.int _) w⟩
  | tuple ds =>
    obtain ⟨a, vs, rfl, s, D⟩ := B.tup
    exact ⟨a, vs, rfl, .inr s, by rw [DpAll.length D]; exact k _ H _ .rfl (.int _) w⟩
  | _ => exact False.elim w
/-- ints of data -/
def intsOf : List PyData → Option (List Int)
  | [] => some []
  | .int i :: ds => (intsOf ds).map (i :: ·)
  | _ => none
theorem intsOf_map : ∀ ns : List Int, intsOf (ns.map PyData.int) = some ns
  | [] => rfl
  | n :: ns => by rw [List.map_cons]; unfold intsOf; rw [intsOf_map ns]; rfl
def rInts (f : List Int → (PyData → Prop) → Prop) : PyData → (PyData → Prop) → Prop := fun d q => match d with
  | .list ds => ∃ ns, ds = List.map PyData.int ns ∧ f ns q
  | _ => False
def rBools (f : List Bool → (PyData → Prop) → Prop) : PyData → (PyData → Prop) → Prop := fun d q => match d with
  | .list ds => ∃ ns, ds = List.map PyData.bool ns ∧ f ns q
  | _ => False
theorem l1_all : L1 X (rAll X.K) (rBools fun ns q => q (.bool (ns.all id))) := by
  intro C σ ρ H v d qd Q E B w k
  cases d with
  | list ds =>
    obtain ⟨a, vs, rfl, s, D⟩ := B.list
    obtain ⟨ns, rfl, w⟩ := w
    cases DpAll.bls D
    exact ⟨a, ns, rfl, s, k _ H _ .rfl (.bl _) w⟩
  | _ => exact False.elim w
/-- int(..) of an int, a bool -/
def rInt : PyData → (PyData → Prop) → Prop := fun d q => match d with
  | .int i => q (.int i)
  | .bool k => q (.int (if k then 1 else 0))
  | _ => False
theorem BV.int_of {K : PySem.W.Frag} {C : Ctx} {ρ : DEnv} {H : Hp} {v : V} {i : Int} (B : BV K C ρ H v (.int i)) : v = .int i := Dp.int_of (B.flat fun _ => nofun)
theorem BV.bl_of {K : PySem.W.Frag} {C : Ctx} {ρ : DEnv} {H : Hp} {v : V} {i : Bool} (B : BV K C ρ H v (.bool i)) : v = .bl i := Dp.bl_of (B.flat fun _ => nofun)
theorem l1_int : L1 X (fun xs H Q => (∃ i, xs = [.int i] ∧ Q (.int i) H) ∨ ∃ k, xs = [.bl k] ∧ Q (.int (if k then 1 else 0)) H) rInt := by
  intro C σ ρ H v d qd Q E B w k
  cases d with
  | int i => cases BV.int_of B; exact .inl ⟨i, rfl, k _ H _ .rfl (.int _) w⟩
  | bool i => cases BV.bl_of B; exact .inr ⟨i, rfl, k _ H _ .rfl (.int _) w⟩
  | _ => exact False.elim w
/-- tuple(..) of a list, a tuple -/
def rTuple : PyData → (PyData → Prop) → Prop := fun d q => match d with
  | .list ds => q (.tuple ds)
  | .tuple ds => q (.tuple ds)
  | _ => False
theorem DpAll.up {C : Ctx} {K : PySem.W.Frag} {ρ : DEnv} {H : Hp} {p : Addr} {o : HO} {vs : List V} {ds : List PyData} (hp : H p = none) (D : DpAll K (hide (hs C ρ) H) vs ds) : DpAll K (hide (hs C ρ) (upd H p o)) vs ds := DpAll.le (hide_le (.upd hp)) D
theorem l1_tuple : L1 X (fun xs H Q => ∃ p ys, xs = [.ref p] ∧ ((SqL X.K H p ys ∧ ∀ l, H l = none → Q (.ref l) (upd H l (.tup ys))) ∨ (SqT X.K H p ys ∧ Q (.ref p) H))) rTuple := by
  intro C σ ρ H v d qd Q E B w k
  cases d with
  | list ds =>
    obtain ⟨a, vs, rfl, s, D⟩ := B.list
    exact ⟨a, vs, rfl, .inl ⟨s, fun l hl => k _ _ _ (.upd hl) (.tup ((upd_vis E hl)) (DpAll.up hl D)) w⟩⟩
  | tuple ds =>
    have D := B.flat fun _ => nofun
    obtain ⟨a, vs, rfl, s, D'⟩ := Dp.tup_of D
    exact ⟨a, vs, rfl, .inr ⟨SqT.le hide_Le s, k _ H _ .rfl D w⟩⟩
  | _ => exact False.elim w
/-! ### new lists by a built-in: list(..), sorted(..) -/
def LF (X : Cx) (r : List V → Hp → VK → Prop) (rd : PyData → (List PyData → Prop) → Prop) : Prop :=
  ∀ C σ ρ H v d qd Q, EnvD C X.K H σ ρ → BV X.K C ρ H v d → rd d qd → (∀ p vs ds', H p = none → DpAll X.K (hide (hs C ρ) H) vs ds' → qd ds' → Q (.ref p) (upd H p (.lst vs))) → r [v] H Q
def tf1 (rd : PyData → (List PyData → Prop) → Prop) (t : TDE) : TDA := fun ρ q => t ρ fun d ρ1 => rd d fun z => q z ρ1
theorem df_t1 {T : String} {r : List V → Hp → VK → Prop} {rd : PyData → (List PyData → Prop) → Prop} {x : Str} {p : Pos} (hc : CallR X (.type T) r) (hl : LF X r rd) (hg : Gl X x) (hm : X.mg x = none) (hv : bootBuiltins x = some (.type T)) (ha : D1 X e t)
    (hn : x ≠ "__name__" := by decide) (hdb : (x == ("__debug__" : Str)) = false := by decide) (he : starEach [e] X.env = (false, eval e X.env) :: starEach [] X.env := by rfl) (hpl : (backTo pos (starEach [] X.env)).any (·.1) = false := by rfl) :
    DF X (.Call (.Name x p) [e] [] pos) (tf1 rd t) := by
  obtain ⟨te, hp, hq⟩ := ha.ex
  refine ⟨_, pe_callTy hc hg hm hv hp hn hdb he hpl, fun C σ H ρ q Q E h k => hq C σ H ρ _ _ E h fun v H1 d ρ1 E1 s1 B h1 => ?_⟩
  exact hl C σ ρ1 H1 v d _ _ E1 B h1 fun p vs ds hp D z => k p vs _ ds ρ1 (E1.with_fresh hp) (s1.trans (.le (.upd hp))) (s1.free hp) upd_same (DpAll.le (DpAll.with_fresh (K := X.K) hp) D) z
theorem df_b1 {id : String} {r : List V → Hp → VK → Prop} {rd : PyData → (List PyData → Prop) → Prop} {x : Str} {p : Pos} (hc : CallR X (.builtin id) r) (hl : LF X r rd) (hg : Gl X x) (hm : X.mg x = none) (hv : bootBuiltins x = some (.builtin id)) (ha : D1 X e t)
    (hn : x ≠ "__name__" := by decide) (hdb : (x == ("__debug__" : Str)) = false := by decide) (he : starEach [e] X.env = (false, eval e X.env) :: starEach [] X.env := by rfl) (hpl : (backTo pos (starEach [] X.env)).any (·.1) = false := by rfl) :
    DF X (.Call (.Name x p) [e] [] pos) (tf1 rd t) := by
  obtain ⟨te, hp, hq⟩ := ha.ex
  refine ⟨_, pe_callB hc hg hm hv hp hn hdb he hpl, fun C σ H ρ q Q E h k => hq C σ H ρ _ _ E h fun v H1 d ρ1 E1 s1 B h1 => ?_⟩
  exact hl C σ ρ1 H1 v d _ _ E1 B h1 fun p vs ds hp D z => k p vs _ ds ρ1 (E1.with_fresh hp) (s1.trans (.le (.upd hp))) (s1.free hp) upd_same (DpAll.le (DpAll.with_fresh (K := X.K) hp) D) z
def rList : PyData → (List PyData → Prop) → Prop := fun d q => match d with
  | .list ds => q ds
  | .tuple ds => q ds
  | _ => False
theorem lf_list : LF X (fun xs H Q => ∃ p ys, xs = [.ref p] ∧ (SqL X.K H p ys ∨ SqT X.K H p ys) ∧ ∀ l, H l = none → Q (.ref l) (upd H l (.lst ys))) rList := by
  intro C σ ρ H v d qd Q E B w k
  cases d with
  | list ds =>
    obtain ⟨a, vs, rfl, s, D⟩ := B.list
    exact ⟨a, vs, rfl, .inl s, fun l hl => k l vs ds hl D w⟩
  | tuple ds =>
    obtain ⟨a, vs, rfl, s, D⟩ := B.tup
    exact ⟨a, vs, rfl, .inr s, fun l hl => k l vs ds hl D w⟩
  | _ => exact False.elim w
theorem lf_sorted : LF X (rSortedI X.K) (fun d q => match d with
    | .list ds => ∃ ns, ds = List.map PyData.int ns ∧ ∀ ns' : List Int, ns'.Perm ns → ns'.Pairwise (· ≤ ·) → q (ns'.map PyData.int)
    | _ => False) := by
  intro C σ ρ H v d qd Q E B w k
  cases d with
  | list ds =>
    obtain ⟨a, vs, rfl, s, D⟩ := B.list
    obtain ⟨ns, rfl, w⟩ := w
    cases DpAll.ints D
    exact ⟨a, ns, rfl, s, fun ns' p h1 h2 hp => k p _ _ hp (DpAll.of_ints _) (w ns' h1 h2)⟩
  | _ => exact False.elim w
/-- list(range(..)) -/
theorem df_listRg1 {p p2 pos2 : Pos} (hc : X.calm = true) (hg : Gl X "list") (hm : X.mg "list" = none) (hg2 : Gl X "range") (hm2 : X.mg "range" = none) (ha : DE X a ta) (na : starEach [a] X.env = (false, eval a X.env) :: starEach [] X.env := by rfl)
    (na2 : starEach [(.Call (.Name "range" p2) [a] [] pos2)] X.env = (false, eval (.Call (.Name "range" p2) [a] [] pos2) X.env) :: starEach [] X.env := by rfl) :
    DF X (.Call (.Name "list" p) [.Call (.Name "range" p2) [a] [] pos2] [] pos) (fun ρ q => ta ρ fun d ρ1 => match d with
      | .int n => RgOk 0 n ∧ q (rangeD 0 n.toNat) ρ1
      | _ => False) := by
  obtain ⟨te, hp, hq⟩ := ha.ex
  refine ⟨_, pe_listRg hc hg hm (prg_1 hg2 hm2 hp na) na2, fun C σ H ρ q Q E h k => hq C σ H ρ _ _ E h fun v H1 d ρ1 E1 s1 D1 h1 => ?_⟩
  cases d with
  | int n =>
    cases D1
    refine ⟨n, rfl, h1.1, fun p hp => ?_⟩
    refine k p _ _ _ ρ1 (E1.with_fresh hp) (s1.trans (.le (.upd hp))) (s1.free hp) upd_same ?_ h1.2
    have e1 : rgV 0 n = ((List.range n.toNat).map fun (k : Nat) => (0 + (k : Int))).map V.int := by unfold rgV; rw [List.map_map]; simp [Function.comp_def]
    have e2 : rangeD 0 n.toNat = ((List.range n.toNat).map fun (k : Nat) => (0 + (k : Int))).map PyData.int := by unfold rangeD; rw [List.map_map]; rfl
    rw [e1, e2]
    exact DpAll.of_ints _
  | _ => exact h1.elim
/-! ### min, max of two -/
theorem de_min2 {p : Pos} {ts : TDA} (hc : X.calm = true) (hg : Gl X "min") (hm : X.mg "min" = none) (ha : DA X [a, b] ts) (he : starEach [a, b] X.env = (false, eval a X.env) :: starEach [b] X.env := by rfl) (hpl : (backTo pos (starEach [b] X.env)).any (·.1) = false := by rfl) :
    DE X (.Call (.Name "min" p) [a, b] [] pos) (fun ρ q => ts ρ fun ds ρ1 => match ds with
      | [.int i, .int j] => q (.int (if j < i then j else i)) ρ1
      | _ => False) := by
  obtain ⟨te, hp, hq⟩ := ha.ex
  refine ⟨_, pe_callB (call_min2 hc) hg hm (by decide +kernel) hp (by decide) (by decide) he hpl, fun C σ H ρ q Q E h k => hq C σ H ρ _ _ E h fun vs H1 ds ρ1 E1 s1 D1 h1 => ?_⟩
  match ds, h1, D1 with
  | [.int i, .int j], h1, D1 =>
    cases D1 with
    | cons d1 d2 => cases d1; cases d2 with
      | cons d3 d4 => cases d3; cases d4; exact ⟨i, j, rfl, k _ H1 _ ρ1 E1 s1 (.int _) h1⟩
theorem de_max2 {p : Pos} {ts : TDA} (hc : X.calm = true) (hg : Gl X "max") (hm : X.mg "max" = none) (ha : DA X [a, b] ts) (he : starEach [a, b] X.env = (false, eval a X.env) :: starEach [b] X.env := by rfl) (hpl : (backTo pos (starEach [b] X.env)).any (·.1) = false := by rfl) :
    DE X (.Call (.Name "max" p) [a, b] [] pos) (fun ρ q => ts ρ fun ds ρ1 => match ds with
      | [.int i, .int j] => q (.int (if j > i then j else i)) ρ1
      | _ => False) := by
  obtain ⟨te, hp, hq⟩ := ha.ex
  refine ⟨_, pe_callB (call_max2 hc) hg hm (by decide +kernel) hp (by decide) (by decide) he hpl, fun C σ H ρ q Q E h k => hq C σ H ρ _ _ E h fun vs H1 ds ρ1 E1 s1 D1 h1 => ?_⟩
  match ds, h1, D1 with
  | [.int i, .int j], h1, D1 =>
    cases D1 with
    | cons d1 d2 => cases d1; cases d2 with
      | cons d3 d4 => cases d3; cases d4; exact ⟨i, j, rfl, k _ H1 _ ρ1 E1 s1 (.int _) h1⟩
/-! ### isinstance -/
def tyD : PyData → String
  | .none => "NoneType"
  | .bool _ => "bool"
  | .int _ => "int"
  | .str _ => "str"
  | .list _ => "list"
  | .tuple _ => "tuple"
  | .dict _ => "dict"
/-- the type of what stands at a value: the library's word, or a dict with tuples as keys that is locked -/
def TyD (K : PySem.W.Frag) (H : Hp) (v : V) (t : Value) : Prop := TyX K H v t ∨ ∃ (a : Addr) (o : Obj) (kvs : List (List Key × V)), v = .ref a ∧ t = .type "dict" ∧ H a = some (.frz o (.dT kvs))
theorem TyD.kit {X : Cx} {pins : List (Addr × Obj)} {σ : L2.St} {H : Hp} {s : Shared} {x : V} {u t : Value} (I : Inv X pins σ H s) (rx : RelV x u) (ty : TyD X.K H x t) : ∃ P : Heap → Prop, PySem.W.KitX X.K u t P ∧ P s.heap ∧ u ≠ .builtin "__main__.__loader__#opaque" := by
  rcases ty with ty | ⟨a, o, kvs, rfl, rfl, e⟩
  · exact kit_of I rx ty
  · cases (show u = Value.ref a from rx)
    obtain ⟨_, hd, hx, _⟩ := I.frzT e
    exact ⟨_, PySem.W.kitx_dict, ⟨o, hd, hx.1⟩, nofun⟩
def rIsiD (K : PySem.W.Frag) : List V → Hp → VK → Prop := fun vs H Q => ∃ (x c : V) (t u : Value) (b : Bool), vs = [x, c] ∧ ClsV c u ∧ TyD K H x t ∧ PySem.W.kitOne K t u = some b ∧ Q (.bl b) H
def rIsiTD (K : PySem.W.Frag) : List V → Hp → VK → Prop := fun vs H Q => ∃ (x : V) (tp : Addr) (cs : List V) (t : Value) (us : List Value) (b : Bool), vs = [x, .ref tp] ∧ H tp = some (.tup cs) ∧ Paired ClsV cs us ∧ TyD K H x t ∧ PySem.W.kitAny K t us = some b ∧ Q (.bl b) H
theorem cr_isiD {X : Cx} : CallR X (.builtin "isinstance") (rIsiD X.K) := by
  intro pins s σ H vs ws Q I r h
  obtain ⟨x, c, t, u, b, rfl, kc, ty, ek, hq⟩ := h
  obtain ⟨u1, u2, rfl, r1, r2⟩ := vals2 r
  cases kc.eq r2
  obtain ⟨P, Z, p, hx⟩ := ty.kit I r1
  exact PySem.W.kia_one Z I.kIn p ek hx fun tk => ⟨.bl b, H, I.tok tk, rfl, hq⟩
theorem Dp.tyX {K : PySem.W.Frag} {H : Hp} {v : V} {d : PyData} (h : Dp K H v d) : TyD K H v (.type (tyD d)) := by
  cases h with
  | non => exact .inl (.base .non)
  | bl b => exact .inl (.base (.bl b))
  | int i => exact .inl (.base (.int i))
  | str x => exact .inl (.base (.str x))
  | lst s a =>
    rcases s with (s | ⟨o, s⟩) | ⟨o, its, n, h1, h2, _⟩
    · exact .inl (.base (.lst s))
    · exact .inl (.base (.frz s))
    · exact .inl (.kList h1 h2)
  | tup s a => exact .inl (.base (.tup s))
  | dicK s _ _ => exact .inl (.fDict s)
  | dicT s _ _ => exact .inr ⟨_, _, _, rfl, rfl, s⟩
theorem BV.tyX {K : PySem.W.Frag} {C : Ctx} {ρ : DEnv} {H : Hp} {v : V} {d : PyData} (B : BV K C ρ H v d) : TyD K H v (.type (tyD d)) := by
  rcases B with h | ⟨a, vs, ds, rfl, rfl, h, D, _⟩
  · exact Dp.tyX (Dp.le hide_Le h)
  · exact Dp.tyX (.lst (SqL.of h) (DpAll.le hide_Le D))
/-- is the data of the type T -/
def isS (s T : String) : Bool := (kitB s T).getD false
def isD (T : String) (d : PyData) : Bool := isS (tyD d) T
def tys : List String := ["NoneType", "bool", "int", "str", "list", "tuple", "dict"]
theorem tyD_mem (d : PyData) : tyD d ∈ tys := by cases d <;> simp [tyD, tys]
theorem isS_some : ∀ T ∈ ["int", "bool", "tuple", "list", "str"], ∀ s ∈ tys, kitB s T = some (isS s T) := by decide +kernel
theorem isD_some {T : String} (h : T ∈ ["int", "bool", "tuple", "list", "str"]) (d : PyData) : kitB (tyD d) T = some (isD T d) := isS_some T h _ (tyD_mem d)
theorem de_isi {x : Str} {T : String} {p p2 : Pos} (hT : T ∈ ["int", "bool", "tuple", "list", "str"]) (hg : Gl X "isinstance") (hm : X.mg "isinstance" = none) (hgT : Gl X x) (hmT : X.mg x = none) (hvT : bootBuiltins x = some (.type T)) (ha : DB X a ta)
    (hnT : x ≠ "__name__" := by decide) (hdT : (x == ("__debug__" : Str)) = false := by decide)
    (hs1 : starEach [a, .Name x p2] X.env = (false, eval a X.env) :: starEach [.Name x p2] X.env := by rfl) (hs2 : starEach [.Name x p2] X.env = (false, eval (.Name x p2) X.env) :: starEach [] X.env := by rfl)
    (hpl : (backTo pos (starEach [.Name x p2] X.env)).any (·.1) = false := by rfl) :
    DE X (.Call (.Name "isinstance" p) [a, .Name x p2] [] pos) (fun ρ q => ta ρ fun d ρ1 => q (.bool (isD T d)) ρ1) := by
  obtain ⟨te, hp, hq⟩ := ha.ex
  refine ⟨_, pe_callB cr_isiD hg hm (by decide +kernel) (pa_cons hp (pa_cons (pe_bltn (v := .ty T) hgT hmT hvT rfl hnT hdT) pa_nil hs2) hs1) (by decide) (by decide) hs1 hpl, fun C σ H ρ q Q E h k => hq C σ H ρ _ _ E h fun v H1 d ρ1 E1 s1 B h1 => ?_⟩
  exact ⟨v, .ty T, _, _, _, rfl, .ty T, B.tyX, kit_ty (isD_some hT d), k _ H1 _ ρ1 E1 s1 (.bl _) h1⟩
/-! ### subscripts -/
def rIxD : RD2 := fun x y q => match x, y with
  | .list ds, .int i => ∃ d, atI ds i = some d ∧ q d
  | .tuple ds, .int i => ∃ d, atI ds i = some d ∧ q d
  | _, _ => False
theorem atI_D {K : PySem.W.Frag} {H : Hp} {vs : List V} {ds : List PyData} {i : Int} {d : PyData} (D : DpAll K H vs ds) (h : atI ds i = some d) : ∃ v, atI vs i = some v ∧ Dp K H v d := by
  unfold atI at h ⊢
  rw [DpAll.length D]
  cases q : ixN ds.length i with
  | none => rw [q] at h; cases h
  | some j =>
    rw [q] at h
    exact DpAll.get D h
/-- a shared list or tuple at any index -/
theorem de_ix (ha : DE X a ta) (hb : DE X b tb) (hs' : PlainIx b) : DE X (.Subscript a b pos) (td2 rIxD ta tb) := by
  obtain ⟨pa, ha, qa⟩ := ha.ex
  obtain ⟨pb, hb, qb⟩ := hb.ex
  refine ⟨_, pe_ix ix_seq ha hb hs', fun C σ H ρ q Q E h k => ?_⟩
  refine qa C σ H ρ _ _ E h fun x H1 dx ρ1 E1 s1 B1 h1 => ?_
  refine qb C σ H1 ρ1 _ _ E1 h1 fun y H2 dy ρ2 E2 s2 D2 h2 => ?_
  cases dy with
  | int i =>
    cases D2
    cases dx with
    | list ds =>
      obtain ⟨d, hd, h2⟩ := h2
      obtain ⟨a, vs, rfl, s, D⟩ := Dp.list_of (BV.step B1 s2)
      obtain ⟨v, hv, Dv⟩ := atI_D D hd
      exact .inl ⟨a, vs, i, v, rfl, rfl, SqL.le hide_Le s, hv, k v H2 d ρ2 E2 (s1.trans s2) Dv h2⟩
    | tuple ds =>
      obtain ⟨d, hd, h2⟩ := h2
      obtain ⟨a, vs, rfl, s, D⟩ := Dp.tup_of (BV.step B1 s2)
      obtain ⟨v, hv, Dv⟩ := atI_D D hd
      exact .inr (.inl ⟨a, vs, i, v, rfl, rfl, SqT.le hide_Le s, hv, k v H2 d ρ2 E2 (s1.trans s2) Dv h2⟩)
    | _ => exact h2.elim
  | _ => cases dx <;> exact h2.elim
/-- a list that may be one's own, at an index whose reading changes nothing -/
def tdIxB (ta tb : TDE) : TDE := fun ρ q => ta ρ fun x ρ1 => tb ρ1 fun y ρ2 => ρ2 = ρ1 ∧ rIxD x y fun z => q z ρ2
theorem de_ixB (ha : DB X a ta) (hb : DE X b tb) (hs' : PlainIx b) : DE X (.Subscript a b pos) (tdIxB ta tb) := by
  obtain ⟨pa, ha, qa⟩ := ha.ex
  obtain ⟨pb, hb, qb⟩ := hb.ex
  refine ⟨_, pe_ix ix_seq ha hb hs', fun C σ H ρ q Q E h k => ?_⟩
  refine qa C σ H ρ _ _ E h fun x H1 dx ρ1 E1 s1 B1 h1 => ?_
  refine qb C σ H1 ρ1 _ _ E1 h1 fun y H2 dy ρ2 E2 s2 D2 h2 => ?_
  obtain ⟨er, h2⟩ := h2
  subst er
  cases dy with
  | int i =>
    cases D2
    cases dx with
    | list ds =>
      obtain ⟨d, hd, h2⟩ := h2
      rcases B1 with B1 | ⟨a0, vs, ds', rfl, e2, e3, e4, j, e5⟩
      · obtain ⟨a, vs, rfl, s, D⟩ := Dp.list_of (BV.step B1 s2)
        obtain ⟨v, hv, Dv⟩ := atI_D D hd
        exact .inl ⟨a, vs, i, v, rfl, rfl, SqL.le hide_Le s, hv, k v H2 d ρ2 E2 (s1.trans s2) Dv h2⟩
      · cases e2
        obtain ⟨_, ws, e6, e7⟩ := E2.own_at e5
        obtain ⟨v, hv, Dv⟩ := atI_D e7 hd
        exact .inl ⟨a0, ws, i, v, rfl, rfl, SqL.of e6, hv, k v H2 d ρ2 E2 (s1.trans s2) Dv h2⟩
    | tuple ds =>
      obtain ⟨d, hd, h2⟩ := h2
      obtain ⟨a, vs, rfl, s, D⟩ := Dp.tup_of (BV.step (B1.flat fun _ => nofun) s2)
      obtain ⟨v, hv, Dv⟩ := atI_D D hd
      exact .inr (.inl ⟨a, vs, i, v, rfl, rfl, SqT.le hide_Le s, hv, k v H2 d ρ2 E2 (s1.trans s2) Dv h2⟩)
    | _ => exact h2.elim
  | _ => cases dx <;> exact h2.elim
end
end DL
/-! DL: enumerate of tuples. -/
namespace PySem
open Sem (wp)
open AutoSeq1 (wpAny_loadPart')
theorem dl_meets_enumerate_newT (l : Addr) (items : Array Value) (n : Nat) (dct : Option Addr) (sl : Array (Option Value)) :
    Meets (Builtin.«enumerate.__new__» ⟨[.type "enumerate", .ref l], []⟩) (fun _ R s => s.heap.get? l = some { cls := .type "tuple", dict := dct, data := .seq items n, slots := sl } ∧
      R (.ok (.ret (.ref (s.heap.push { cls := .type "tuple_iterator", data := .fields #[.ref l, .int 0 0] }).objs.size)))
        { s with heap := (s.heap.push { cls := .type "tuple_iterator", data := .fields #[.ref l, .int 0 0] }).push { cls := .type "enumerate", data := .fields #[.none, .bool false, .ref s.heap.objs.size, rawInt 0, .none, .none] } }) :=
  .of_wp fun prog w A R s h => by
    obtain ⟨hp, g, d, tk, os⟩ := s; obtain ⟨hl, h⟩ := h
    have hsub := sub_enumerate
    have hL : Heap.IsTuple (Shared.heap ⟨hp, g, d, tk, os⟩) l items := ⟨_, hl, rfl, n, rfl⟩
    wp_walk using wpAny_loadPart' hl
    refine wpAny_stack_any fun st => wpAny_pure ?_
    split
    · rename_i c _ _ _ _ _
      cases (c == Value.type "enumerate")
      · wp_walk using wpAny_loadPart' hl, wpAny_pyIter_tuple hL
        exact ⟨_, rfl, h⟩
      · wp_walk using wpAny_loadPart' hl, wpAny_pyIter_tuple hL
        exact ⟨_, rfl, h⟩
    · wp_walk using wpAny_loadPart' hl, wpAny_pyIter_tuple hL
      exact ⟨_, rfl, h⟩
section
variable {prog : Program} {w : World} {A : Around} {E : Value → Shared → Prop} {s : Shared}
theorem dl_call_enumerate_tuple {l : Addr} {items : Array Value} {Q : Value → Shared → Prop} (hL : s.heap.IsTuple l items)
    (h : ∀ h', IsEnum h' (s.heap.objs.size + 1) s.heap.objs.size 0 .none → h'.IsTupleIter s.heap.objs.size l 0 → h'.objs.size = s.heap.objs.size + 2 →
      (∀ b o, s.heap.get? b = some o → h'.get? b = some o) → Q (.ref (s.heap.objs.size + 1)) { s with heap := h' }) :
    wpAny (model prog w) A (call (.type "enumerate") [.ref l]) Q E s := by
  obtain ⟨⟨c, dct, dt, sl⟩, hl, hc, n, hd⟩ := hL
  replace hc : c = .type "tuple" := hc
  replace hd : dt = .seq items n := hd
  subst hc hd
  refine callType_new F.called_enumerate (by decide) (F.typeCall_enumerate_1 _) (F.newCall_enumerate_1 _) (fun obj => F.args_object_init_2 obj _) F.entry_enumerate_new
    (dl_meets_enumerate_newT l items n dct sl) ⟨hl, ?_⟩
  have hz : (s.heap.push { cls := .type "tuple_iterator", data := .fields #[.ref l, .int 0 0] }).objs.size = s.heap.objs.size + 1 := Heap.size_push ..
  show _ ∧ _
  rw [hz]
  have he : IsEnum ((s.heap.push { cls := .type "tuple_iterator", data := .fields #[.ref l, .int 0 0] }).push
      { cls := .type "enumerate", data := .fields #[.none, .bool false, .ref s.heap.objs.size, rawInt 0, .none, .none] }) (s.heap.objs.size + 1) s.heap.objs.size 0 .none := by
    have := Heap.get?_push_size (s.heap.push { cls := .type "tuple_iterator", data := .fields #[.ref l, .int 0 0] })
      (o := { cls := .type "enumerate", data := .fields #[.none, .bool false, .ref s.heap.objs.size, rawInt 0, .none, .none] }) rfl
    rw [hz] at this; exact this
  refine ⟨⟨_, he, rfl⟩, h _ he ⟨_, Heap.get?_push_of_some _ (Heap.get?_push_size _ rfl), rfl, rfl⟩ (by rw [Heap.size_push, hz]) fun b o x => Heap.get?_push_of_some _ (Heap.get?_push_of_some _ x)⟩
end
end PySem
namespace DL
open PySem PySem.Spec PyProof.Rows L2
theorem isTup_isTuple {h : Heap} {a : Addr} {items : Array Value} (x : IsTup h a items) : h.IsTuple a items := by
  obtain ⟨o, e, c, n, d⟩ := x
  exact ⟨o, e, c, n, d⟩
def IteT (K : PySem.W.Frag) (a : Addr) : It :=
  ⟨fun i H => ∃ (xs : List V) (x : V), SqT K H a xs ∧ xs[i]? = some x, fun i H v H' => ∃ T x, v = .ref T ∧ H T = none ∧ H' = upd H T (.tup [.int (i : Nat), x]) ∧ ∀ xs, SqT K H a xs → xs[i]? = some x, fun i H => ∃ xs : List V, SqT K H a xs ∧ xs.length ≤ i⟩
theorem turn_enumT {P : Program} {w : World} {K : PySem.W.Frag} {elts : List Expr} {kk : Nat} {tpos : Pos} (a e it : Addr) (hai : a ≠ it) (hae : a ≠ e) :
    Turn P w K (.Tuple elts kk tpos) (IteT K a) [e, it] e (fun i h => (∃ old, IsEnum h e it ((i : Nat) : Int) old) ∧ h.IsTupleIter it a i ∧ e ≠ it) where
  mem := by simp
  obj := fun i h st b hb => by
    obtain ⟨⟨old, he⟩, ⟨o, ho, hc, hd⟩, _⟩ := st
    have e' : b = e ∨ b = it := by simpa using hb
    rcases e' with z | z
    · rw [z]; exact ⟨_, he, fun v q => nomatch q⟩
    · rw [z]; exact ⟨o, ho, fun v q => by rw [hd] at q; cases q⟩
  keep := fun i h h' st k => let ⟨⟨old, he⟩, ⟨o, ho, r⟩, hne⟩ := st; ⟨⟨old, k e (by simp) _ he⟩, ⟨o, k it (by simp) o ho, r⟩, hne⟩
  item := by
    intro X hP hw hK hc i pins s σ H E I hf st hg
    subst hP hw hK
    obtain ⟨⟨old, he⟩, hit, hne⟩ := st
    obtain ⟨xs, x, hq, hx⟩ := hg
    obtain ⟨its, rv, p, hz⟩ := I.tuple hq
    have pT := isTup_isTuple p
    obtain ⟨u, hu, ru⟩ := rv.get hx
    have hel : e < s.heap.objs.size := Heap.lt_size he
    have hil : it < s.heap.objs.size := by obtain ⟨_, q, _⟩ := hit; exact Heap.lt_size q
    have hul : i < its.toArray.size := by rw [List.size_toArray]; exact (List.getElem?_eq_some_iff.mp hu).1
    refine wpAny_pyNext_enum_itemD (Draws.tuple (A := X.A.in1) (I.ok.hd hc) it a hai its.toArray) he ⟨hit, pT⟩ hul hne (by simp [hne, hae.symm]) fun x' h' tk hP ho hst hT hsz hk => ?_
    obtain ⟨hit', _⟩ := hst
    have ex : x' = u := by
      have h1 : its.toArray[i]? = some x' := hP
      rw [List.getElem?_toArray, hu] at h1
      exact (Option.some.inj h1).symm
    subst ex
    refine ⟨_, rfl, wpAny_letOwnedTupleGo_enum (s := { s with heap := h', toks := tk + 1 }) ho fun h'' he' sb => ?_⟩
    have hT2 : h''.get? s.heap.objs.size = some { cls := .type "tuple", data := .seq #[.int i tk, x'] } := (sb.2 _ (Nat.ne_of_gt hel)).trans hT
    have new : ObjOk X.prog X.w (upd H s.heap.objs.size (.tup [.int (i : Nat), x])) h'' s.heap.objs.size (.tup [.int (i : Nat), x]) :=
      ⟨by show 2 ≤ sizeLine; decide, [.int i tk, x'], .cons ⟨_, rfl⟩ (.cons ru .nil), ⟨_, hT2, rfl, _, rfl⟩⟩
    have I1 : Inv X pins σ (upd H s.heap.objs.size (.tup [.int (i : Nat), x])) { s with heap := h'', toks := tk + 1 } :=
      I.turnedNew (ch := [e, it]) (fun b ob hb q => (sb.2 b (fun z => hb (by simp [z]))).trans (hk b ob (fun z => hb (by simp [z])) (fun z => hb (by simp [z])) q)) hf (Nat.le_refl _) new
    refine ⟨.ref s.heap.objs.size, _, I1, rfl, ⟨_, x, rfl, I.hok.fresh (Nat.le_refl _), rfl, fun ys hy => by rw [I.tuple_inj hy hq]; exact hx⟩, ⟨⟨x', ?_⟩, ?_, hne⟩, fun b hb => ?_⟩
    · have e1 : ((i + 1 : Nat) : Int) = (i : Int) + 1 := by omega
      rw [e1]; exact he'
    · obtain ⟨o, ho2, r⟩ := hit'
      exact ⟨o, (sb.2 it (Ne.symm hne)).trans ho2, r⟩
    · have hb' : b < s.heap.objs.size := by
        have e' : b = e ∨ b = it := by simpa using hb
        rcases e' with z | z
        · rw [z]; exact hel
        · rw [z]; exact hil
      rw [upd_ne (Nat.ne_of_lt hb')]
      exact (hf b hb).1
  done := by
    intro X hP hw hK hc i pins s σ H E I hf st hg
    subst hP hw hK
    obtain ⟨⟨old, he⟩, hit, hne⟩ := st
    obtain ⟨xs, hq, hx⟩ := hg
    obtain ⟨its, rv, p, hz⟩ := I.tuple hq
    obtain ⟨f0, f1, f2, f3, f4, f5⟩ := hf it (by simp)
    have hl := rv.length
    unfold pyNext
    have hT : s.TypeIs (.ref e) "enumerate" := ⟨_, he, rfl⟩
    refine wpAny_bind (wpAny_attempt (wpAny_callSpecial?_slot (name := Str.ofString "__next__") hT F.slot_enumerate_next
      (wpAny_call_entry F.slot_enumerate_next hT F.entry_enumerate_next ?_ (F.args_enumerate_next_1 _))))
    show wpAny _ _ (field (.ref e) 2 >>= _) _ _ _
    refine wpAny_bind (wpAny_field he rfl (x := .ref it) rfl ?_)
    refine wpAny_bind (wpAny_nextOf_tuple_end (A := X.A.in1) (I.ok.hd hc) hit (isTup_isTuple p) (by simp; omega) fun h' x he' hx' => ?_)
    obtain ⟨o, ho, hcx⟩ := hx'
    refine wpAny_bind (wpAny_isInstance (T := "StopIteration") (b := true) ⟨o, ho, hcx⟩ isSubtype_stop ?_)
    exact wpAny_pure ⟨rfl, I.turned (t' := s.toks) (fun b o hb q => he' b o hb q) f0 f1 f3 f4 f5⟩
  self := fun A i s Q E st h => let ⟨⟨_, he⟩, _⟩ := st; wpAny_pyIter_enum he h
def iEnumT (K : PySem.W.Frag) (ta : TA) : TI := fun σ H R => ta σ H fun vs H1 => ∃ a xs, vs = [.ref a] ∧ SqT K H1 a xs ∧ R (IteT K a) H1
theorem pi_enumT {X : Cx} {e : Expr} {ta : TA} {p pos tpos : Pos} {elts : List Expr} {kk : Nat} (hg : Gl X "enumerate") (hm : X.mg "enumerate" = none) (ha : PA X [e] ta) (hs : starEach [e] X.env = [(false, eval e X.env)] := by rfl) :
    PI X (.Tuple elts kk tpos) (.Call (.Name "enumerate" p) [e] [] pos) (iEnumT X.K ta) := by
  refine ⟨fun pins s σ H R I h => ?_⟩
  refine Call_ (ld_blt I hg hm boot_enumerate (PyProof.Rows.callWith_type1 (thn (ha.run pos pins s σ H _ I h) fun us s1 ⟨vs, H1, I1, r1, q1⟩ => ?_) hs rfl))
  obtain ⟨a, xs, ex, hq, q⟩ := q1
  subst ex
  cases r1 with
  | cons r rr =>
    cases rr
    cases r
    obtain ⟨its, rv, p', hz⟩ := I1.tuple hq
    have pT := isTup_isTuple p'
    have hal : a < s1.heap.objs.size := by obtain ⟨_, z, _⟩ := pT; exact Heap.lt_size z
    refine dl_call_enumerate_tuple pT fun h' he hit hsz hk => wpAny_pyIter_enum he ?_
    have I2 : Inv X pins σ H1 { s1 with heap := h' } := I1.kept (t' := s1.toks) hk
    refine ⟨s1.heap.objs.size + 1, [s1.heap.objs.size + 1, s1.heap.objs.size], _, _, H1, rfl, I2, turn_enumT a (s1.heap.objs.size + 1) s1.heap.objs.size (Nat.ne_of_lt hal) (Nat.ne_of_lt (Nat.lt_succ_of_lt hal)), ⟨⟨.none, he⟩, hit, Nat.succ_ne_self _⟩, fun b hb => ?_, q⟩
    have e' : b = s1.heap.objs.size + 1 ∨ b = s1.heap.objs.size := by simpa using hb
    have hle : s1.heap.objs.size ≤ b := by
      rcases e' with z | z
      · rw [z]; exact Nat.le_add_right _ _
      · rw [z]; exact Nat.le_refl _
    exact I1.fpOk hle (I1.hok.fresh hle)
section
variable {X : Cx} {e a b c tg iter : Expr} {es : List Expr} {pos : Pos} {t ta tb tc : TDE}
/-- enumerate(..) of data: pairs -/
def enumD (ds : List PyData) : List PyData := (List.range ds.length).map fun (i : Nat) => PyData.tuple [.int (i : Int), ds.getD i .none]
theorem enumD_len (ds : List PyData) : (enumD ds).length = ds.length := by simp [enumD]
theorem enumD_get {ds : List PyData} {i : Nat} {d : PyData} (h : ds[i]? = some d) : (enumD ds)[i]? = some (.tuple [.int (i : Int), d]) := by
  have hi : i < ds.length := (List.getElem?_eq_some_iff.mp h).1
  have hg : ds.getD i .none = d := by rw [List.getD_eq_getElem?_getD, h]; rfl
  unfold enumD
  rw [List.getElem?_map, List.getElem?_range hi]
  show some (PyData.tuple [.int (i : Int), ds.getD i .none]) = _
  rw [hg]
theorem di_enumT {p tpos : Pos} {elts : List Expr} {kk : Nat} (hg : Gl X "enumerate") (hm : X.mg "enumerate" = none) (ha : DE X e t) (hs' : starEach [e] X.env = (false, eval e X.env) :: starEach [] X.env := by rfl) :
    DI X (.Tuple elts kk tpos) (.Call (.Name "enumerate" p) [e] [] pos) (fun ρ q => t ρ fun d ρ1 => match d with
      | .tuple ds => q (enumD ds) ρ1
      | _ => False) := by
  obtain ⟨te, hp, hq⟩ := ha.ex
  refine ⟨_, pi_enumT hg hm (pa_cons hp pa_nil hs') hs', fun C σ H ρ q R E w k => hq C σ H ρ _ _ E w fun v H1 d ρ1 E1 s1 D1 h1 => ?_⟩
  cases d with
  | tuple ds =>
    obtain ⟨a, vs, rfl, sq, D⟩ := Dp.tup_of D1
    refine ⟨a, vs, rfl, SqT.le hide_Le sq, k _ H1 (enumD ds) ρ1 E1 s1 (fun i H' ke => ⟨fun hi => ?_, fun hi => ?_⟩) h1⟩
    · rw [enumD_len] at hi
      have s' := SqT.stay ke sq
      have hv : i < vs.length := by rw [DpAll.length D]; exact hi
      refine ⟨⟨vs, vs[i], s', by simp [hv]⟩, fun x H'' y => ?_⟩
      obtain ⟨T, x', rfl, hT, rfl, y⟩ := y
      refine ⟨.upd hT, fun as ha => ?_⟩
      obtain ⟨d, h1, h2⟩ := DpAll.getV D (y vs s')
      have nT : T ∉ as := fun z => by obtain ⟨o, e⟩ := (ha T z).1; rw [hT] at e; cases e.1
      exact ⟨_, enumD_get h1, .tup ((by rw [hide_out nT, upd_same])) (.cons (.int _) (.cons (Dp.le (vis_as ke (.upd hT) ha) h2) .nil))⟩
    · rw [enumD_len] at hi
      exact ⟨vs, SqT.stay ke sq, by rw [DpAll.length D]; exact hi⟩
  | _ => exact h1.elim
theorem di_enumL {p tpos : Pos} {elts : List Expr} {kk : Nat} (hg : Gl X "enumerate") (hm : X.mg "enumerate" = none) (ha : DE X e t) (hs' : starEach [e] X.env = (false, eval e X.env) :: starEach [] X.env := by rfl) :
    DI X (.Tuple elts kk tpos) (.Call (.Name "enumerate" p) [e] [] pos) (fun ρ q => t ρ fun d ρ1 => match d with
      | .list ds => q (enumD ds) ρ1
      | _ => False) := by
  obtain ⟨te, hp, hq⟩ := ha.ex
  refine ⟨_, pi_enum hg hm (pa_cons hp pa_nil hs') hs', fun C σ H ρ q R E w k => hq C σ H ρ _ _ E w fun v H1 d ρ1 E1 s1 D1 h1 => ?_⟩
  cases d with
  | list ds =>
    obtain ⟨a, vs, rfl, sq, D⟩ := Dp.list_of D1
    refine ⟨a, vs, rfl, SqL.le hide_Le sq, k _ H1 (enumD ds) ρ1 E1 s1 (fun i H' ke => ⟨fun hi => ?_, fun hi => ?_⟩) h1⟩
    · rw [enumD_len] at hi
      have s' := SqL.stay ke sq
      have hv : i < vs.length := by rw [DpAll.length D]; exact hi
      refine ⟨⟨vs, vs[i], s', by simp [hv]⟩, fun x H'' y => ?_⟩
      obtain ⟨T, x', rfl, hT, rfl, y⟩ := y
      refine ⟨.upd hT, fun as ha => ?_⟩
      obtain ⟨d, h1, h2⟩ := DpAll.getV D (y vs s')
      have nT : T ∉ as := fun z => by obtain ⟨o, e⟩ := (ha T z).1; rw [hT] at e; cases e.1
      exact ⟨_, enumD_get h1, .tup ((by rw [hide_out nT, upd_same])) (.cons (.int _) (.cons (Dp.le (vis_as ke (.upd hT) ha) h2) .nil))⟩
    · rw [enumD_len] at hi
      exact ⟨vs, SqL.stay ke sq, by rw [DpAll.length D]; exact hi⟩
  | _ => exact h1.elim
end
end DL
/-! DL: the rest: lists made, in, truth, items changed, the row of draws. -/
namespace DL
open PySem PySem.Spec PyProof.Rows L2
section
variable {X : Cx} {e a b c tg iter : Expr} {es : List Expr} {pos : Pos} {t ta tb tc : TDE}
/-- [..] * n -/
def tdRep (ta : TDA) (tb : TDE) : TDA := fun ρ q => ta ρ fun ds ρ1 => tb ρ1 fun y ρ2 => match y with
  | .int k => (-(2 ^ 63) ≤ k ∧ k < 2 ^ 63 ∧ ds.length * k.toNat ≤ sizeLine) ∧ q (List.replicate k.toNat ds).flatten ρ2
  | _ => False
theorem DpAll.rep {K : PySem.W.Frag} {H : Hp} {vs : List V} {ds : List PyData} (h : DpAll K H vs ds) : ∀ k : Nat, DpAll K H (List.replicate k vs).flatten (List.replicate k ds).flatten
  | 0 => .nil
  | k + 1 => by rw [List.replicate_succ, List.replicate_succ, List.flatten_cons, List.flatten_cons]; exact DpAll.append h (DpAll.rep h k)
theorem df_rep {ta : TDA} (ha : DF X a ta) (hb : DE X b tb) : DF X (.BinOp a .Mult b pos) (tdRep ta tb) := by
  obtain ⟨pa, ha, qa⟩ := ha.ex
  obtain ⟨pb, hb, qb⟩ := hb.ex
  refine ⟨_, pe_op op_rep ha hb, fun C σ H ρ q Q E h k => ?_⟩
  refine qa C σ H ρ _ _ E h fun l vs H1 ds ρ1 E1 s1 hn hl D1 h1 => ?_
  refine qb (C.with l) σ H1 ρ1 _ _ E1 h1 fun y H2 dy ρ2 E2 s2 D2 h2 => ?_
  cases dy with
  | int n =>
    cases D2
    have hl2 : H2 l = some (.lst vs) := s2.keep l _ (fun z => by
      rcases List.mem_append.mp z with z | z
      · exact E1.dr l z List.mem_cons_self
      · exact (E1.dj l z).1 List.mem_cons_self) hl
    have D3 := DpAll.le s2.vis D1
    have hc : l ∉ C.ex := fun z => by obtain ⟨o, e, _⟩ := E.exd l z; rw [hn] at e; cases e
    refine ⟨l, n, vs, rfl, rfl, hl2, h2.1.1, h2.1.2.1, by rw [DpAll.length D3]; exact h2.1.2.2, fun p hp => ?_⟩
    have E3 := E2.unwith
    refine k p _ _ _ ρ2 (E3.with_fresh hp) (s1.trans ⟨fun b o n z => Le.upd hp b o (s2.keep b o n z), fun b o z => ?_, s2.new⟩) ?_ upd_same (DpAll.le (DpAll.with_fresh (K := X.K) (C := C) (ρ := ρ2) hp) (DpAll.rep (DpAll.le (hide_sub fun b z => List.mem_cons_of_mem _ z) D3) _)) h2.2
    · obtain ⟨o', z'⟩ := s2.dom b o z
      exact ⟨o', Le.upd hp _ _ z'⟩
    · have : H1 p = none := Step.free s2 hp
      exact s1.free this
  | _ => exact h2.elim
/-- xs + ys of two new lists (displays, slices, ..) -/
def tdCat (ta tb : TDA) : TDA := fun ρ q => ta ρ fun ds ρ1 => tb ρ1 fun es ρ2 => ds.length + es.length ≤ sizeLine ∧ q (ds ++ es) ρ2
theorem df_cat {ta tb : TDA} (ha : DF X a ta) (hb : DF X b tb) : DF X (.BinOp a .Add b pos) (tdCat ta tb) := by
  obtain ⟨pa, ha, qa⟩ := ha.ex
  obtain ⟨pb, hb, qb⟩ := hb.ex
  refine ⟨_, pe_op op_cat ha hb, fun C σ H ρ q Q E h k => ?_⟩
  refine qa C σ H ρ _ _ E h fun l vs H1 ds ρ1 E1 s1 hn hl D1 h1 => ?_
  refine qb (C.with l) σ H1 ρ1 _ _ E1 h1 fun m ws H2 es ρ2 E2 s2 hm hm2 D2 h2 => ?_
  have hl2 : H2 l = some (.lst vs) := s2.keep l _ (fun z => by
    rcases List.mem_append.mp z with z | z
    · exact E1.dr l z List.mem_cons_self
    · exact (E1.dj l z).1 List.mem_cons_self) hl
  have D3 := DpAll.le s2.vis D1
  refine ⟨l, m, vs, ws, rfl, rfl, hl2, hm2, by rw [DpAll.length D3, DpAll.length D2]; exact h2.1, fun p hp => ?_⟩
  have E3 := E2.unwith.unwith
  have DD := DpAll.append (DpAll.le (hide_sub (as := hs (C.with l) ρ2) (bs := hs C ρ2) fun b z => List.mem_cons_of_mem _ z) D3) (DpAll.le (hide_sub (as := hs ((C.with l).with m) ρ2) (bs := hs C ρ2) fun b z => List.mem_cons_of_mem _ (List.mem_cons_of_mem _ z)) D2)
  refine k p _ _ _ ρ2 (E3.with_fresh hp) (s1.trans ⟨fun b o n z => Le.upd hp b o (s2.keep b o n z), fun b o z => ?_, s2.new⟩) ?_ upd_same (DpAll.le (DpAll.with_fresh (K := X.K) (C := C) (ρ := ρ2) hp) DD) h2.2
  · obtain ⟨o', z'⟩ := s2.dom b o z
    exact ⟨o', Le.upd hp _ _ z'⟩
  · have : H1 p = none := Step.free s2 hp
    exact s1.free this
/-- parts of slices -/
structure DO (X : Cx) (e : Option Expr) (t : DEnv → (Option Int → Prop) → Prop) : Prop where
  ex : ∃ te, PO X e te ∧ ∀ C σ H ρ q Q, EnvD C X.K H σ ρ → t ρ q → (∀ o H', EnvD C X.K H' σ ρ → Step C ρ H ρ H' → q o → Q o H') → te σ H Q
theorem do_none : DO X none (fun _ q => q none) := ⟨_, po_none, fun C σ H ρ q Q E h k => k none H E .rfl h⟩
theorem do_some (h : DE X e t) : DO X (some e) (fun ρ q => t ρ fun d ρ1 => ρ1 = ρ ∧ match d with | .int i => q (some i) | _ => False) := by
  obtain ⟨te, hp, hq⟩ := h.ex
  refine ⟨_, po_some hp, fun C σ H ρ q Q E h k => hq C σ H ρ _ _ E h fun v H1 d ρ1 E1 s1 D1 h1 => ?_⟩
  obtain ⟨rfl, h1⟩ := h1
  cases d with
  | int i => cases D1; exact ⟨i, rfl, k (some i) H1 E1 s1 h1⟩
  | _ => exact h1.elim
def cutD (ds : List PyData) (lo hi : Option Int) : List PyData := (ds.drop (HT.sIx ds.length 0 lo)).take (HT.sIx ds.length ds.length hi - HT.sIx ds.length 0 lo)
theorem DpAll.cut {K : PySem.W.Frag} {H : Hp} {vs : List V} {ds : List PyData} (h : DpAll K H vs ds) (lo hi : Option Int) : DpAll K H (cutV vs lo hi) (cutD ds lo hi) := by
  unfold cutV cutD
  rw [DpAll.length h]
  exact DpAll.take _ (DpAll.drop _ h)
/-- xs[lo:hi] of a list (lent): a new list -/
theorem df_slice {lo hi : Option Expr} {p2 : Pos} {tl th : DEnv → (Option Int → Prop) → Prop} (ha : DB X a ta) (hl : DO X lo tl) (hh : DO X hi th) : DF X (.Subscript a (.Slice lo hi none p2) pos) (fun ρ q => ta ρ fun d ρ1 => tl ρ1 fun l => th ρ1 fun u => match d with
    | .list ds => q (cutD ds l u) ρ1
    | _ => False) := by
  obtain ⟨pa, ha, qa⟩ := ha.ex
  obtain ⟨pl, hl, ql⟩ := hl.ex
  obtain ⟨ph, hh, qh⟩ := hh.ex
  refine ⟨_, pe_slice sl_list ha hl hh, fun C σ H ρ q Q E h k => ?_⟩
  refine qa C σ H ρ _ _ E h fun x H1 d ρ1 E1 s1 B1 h1 => ?_
  refine ql C σ H1 ρ1 _ _ E1 h1 fun l H2 E2 s2 h2 => ?_
  refine qh C σ H2 ρ1 _ _ E2 h2 fun u H3 E3 s3 h3 => ?_
  cases d with
  | list ds =>
    have : ∃ a0 vs, x = .ref a0 ∧ SqL X.K H3 a0 vs ∧ DpAll X.K (hide (hs C ρ1) H3) vs ds := by
      rcases B1 with B1 | ⟨a0, vs, ds', rfl, e2, e3, e4, j, e5⟩
      · obtain ⟨a, vs, rfl, s, D⟩ := Dp.list_of (Dp.le (s2.trans s3).vis B1)
        exact ⟨a, vs, rfl, SqL.le hide_Le s, D⟩
      · cases e2
        obtain ⟨_, ws, e6, e7⟩ := E3.own_at e5
        exact ⟨a0, ws, rfl, SqL.of e6, e7⟩
    obtain ⟨a0, vs, rfl, sq, D⟩ := this
    exact ⟨a0, vs, rfl, sq, fun p hp => k p _ _ _ ρ1 (E3.with_fresh hp) ((s1.trans (s2.trans s3)).trans (.le (.upd hp))) ((s1.trans (s2.trans s3)).free hp) upd_same (DpAll.le (DpAll.with_fresh (K := X.K) hp) (DpAll.cut D l u)) h3⟩
  | _ => exact h3.elim
/-- x in [..] of ints -/
theorem l_in : LOp X (compareOp .In) (fun x y q => match x, y with
    | .int i, .list ds => ∃ ns, ds = List.map PyData.int ns ∧ q (.bool (ns.contains i))
    | .int i, .tuple ds => ∃ ns, ds = List.map PyData.int ns ∧ q (.bool (ns.contains i))
    | _, _ => False) := by
  have key : ∀ (i : Int) (ns : List Int), inV (.int i) (ns.map V.int) = ns.contains i := fun i ns => by
    unfold inV
    rw [List.any_map, List.contains_eq_any_beq]
    congr 1
    funext j
    show (j == i) = (i == j)
    exact Bool.eq_iff_iff.mpr ⟨fun h => by simpa using (by simpa using h : j = i).symm, fun h => by simpa using (by simpa using h : i = j).symm⟩
  have fl : ∀ ns : List Int, (ns.map V.int).all flatV = true := fun ns => by rw [List.all_map]; exact List.all_eq_true.mpr fun _ _ => rfl
  refine ⟨_, op_in_seq, fun as H x y dx dy qd Q ex Dx Dy w k => ?_⟩
  cases dx with
  | int i =>
    cases dy with
    | list ds =>
      obtain ⟨ns, rfl, w⟩ := w
      obtain ⟨a, vs, rfl, s, D⟩ := Dp.list_of Dy
      cases DpAll.ints D
      cases Dx
      exact ⟨a, _, rfl, .inl (SqL.le hide_Le s), rfl, fl ns, by
        rw [if_neg (by decide), key]; exact k _ H _ .rfl (.bl _) w⟩
    | tuple ds =>
      obtain ⟨ns, rfl, w⟩ := w
      obtain ⟨a, vs, rfl, s, D⟩ := Dp.tup_of Dy
      cases DpAll.ints D
      cases Dx
      exact ⟨a, _, rfl, .inr (SqT.le hide_Le s), rfl, fl ns, by
        rw [if_neg (by decide), key]; exact k _ H _ .rfl (.bl _) w⟩
    | _ => exact False.elim w
  | _ => exact False.elim w
/-- t <= u of tuples of ints -/
theorem l_leT (hu : X.A.units < cLine) : LOp X (compareOp .LtE) (fun x y q => match x, y with
    | .tuple ds, .tuple es => ∃ ns ms : List Int, ds = List.map PyData.int ns ∧ es = List.map PyData.int ms ∧
      q (.bool (Ob.lexAt (fun j => decide (ns.getD j 0 = ms.getD j 0)) (fun j => decide (ns.getD j 0 ≤ ms.getD j 0)) (decide (ns.length ≤ ms.length)) 0 (min ns.length ms.length)))
    | _, _ => False) := by
  refine ⟨_, op_leT hu, fun as H x y dx dy qd Q ex Dx Dy w k => ?_⟩
  cases dx with
  | tuple ds =>
    cases dy with
    | tuple es =>
      obtain ⟨ns, ms, rfl, rfl, w⟩ := w
      obtain ⟨a, vs, rfl, s, D⟩ := Dp.tup_of Dx
      obtain ⟨a', vs', rfl, s', D'⟩ := Dp.tup_of Dy
      cases DpAll.ints D
      cases DpAll.ints D'
      exact ⟨a, a', ns, ms, rfl, rfl, SqT.le hide_Le s, SqT.le hide_Le s', k _ H _ .rfl (.bl _) w⟩
    | _ => exact False.elim w
  | _ => exact False.elim w
/-- truth of ints, lists, tuples -/
def truD : PyData → Option Bool
  | .none => some false
  | .bool b => some b
  | .int i => some (i != 0)
  | .list ds => some (!ds.isEmpty)
  | .tuple ds => some (!ds.isEmpty)
  | _ => none
theorem dt_truth (ha : DB X a ta) (he : ∀ whole, isTrue a X.env whole = (do let v ← whole; standAt a.pos; holding [v] (truthy v)) := by intro _; rfl) :
    DT X a (fun ρ q => ta ρ fun d ρ1 => ∃ k, truD d = some k ∧ q k ρ1) := by
  obtain ⟨te, hp, hq⟩ := ha.ex
  refine ⟨_, pt_truth hp he, fun C σ H ρ q Q E h k => hq C σ H ρ _ _ E h fun v H1 d ρ1 E1 s1 B h1 => ?_⟩
  obtain ⟨kk, e, z⟩ := h1
  refine ⟨kk, ?_, k kk H1 ρ1 E1 s1 z⟩
  cases d with
  | none => cases B.flat (fun _ => nofun); cases e; rfl
  | bool b => cases B.flat (fun _ => nofun); cases e; rfl
  | int i => cases B.flat (fun _ => nofun); cases e; rfl
  | list ds =>
    obtain ⟨a, vs, rfl, s, D⟩ := B.list
    cases e
    exact .inl ⟨vs, s, by rw [DpAll.nil_iff D]⟩
  | tuple ds =>
    obtain ⟨a, vs, rfl, s, D⟩ := B.tup
    cases e
    exact .inr (.inl ⟨vs, s, by rw [DpAll.nil_iff D]⟩)
  | _ => cases e
/-- n.bit_length() -/
theorem de_bits {apos cpos : Pos} (ha : DE X a ta) (hbase : attributeBase a "bit_length" X.env (eval a X.env) = eval a X.env := by rfl) (hline : (apos.endLine == cpos.line) = true := by rfl) :
    DE X (.Call (.Attribute a "bit_length" apos) [] [] cpos) (fun ρ q => ta ρ fun d ρ1 => match d with | .int i => q (.int (Builtin.Int.intBits i : Nat)) ρ1 | _ => False) := by
  obtain ⟨te, hp, hq⟩ := ha.ex
  refine ⟨_, pe_bits hp hbase hline, fun C σ H ρ q Q E h k => hq C σ H ρ _ _ E h fun v H1 d ρ1 E1 s1 D h1 => ?_⟩
  cases d with
  | int i => cases D; exact ⟨i, rfl, k _ H1 _ ρ1 E1 s1 (.int _) h1⟩
  | _ => exact h1.elim
/-- xs[k] op= e, xs a list of one's own -/
theorem get_list : PGet X (rIxL X.K) := by
  intro pins s σ H x y v u Q I rx ry h
  obtain ⟨p, xs, i, z, rfl, rfl, hq, he, q⟩ := h
  cases rx
  obtain ⟨t, rfl⟩ := ry
  obtain ⟨its, r, pl, hz⟩ := I.list hq
  obtain ⟨j, h1, h2, h3, h4, h5⟩ := atI_get he
  obtain ⟨w, ew, rw'⟩ := r.get h2
  have hl := r.length
  have hn := line63
  have fin : EP X pins σ Q w s := ⟨z, H, I, rw', q⟩
  by_cases h0 : 0 ≤ i
  · have hj : i.toNat = j := by
      rw [seqIndex_of h0 h5] at h1
      exact Option.some.inj h1
    exact wpAny_getItem_list pl.isList h0 (by omega) (by rw [hj]; simpa using ew) fin
  · have hj : (i + (its.toArray.size : Int)).toNat = j := by
      rw [seqIndex_neg (by omega) h4] at h1
      rw [List.size_toArray, ← hl]
      exact Option.some.inj h1
    exact wpAny_getItem_list_neg pl.isList (by omega) (by rw [List.size_toArray] <;> omega) (by omega) (by rw [hj]; simpa using ew) fin
def tdAugSub (i : Nat) (tk te : TDE) (rd : RD2) : TDS := fun q ρ => match ρ[i]? with
  | some (.own _ _) => tk ρ fun k ρ1 => ρ1 = ρ ∧ match ρ1[i]?, k with
    | some (.own _ ds), .int n => ∃ d, atI ds n = some d ∧ te ρ1 fun y ρ2 => rd d y fun z => match ρ2[i]? with
      | some (.own a ds2) => ∃ j, ixN ds2.length n = some j ∧ q.nx (ρ2.set i (.own a (ds2.set j z)))
      | _ => False
    | _, _ => False
  | _ => False
theorem ds_augsub {i : Nat} {x : Str} {px tpos : Pos} {k : Expr} {tk te : TDE} {op : Operator} {rd : RD2} (hN : X.N[i]? = some x) (hv : Vis X.env.scope x) (hk : DE X k tk) (he : DE X e te) (ho : LOp X (inplaceOp op) rd) (hd : (x == ("__debug__" : Str)) = false := by decide) (hcd : (x == ("__classdict__" : Str)) = false := by decide)
    (ha : ∀ ov iv new, augStore k ov iv new = (do holding [new, ov, iv] (setItem ov iv new); release [new, ov, iv] []; pure .next) := by intros; rfl) :
    DS X (.AugAssign (.Subscript (.Name x px) k tpos) op e pos) (tdAugSub i tk te rd) := by
  obtain ⟨pk, hk, qk⟩ := hk.ex
  obtain ⟨pe, he, qe⟩ := he.ex
  obtain ⟨r, ho, hl⟩ := ho
  refine ⟨_, ps_augS (pe_var hN hv hd hcd) hk get_list he ho set_list ha, fun C σ H ρ q Q E h kk => ?_⟩
  unfold tdAugSub at h
  split at h
  · rename_i a0 ds0 e0
    have hw := (E.own_at e0).1
    refine ⟨_, hw, qk C σ H ρ _ _ E h fun kv H1 dk ρ1 E1 s1 D1 h1 => ?_⟩
    obtain ⟨er, h1⟩ := h1
    subst er
    split at h1
    · rename_i a ds n e1
      obtain ⟨d, hd, h1⟩ := h1
      obtain ⟨e2, vs, e3, D3⟩ := E1.own_at e1
      rw [hw] at e2
      cases e2
      cases D1
      obtain ⟨v, hv', Dv⟩ := atI_D D3 hd
      refine ⟨a0, vs, n, v, rfl, rfl, SqL.of e3, hv', qe C σ H1 ρ1 _ _ E1 h1 fun w H2 dy ρ2 E2 s2 D2 h2 => ?_⟩
      refine hl (hs C ρ2) H2 v w d dy _ _ (fun a h => E2.hid h) (BV.step Dv s2) D2 h2 fun z H3 dz l Dz q3 => ?_
      split at q3
      · rename_i a2 ds2 e4
        obtain ⟨j, hj, q3⟩ := q3
        have E3 := E2.le l
        obtain ⟨e5, vs2, e6, D6⟩ := E3.own_at e4
        rw [hw] at e5
        cases e5
        obtain ⟨E4, s4⟩ := E3.wr e4 (DpAll.set Dz j D6)
        refine ⟨a0, vs2, n, j, rfl, rfl, e6, by rw [DpAll.length D6]; exact hj, ?_⟩
        exact kk.nx σ _ _ E4 ((s1.trans (s2.trans (.le l))).trans s4) q3
      · exact q3.elim
    · exact h1.elim
  · exact h.elim
/-! ### a, b = e1, e2 -/
def tdPar (i j : Nat) (ta tb : TDE) : TDS := fun q ρ => ta ρ fun x ρ1 => tb ρ1 fun y ρ2 => q.nx ((ρ2.set i (.sh x)).set j (.sh y))
theorem ds_par {i j : Nat} {x y : Str} {px py pt : Pos} {kt k2 pt2} (hc : X.calm = true) (hN : X.N.Nodup) (hi : X.N[i]? = some x) (hj : X.N[j]? = some y) (hij : i ≠ j)
    (hx : X.env.scope.names.lookup x = some .local) (hy : X.env.scope.names.lookup y = some .local) (ha : DE X a ta) (hb : DE X b tb)
    (hw : swappedStores [.Tuple [.Name x px, .Name y py] kt pt] (.Tuple [a, b] k2 pt2) X.env = pure (some [x, y]))
    (h1 : starEach [a, b] X.env = (false, eval a X.env) :: starEach [b] X.env := by rfl) (h2 : starEach [b] X.env = (false, eval b X.env) :: starEach [] X.env := by rfl)
    (hs' : swapsWithSole [.Tuple [.Name x px, .Name y py] kt pt] (.Tuple [a, b] k2 pt2) pos.line X.env = pure false := by rfl) :
    DS X (.Assign [.Tuple [.Name x px, .Name y py] kt pt] (.Tuple [a, b] k2 pt2) pos) (tdPar i j ta tb) := by
  obtain ⟨pa, ha, qa⟩ := ha.ex
  obtain ⟨pb, hb, qb⟩ := hb.ex
  refine ⟨_, ps_par hc hN hi hj hij hx hy (pa_cons ha (pa_cons hb pa_nil h2) h1) hw hs', fun C σ H ρ q Q E h k => ?_⟩
  refine qa C σ H ρ _ _ E h fun v H1 d ρ1 E1 s1 D1 h1 => ?_
  refine qb C σ H1 ρ1 _ _ E1 h1 fun w H2 d2 ρ2 E2 s2 D2 h2 => ⟨v, w, rfl, ?_⟩
  have E3 := E2.sh (i := i) (BV.step D1 s2)
  have E4 := E3.sh (i := j) (Dp.le (Step.put (x := .sh d) (by rfl)).vis D2)
  exact k.nx _ H2 _ E4 (((s1.trans s2).trans (Step.put (by rfl))).trans (Step.put (by rfl))) h2
/-- a, b = new list, new list: both this def's own -/
def tdParOO (i j : Nat) (ta tb : TDA) : TDS := fun q ρ => ta ρ fun x ρ1 => tb ρ1 fun y ρ2 => ∀ l m, l ∉ owns ρ2 → m ∉ owns ρ2 → l ≠ m → q.nx ((ρ2.set j (.own m y)).set i (.own l x))
/-! ### the row of draws -/
/-- what a def that draws promises: the row first, then data -/
def spR (K : PySem.W.Frag) (n : Nat) (sd : SD) : Sp := fun vs H Q _ => vs.length = n + 1 ∧ ∃ (r : Addr) (ws : List V) (as : List Addr) (ds : List PyData) (q0 : PyData → Prop), vs = .ref r :: ws ∧ r ∉ as ∧ (∀ a ∈ as, ∃ o, H a = some o ∧ ∀ xs, o ≠ HO.tup xs) ∧
  RowOk K (hide (as ++ [r]) H) H r ∧ DpAll K (hide (as ++ [r]) H) ws ds ∧ sd ds q0 ∧
  ∀ d, q0 d → ∀ v H', (∀ b o, b ≠ r → H b = some o → H' b = some o) → RowOk K (hide (as ++ [r]) H') H' r → Dp K (hide (as ++ [r]) H') v d → Q v H'
theorem start_envR {K : PySem.W.Frag} {H : Hp} {as : List Addr} {N : List Str} {r : Addr} {ws : List V} {ds : List PyData} (hr : r ∉ as) (ex : ∀ a ∈ as, ∃ o, H a = some o ∧ ∀ xs, o ≠ HO.tup xs) (R : RowOk K (hide (as ++ [r]) H) H r) (D : DpAll K (hide (as ++ [r]) H) ws ds) (hn : ws.length + 1 ≤ N.length) :
    EnvD ⟨H, as, [r]⟩ K H (L2.start N (.ref r :: ws)) (Slot.row :: (ds.map Slot.sh ++ List.replicate (N.length - (ds.length + 1)) Slot.un)) := by
  have ho : owns (Slot.row :: (ds.map Slot.sh ++ List.replicate (N.length - (ds.length + 1)) Slot.un)) = [] := by
    apply List.eq_nil_iff_forall_not_mem.mpr
    intro a h
    obtain ⟨i, x, e, hx⟩ := mem_owns.mp h
    cases i with
    | zero => cases e; cases hx
    | succ i =>
      simp only [List.getElem?_cons_succ] at e
      rw [List.getElem?_append] at e
      split at e
      · rw [List.getElem?_map] at e
        cases q : ds[i]? with
        | none => rw [q] at e; cases e
        | some d => rw [q] at e; cases e; cases hx
      · rw [List.getElem?_replicate] at e
        split at e
        · cases e; cases hx
        · cases e
  have hh : hs ⟨H, as, [r]⟩ (Slot.row :: (ds.map Slot.sh ++ List.replicate (N.length - (ds.length + 1)) Slot.un)) = as ++ [r] := by unfold hs mu; rw [ho]; simp
  have hl := DpAll.length D
  refine ⟨?_, fun i x e => ?_, by rw [ho]; exact List.nodup_nil, fun a h => (by rw [ho] at h; cases h), fun a h z => ?_, ex, fun a h => ?_, fun b o e _ => e⟩
  · unfold L2.start; simp [hl]
  · rw [hh]
    cases i with
    | zero =>
      cases e
      exact ⟨some (.ref r), rfl, r, rfl, List.mem_cons_self⟩
    | succ i =>
      simp only [List.getElem?_cons_succ] at e
      unfold L2.start
      simp only [List.map_cons, List.cons_append, List.getElem?_cons_succ, List.length_cons]
      rw [List.getElem?_append] at e
      split at e
      · rename_i z
        rw [List.getElem?_map] at e
        cases q : ds[i]? with
        | none => rw [q] at e; cases e
        | some d =>
          rw [q] at e; cases e
          obtain ⟨v, h1, h2⟩ := DpAll.get D q
          refine ⟨some v, ?_, h2⟩
          rw [List.getElem?_append_left (by simp; exact (List.getElem?_eq_some_iff.mp h1).1), List.getElem?_map, h1]
          rfl
      · rename_i z
        rw [List.getElem?_replicate] at e
        split at e
        · rename_i z2
          cases e
          refine ⟨none, ?_, trivial⟩
          rw [List.length_map] at z z2
          rw [List.getElem?_append_right (by simp; omega), List.getElem?_replicate]
          simp only [List.length_map]
          rw [if_pos (by omega)]
        · cases e
  · have : a = r := by simpa using h
    subst this; exact hr z
  · have : a = r := by simpa using h
    subst this; rw [hh]; exact R
theorem fnR {P : Program} {w : World} {K : PySem.W.Frag} {mg : Str → Option Value} {base : Heap} {x qual : Str} {st : Stmt} {f : Addr} {fd : FuncData} {N ps : List Str} {k n : Nat} {sd : SD} {u : TDS} (F : Fun K x qual st f fd) (S : FnScope N ps (defScope st)) (hp : ps.length = n + 1) (hn : ps.length ≤ N.length)
    (hbody : ∀ (cdv : Value) (A : Around) (outer : List Env) (s : Shared) (H : Hp) (E : XK), Room k (A.deeper (envOfC qual (defScope st) s.heap.objs.size f cdv)) →
      DSs (cxOf CX0 P w K mg base N qual (defScope st) f cdv A outer s H E).nox (defBody st) u)
    (hr : ∀ ds q, ds.length = n → sd ds q → u { nx := fun _ => q .none, rt := fun d _ => q d } (Slot.row :: (ds.map Slot.sh ++ List.replicate (N.length - (ds.length + 1)) Slot.un))) :
    FnOk P w K mg base CX0 (k + 1) f fd ps (spR K n sd) := by
  refine F.ok S (fun vs H Q E h => h.1.trans hp.symm) fun cdv A outer s H vs Q E hrm h => ?_
  obtain ⟨hl, r, ws, as, ds, q0, rfl, hra, ex, R, D, w', fin⟩ := h
  obtain ⟨ts, hpp, hq⟩ := (hbody cdv A outer s H E hrm).ex
  refine ⟨ts, hpp, ?_⟩
  have hlw : ws.length = n := by simpa using hl
  have hld : ds.length = n := (DpAll.length D).symm.trans hlw
  have E0 := start_envR (N := N) hra ex R D (by omega)
  have sub : ∀ (ρ : DEnv), ∀ b, b ∈ as ++ [r] → b ∈ hs ⟨H, as, [r]⟩ ρ := fun ρ b z => by
    rcases List.mem_append.mp z with z | z
    · exact List.mem_append_left _ z
    · exact List.mem_append_right _ (List.mem_append_left _ z)
  have kp : ∀ {σ' : L2.St} {H' : Hp} {ρ' : DEnv}, EnvD ⟨H, as, [r]⟩ K H' σ' ρ' → ∀ b o, b ≠ r → H b = some o → H' b = some o := fun E' b o nb e => E'.keep b o e (by simpa using nb)
  refine hq ⟨H, as, [r]⟩ (L2.start N (.ref r :: ws)) H _ { nx := fun _ => q0 .none, rt := fun d _ => q0 d } _ E0 (hr ds _ hld w') ⟨fun σ' H' ρ' E' s' z => ?_, fun v σ' H' d ρ' E' s' D' z => ?_, fun _ _ _ _ _ z => z, fun _ _ _ _ _ z => z⟩
  · exact fin _ z .non H' (kp E') (RowOk.mono (hide_sub (sub ρ')) (E'.row r List.mem_cons_self)) .non
  · exact fin _ z v H' (kp E') (RowOk.mono (hide_sub (sub ρ')) (E'.row r List.mem_cons_self)) (Dp.le (hide_sub (sub ρ')) D')
/-- a call of it, the row in slot i -/
def tdCallR (i : Nat) (n : Nat) (sd : SD) (ts : TDA) : TDE := fun ρ q => ρ[i]? = some .row ∧ ts ρ fun ds ρ1 => ds.length = n ∧ sd ds fun d => q d ρ1
theorem de_callR {k i : Nat} {f : Addr} {fd : FuncData} {ps : List Str} {n : Nat} {sd : SD} {x y : Str} {p p2 : Pos} {ts : TDA} (F : FnOk X.prog X.w X.K X.mg X.base CX0 k f fd ps (spR X.K n sd)) (hr : Room k X.A) (hg : Gl X x) (hm : X.mg x = some (.ref f)) (hk : PySem.W.keepIn X.K (.ref f) = true) (hb : Binds X.K fd ps [])
    (hN : X.N[i]? = some y) (hv : Vis X.env.scope y) (ha : DA X es ts) (hd : (y == ("__debug__" : Str)) = false := by decide) (hcd : (y == ("__classdict__" : Str)) = false := by decide)
    (hdb : (x == ("__debug__" : Str)) = false := by decide) (he : starEach (.Name y p2 :: es) X.env = (false, eval (.Name y p2) X.env) :: starEach es X.env := by rfl) (hpl : (backTo pos (starEach es X.env)).any (·.1) = false := by rfl) :
    DE X (.Call (.Name x p) (.Name y p2 :: es) [] pos) (tdCallR i n sd ts) := by
  obtain ⟨ta, ha, qa⟩ := ha.ex
  refine ⟨_, pe_call F hr hg hm hk hb .nil pass0 (E := E0) (pa_cons (pe_var hN hv hd hcd) ha he) hdb he hpl, fun C σ H ρ q Q E h k => ?_⟩
  obtain ⟨h0, h⟩ := h
  obtain ⟨v, e1, s⟩ := E.slots i _ h0
  cases v with
  | none => cases s
  | some v =>
    obtain ⟨a, rfl, har⟩ := s
    refine ⟨_, e1, qa C σ H ρ _ _ E h fun vs H1 ds ρ1 E1 s1 D1 h1 => ?_⟩
    have hae : a ∉ C.ex := E1.dr a har
    have hao : a ∉ owns ρ1 := fun z => (E1.dj a z).2 har
    have mem : ∀ b, b ∈ (C.ex ++ (C.rw.filter (· ≠ a) ++ owns ρ1)) ++ [a] ↔ b ∈ hs C ρ1 := fun b => by
      unfold hs mu
      simp only [List.mem_append, List.mem_filter, List.mem_singleton, decide_eq_true_eq]
      constructor
      · rintro ((h | ⟨h, _⟩ | h) | h)
        · exact .inl h
        · exact .inr (.inl h)
        · exact .inr (.inr h)
        · subst h; exact .inr (.inl har)
      · rintro (h | h | h)
        · exact .inl (.inl h)
        · by_cases z : b = a
          · exact .inr z
          · exact .inl (.inr (.inl ⟨h, z⟩))
        · exact .inl (.inr (.inr h))
    have hh : ∀ H : Hp, hide ((C.ex ++ (C.rw.filter (· ≠ a) ++ owns ρ1)) ++ [a]) H = hide (hs C ρ1) H := fun H => hide_congr mem
    have na : a ∉ C.ex ++ (C.rw.filter (· ≠ a) ++ owns ρ1) := by
      simp only [List.mem_append, List.mem_filter, decide_eq_true_eq]
      rintro (h | ⟨_, h⟩ | h)
      · exact hae h
      · exact h rfl
      · exact hao h
    refine ⟨by rw [List.append_nil]; simp [DpAll.length D1, h1.1], a, vs, C.ex ++ (C.rw.filter (· ≠ a) ++ owns ρ1), ds, fun d => q d ρ1, by rw [List.append_nil], na, fun b hb => E1.hid ((mem b).mp (List.mem_append_left _ hb)), by rw [hh]; exact E1.row a har, by rw [hh]; exact D1, h1.2, fun d z v H' kp R D => ?_⟩
    rw [hh] at R D
    have l : Le (hide (hs C ρ1) H1) (hide (hs C ρ1) H') := fun b o e => by
      obtain ⟨n, e⟩ := hide_some e
      rw [hide_out n]
      exact kp b o (fun y => n (by rw [y]; exact List.mem_append_right _ (List.mem_append_left _ har))) e
    have E2 : EnvD C X.K H' σ ρ1 := by
      refine ⟨E1.len, fun j x e => ?_, E1.nd, E1.dj, E1.dr, fun b hb => ?_, fun b hb => ?_, fun b o e nb => ?_⟩
      · obtain ⟨v, e1, sl⟩ := E1.slots j x e
        refine ⟨v, e1, sl.move l (fun b hb o z => kp b o (fun y => hao ?_) z) rfl rfl⟩
        rw [← y]; exact mem_owns.mpr ⟨j, x, e, hb⟩
      · obtain ⟨o, z, nt⟩ := E1.exd b hb
        exact ⟨o, kp b o (fun y => hae (by rw [← y]; exact hb)) z, nt⟩
      · by_cases y : b = a
        · subst y; exact R
        · obtain ⟨sc, ns, i', s', b', q1, r1⟩ := E1.row b hb
          exact ⟨sc, ns, i', s', b', kp b _ y q1, SqL.le l r1.1, r1.2⟩
      · exact kp b o (fun y => nb (by rw [y]; exact har)) (E1.keep b o e nb)
    refine k v H' d ρ1 E2 (s1.trans ⟨fun b o n z => kp b o (fun y => n (by rw [y]; exact List.mem_append_left _ har)) z, fun b o z => ?_, fun b z => .inl z⟩) D z
    by_cases y : b = a
    · obtain ⟨_, _, _, _, _, q1, _⟩ := R; exact ⟨_, by rw [y]; exact q1⟩
    · exact ⟨o, kp b o y z⟩
end
end DL
/-! DL: dicts of one's own. -/
namespace DL
open PySem PySem.Spec PyProof.Rows L2
/-! ### sorted(d.keys()) of a dict whose keys are pairs of ints -/
def keysO (p d : Addr) : HO := .ext fun h => PySem.W.KdlKeysView h p d
theorem keysO_ok {P : Program} {w : World} {H : Hp} {h : Heap} {p d : Addr} (e : h.get? p = some { cls := .type "dict_keys", data := .fields #[.ref d] }) : ObjOk P w H h p (keysO p d) :=
  ⟨⟨_, e, rfl, rfl⟩, ⟨_, e⟩, fun h1 h2 x k => let ⟨o, ho, r⟩ := x; ⟨o, k o ho, r⟩⟩
section
variable {prog : Program} {w : World} {A : Around} {E : Value → Shared → Prop} {s : Shared}
theorem meetsKeysRaw {d : Addr} {es : Array DictEntry} {ep : Nat} (hd : (d == sysModules) = false) :
    MeetsIn prog w (Builtin.«dict.keys» ⟨[.ref d], []⟩) (fun _ R s => s.heap.DictRaw d es ep ∧
      R (.ok (.ret (.ref s.heap.objs.size))) { s with heap := s.heap.push { cls := .type "dict_keys", data := .fields #[.ref d] } }) :=
  .of_wp fun A R s ⟨hm, h⟩ => by
    refine wpAny_bind ?_
    unfold Builtin.Dict.noArgs
    refine wpAny_bind (wpAny_notOrdered_dict hm.typeIs ?_)
    show wpAny _ _ (pure d) _ _ s
    refine wpAny_pure ?_
    show wpAny _ _ (Builtin.Dict.showsAll d >>= _) _ _ s
    unfold Builtin.Dict.showsAll
    rw [if_neg (by rw [hd]; exact Bool.false_ne_true)]
    refine wpAny_bind (wpAny_pure ?_)
    exact wpAny_bind (wpAny_newObj_type (wpAny_pure ⟨_, rfl, h⟩))
end
section
variable {X : Cx}
def rKeysT : V → List V → Hp → VK → Prop := fun x xs H Q => ∃ (a : Addr) (kvs : List (List L2.Key × V)), x = .ref a ∧ xs = [] ∧ H a = some (.dT kvs) ∧ ∀ p, H p = none → Q (.ref p) (upd H p (keysO p a))
theorem mt_keysT : MtR X "dict.keys" rKeysT := by
  intro pins s σ H x xs v us Q I rx rxs h
  obtain ⟨a, kvs, rfl, rfl, ha, q⟩ := h
  cases rx
  cases rxs
  obtain ⟨z, hd, xs', rel, dd⟩ := L2.dt_of I.hok ha
  obtain ⟨es, ep, raw, _, _⟩ := dd.raw
  have hf : H s.heap.objs.size = none := I.hok.fresh (Nat.le_refl _)
  exact call_meetsIn PySem.F.slot_dict_keys raw.typeIs PySem.F.entry_dict_keys (PySem.F.args_dict_keys_1 _) (meetsKeysRaw (es := es) (ep := ep) hd) ⟨raw,
    .ref s.heap.objs.size, upd H s.heap.objs.size (keysO s.heap.objs.size a), I.laid (t' := s.toks) (fun b u e => Heap.get?_push_of_some _ e) (Nat.le_refl _) (keysO_ok (Heap.get?_push_size _ rfl)), rfl, q _ hf⟩
/-- a pair of ints as a key -/
def pk (p : Int × Int) : List L2.Key := [.inl p.1, .inl p.2]
/-- lexicographic, at most -/
def lexLe (p q : Int × Int) : Prop := p.1 < q.1 ∨ (p.1 = q.1 ∧ p.2 ≤ q.2)
def rSortKeys : List V → Hp → VK → Prop := fun vs H Q => ∃ (p a : Addr) (kvs : List (List L2.Key × V)) (ks : List (Int × Int)), vs = [.ref p] ∧ H p = some (keysO p a) ∧ H a = some (.dT kvs) ∧ kvs.map (·.1) = ks.map pk ∧
  ∀ (bs : List (Addr × Int × Int)) (l : Addr), (bs.map (·.2)).Perm ks → bs.Pairwise (fun x y => lexLe x.2 y.2) → (∀ z ∈ bs, H z.1 = some (.tup [.int z.2.1, .int z.2.2])) → H l = none → Q (.ref l) (upd H l (.lst (bs.map fun z => .ref z.1)))
/-- what stands at an address as a pair -/
def pairAt (H : Hp) : Value → Int × Int
  | .ref b => match H b with
    | some (.tup [.int i, .int j]) => (i, j)
    | _ => (0, 0)
  | _ => (0, 0)
theorem pairAt_of {H : Hp} {b : Addr} {p : Int × Int} (h : H b = some (.tup [.int p.1, .int p.2])) : pairAt H (.ref b) = p := by
  show (match H b with | some (.tup [.int i, .int j]) => (i, j) | _ => (0, 0)) = p
  rw [h]
def refAddr : Value → Addr
  | .ref b => b
  | _ => 0
theorem cr_sortedKeysT (hc : X.calm = true) : CallR X (.builtin "sorted") rSortKeys := by
  intro pins s σ H xs us Q I r h
  obtain ⟨p, a, kvs, ks, rfl, hp, ha, hks, q⟩ := h
  obtain rfl := Vals.ref1 r
  have view : PySem.W.KdlKeysView s.heap p a := (show ObjOk X.prog X.w H s.heap p (keysO p a) from I.hok p _ hp).1
  obtain ⟨z, hd, xs', rel, dd⟩ := L2.dt_of I.hok ha
  obtain ⟨es, ep, raw, hes, hent⟩ := dd.raw
  have l1 : kvs.length = xs'.length := Paired.length rel
  have lk : kvs.length = ks.length := by have := congrArg List.length hks; simpa using this
  -- the keys' addresses
  have key : ∀ (i : Nat) (x : List L2.Key × Addr × Value), xs'[i]? = some x → ∃ pr, ks[i]? = some pr ∧ x.1 = pk pr ∧ H x.2.1 = some (.tup [.int pr.1, .int pr.2]) := by
    have all : ∀ {l : List (List L2.Key × V)} {m : List (List L2.Key × Addr × Value)} {ks : List (Int × Int)}, KT H l m → l.map (·.1) = ks.map pk → ∀ (i : Nat) x, m[i]? = some x → ∃ pr, ks[i]? = some pr ∧ x.1 = pk pr ∧ H x.2.1 = some (.tup [.int pr.1, .int pr.2]) := by
      intro l m ks q
      induction q generalizing ks with
      | nil => intro _ i x e; simp at e
      | @cons p q ps qs hq t ih =>
        intro e i x ex
        cases ks with
        | nil => cases e
        | cons k ks =>
          rw [List.map_cons, List.map_cons] at e
          injection e with e1 e2
          cases i with
          | zero =>
            simp at ex
            subst ex
            refine ⟨k, rfl, hq.1.symm.trans e1, ?_⟩
            rw [hq.2.1, e1]; rfl
          | succ i =>
            obtain ⟨pr, h1, h2⟩ := ih e2 i x (by simpa using ex)
            exact ⟨pr, by simpa using h1, h2⟩
    exact all rel hks
  have hh : X.A.handled = none := I.ok.hd hc
  refine Calls.call_function_entry PyProof.Rows.kind_sorted PyProof.Rows.plain_sorted PyProof.Rows.entry_sorted (PyProof.Rows.args_sorted1 _) ?_
  unfold Builtin.«sorted»
  refine wpAny_bind (m := checkCount "sorted" 1 1 _) (wpAny_pure ?_)
  refine wpAny_bind (PySem.W.kdu_collect (A := X.A.in1) (KdlSrc.rawKeys (r := p) (d := a) (es := es) (ep := ep)) hh ⟨view, raw⟩ (by omega) fun h' tk acc hk hacc => ?_)
  have hal : acc.toList.length = es.size := by rw [Array.length_toList, hacc.1]
  have hav : ∀ (j : Nat) (v : Value), acc.toList[j]? = some v → ∃ (b : Addr) (pr : Int × Int), v = .ref b ∧ ks[j]? = some pr ∧ H b = some (.tup [.int pr.1, .int pr.2]) := fun j v e => by
    obtain ⟨hi, ev⟩ := hacc.2 j v (by rw [← Array.getElem?_toList]; exact e)
    obtain ⟨y, hy, ek, _, _⟩ := hent j hi
    obtain ⟨pr, h1, _, h3⟩ := key j y hy
    exact ⟨y.2.1, pr, ev.trans ek, h1, h3⟩
  have pairs : ∀ v ∈ acc.toList, Srt.IsPair s.heap v (pairAt H v).1 (pairAt H v).2 := fun v hv => by
    obtain ⟨j, hj⟩ := List.mem_iff_getElem?.mp hv
    obtain ⟨b, pr, rfl, _, hb⟩ := hav j v hj
    have e : pairAt H (.ref b) = pr := pairAt_of hb
    rw [e]
    obtain ⟨_, its2, r2, o, ho, hcc, n, hdd⟩ := I.hok _ _ hb
    obtain ⟨u1, u2, rfl, ri, rj⟩ := vals2 r2
    obtain ⟨t1, rfl⟩ := ri
    obtain ⟨t2, rfl⟩ := rj
    exact ⟨b, o, t1, t2, n, rfl, ho, hcc, hdd⟩
  have I1 : Inv X pins σ H { s with heap := h', toks := tk } := I.kept hk
  have hz : acc.toList.length ≤ sizeLine := by omega
  refine wpAny_bind (wpAny_newList ?_ hz)
  have hoL : (h'.push (seqObj "list" acc.toList.toArray 0)).get? h'.objs.size = some (seqObj "list" acc.toList.toArray 0) := Heap.get?_push_size _ rfl
  show wpAny _ _ _ _ _ { s with heap := h'.push (seqObj "list" acc.toList.toArray 0), toks := tk }
  refine wpAny_bind (wpAny_holding (wpAny_call_entry PyProof.Rows.slot_list_sort ⟨_, hoL, rfl⟩ PyProof.Rows.entry_list_sort
    (SrtO.list_sort_ord (s := { s with heap := h'.push (seqObj "list" acc.toList.toArray 0), toks := tk }) (SrtO.swo_lex (pairAt H)) hoL hz (fun h2 => ?_) fun out hs hb => ⟨_, rfl, ?_⟩) (PyProof.Rows.args_list_sort _)))
  · refine SrtO.pairs_sortableO (s := { s with heap := h'.push (seqObj "list" acc.toList.toArray 0), toks := tk }) (by omega) (fun v hm => (pairs v hm).keeps fun b o e _ => Heap.get?_push_of_some _ (hk b o e)) fun o e => ?_
    have e' : some o = some (seqObj "list" acc.toList.toArray 0) := e.symm.trans hoL
    cases e'
    intro c
    exact absurd (Value.type.inj c) (by decide)
  · have mem : ∀ v ∈ out, v ∈ acc.toList := fun v hv => hb.perm.mem_iff.mp hv
    have refs : ∀ v ∈ out, v = .ref (refAddr v) ∧ H (refAddr v) = some (.tup [.int (pairAt H v).1, .int (pairAt H v).2]) := fun v hv => by
      obtain ⟨j, hj⟩ := List.mem_iff_getElem?.mp (mem v hv)
      obtain ⟨b, pr, rfl, _, hb'⟩ := hav j v hj
      have e : pairAt H (.ref b) = pr := pairAt_of hb'
      rw [e]
      exact ⟨rfl, hb'⟩
    obtain ⟨e', he'⟩ := PyProof.Rows.sortedHeap_at (vs := acc.toList) (out := out.toArray) hoL
    have hlen : out.length ≤ sizeLine := by rw [hb.perm.length_eq]; exact hz
    have hv : Vals (out.map fun v => V.ref (refAddr v)) out := by
      have all : ∀ l : List Value, (∀ v ∈ l, v = .ref (refAddr v)) → Vals (l.map fun v => V.ref (refAddr v)) l := by
        intro l
        induction l with
        | nil => intro _; exact .nil
        | cons v l ih => intro h; exact .cons (h v List.mem_cons_self) (ih fun u hu => h u (List.mem_cons_of_mem _ hu))
      exact all out fun v hv => (refs v hv).1
    have I2 := I1
    refine wpAny_pure ⟨_, rfl, .ref h'.objs.size, upd H h'.objs.size (.lst (out.map fun v => V.ref (refAddr v))), I1.laid (t' := tk) (fun b u e => ?_) (Nat.le_refl _) ⟨by rw [List.length_map]; exact hlen, out, e', hv, he'⟩, rfl, ?_⟩
    · have hb' : b < h'.objs.size := Heap.lt_size e
      rw [PyProof.Rows.sortedHeap_old (Nat.ne_of_lt hb') (by rw [size_push']; exact Nat.lt_succ_of_lt hb')]
      exact Heap.get?_push_of_some _ e
    · have qq := q (out.map fun v => (refAddr v, pairAt H v)) h'.objs.size ?_ ?_ ?_ (I1.hok.fresh (Nat.le_refl _))
      · rw [List.map_map] at qq; exact qq
      · rw [List.map_map]
        have e1 : (out.map (pairAt H)).Perm (acc.toList.map (pairAt H)) := hb.perm.map _
        have e2 : acc.toList.map (pairAt H) = ks := by
          apply List.ext_getElem?
          intro j
          rw [List.getElem?_map]
          by_cases hj : j < acc.toList.length
          · obtain ⟨b, pr, ev, h1, h2⟩ := hav j acc.toList[j] (List.getElem?_eq_getElem hj)
            rw [List.getElem?_eq_getElem hj, h1]
            show some (pairAt H acc.toList[j]) = _
            rw [ev, pairAt_of h2]
          · rw [List.getElem?_eq_none (by omega), List.getElem?_eq_none (by omega)]; rfl
        rw [← e2]; exact e1
      · rw [List.pairwise_map]
        refine List.Pairwise.imp (fun {x y} hxy => ?_) hs
        have := SrtO.lexB_no.mp hxy
        unfold lexLe
        simp only
        omega
      · intro z hz'
        obtain ⟨v, hv', rfl⟩ := List.mem_map.mp hz'
        exact (refs v hv').2
end
end DL
/-! DL: dicts of one's own, by data. -/
namespace DL
open PySem PySem.Spec PyProof.Rows L2
theorem owns_set_any {ρ : DEnv} {i : Nat} {a b : Addr} {x : Slot} (hx : x.addr = some a) (h : b ∈ owns (ρ.set i x)) : b = a ∨ b ∈ owns ρ := by
  obtain ⟨j, y, e, hy⟩ := mem_owns.mp h
  rw [List.getElem?_set] at e
  split at e
  · split at e
    · cases e; rw [hx] at hy; cases hy; exact .inl rfl
    · cases e
  · exact .inr (mem_owns.mpr ⟨j, y, e, hy⟩)
theorem owns_set_nd {a : Addr} {x : Slot} (hx : x.addr = some a) : ∀ (ρ : DEnv) (i : Nat), (owns ρ).Nodup → a ∉ owns ρ → (owns (ρ.set i x)).Nodup := by
  intro ρ
  induction ρ with
  | nil => intro i n _; simp [owns]
  | cons y ρ ih =>
    intro i n m
    cases i with
    | zero =>
      show (List.filterMap Slot.addr (x :: ρ)).Nodup
      rw [List.filterMap_cons_some hx]
      cases h : y.addr with
      | none =>
        unfold owns at n m
        rw [List.filterMap_cons_none h] at n m
        exact List.nodup_cons.mpr ⟨m, n⟩
      | some b =>
        unfold owns at n m
        rw [List.filterMap_cons_some h] at n m
        exact List.nodup_cons.mpr ⟨fun z => m (List.mem_cons_of_mem _ z), (List.nodup_cons.mp n).2⟩
    | succ i =>
      show (List.filterMap Slot.addr (y :: ρ.set i x)).Nodup
      cases h : y.addr with
      | none =>
        unfold owns at n m
        rw [List.filterMap_cons_none h] at n m ⊢
        exact ih i n m
      | some b =>
        unfold owns at n m
        rw [List.filterMap_cons_some h] at n m ⊢
        refine List.nodup_cons.mpr ⟨fun z => ?_, ih i (List.nodup_cons.mp n).2 fun z => m (List.mem_cons_of_mem _ z)⟩
        rcases owns_set_any hx (show b ∈ owns (ρ.set i x) from z) with z | z
        · subst z; exact m List.mem_cons_self
        · exact (List.nodup_cons.mp n).1 z
/-- a new object becomes this def's own -/
theorem EnvD.ownX {C : Ctx} {K : PySem.W.Frag} {H : Hp} {σ : L2.St} {ρ : DEnv} {i : Nat} {a : Addr} {v : V} {x : Slot} (E : EnvD (C.with a) K H σ ρ) (hx : x.addr = some a) (hc : a ∉ C.ex)
    (s : SlotOk K C (hide (hs (C.with a) ρ) H) H (some v) x) : EnvD C K H (σ.set i (some v)) (ρ.set i x) := by
  have na : a ∉ owns ρ := fun z => (E.dj a z).1 List.mem_cons_self
  have nr : a ∉ C.rw := fun z => E.dr a z List.mem_cons_self
  have sub : ∀ b, b ∈ owns (ρ.set i x) → b = a ∨ b ∈ owns ρ := fun b z => owns_set_any hx z
  have l : Le (hide (hs (C.with a) ρ) H) (hide (hs C (ρ.set i x)) H) := hide_sub fun b z => by
    rcases List.mem_append.mp z with z | z
    · exact List.mem_cons_of_mem _ (List.mem_append_left _ z)
    · rcases List.mem_append.mp z with z | z
      · exact List.mem_cons_of_mem _ (List.mem_append_right _ (List.mem_append_left _ z))
      · rcases sub b z with z | z
        · subst z; exact List.mem_cons_self
        · exact List.mem_cons_of_mem _ (List.mem_append_right _ (List.mem_append_right _ z))
  refine ⟨by simp [E.len], fun j y e => ?_, owns_set_nd hx ρ i E.nd na, fun b h => ?_, fun b h z => E.dr b h (List.mem_cons_of_mem _ z), fun b h => E.exd b (List.mem_cons_of_mem _ h), fun b h => RowOk.mono l (E.row b h), E.keep⟩
  · rw [List.getElem?_set] at e
    by_cases ij : i = j
    · subst ij
      rw [if_pos rfl] at e
      split at e
      · cases e
        exact ⟨some v, by rw [List.getElem?_set]; simp [E.len]; assumption, s.mono l⟩
      · cases e
    · rw [if_neg ij] at e
      obtain ⟨w, e1, s'⟩ := E.slots j y e
      exact ⟨w, by rw [List.getElem?_set_ne ij]; exact e1, s'.move l (fun _ _ _ e => e) rfl rfl⟩
  · rcases sub b h with z | z
    · subst z; exact ⟨hc, nr⟩
    · exact ⟨fun y => (E.dj b z).1 (List.mem_cons_of_mem _ y), (E.dj b z).2⟩
theorem owns_sameX {ρ : DEnv} {i : Nat} {a : Addr} {x y : Slot} (h : ρ[i]? = some x) (hx : x.addr = some a) (hy : y.addr = some a) : owns (ρ.set i y) = owns ρ := by
  induction ρ generalizing i with
  | nil => simp at h
  | cons z ρ ih =>
    cases i with
    | zero =>
      simp at h; subst h
      show List.filterMap Slot.addr (y :: ρ) = List.filterMap Slot.addr (z :: ρ)
      rw [List.filterMap_cons_some hy, List.filterMap_cons_some hx]
    | succ i =>
      simp at h
      show List.filterMap Slot.addr (z :: ρ.set i y) = List.filterMap Slot.addr (z :: ρ)
      have := ih h
      unfold owns at this
      cases q : z.addr with
      | none => rw [List.filterMap_cons_none q, List.filterMap_cons_none q]; exact this
      | some b => rw [List.filterMap_cons_some q, List.filterMap_cons_some q, this]
/-- an own object is changed in place -/
theorem EnvD.wrX {C : Ctx} {K : PySem.W.Frag} {H : Hp} {σ : L2.St} {ρ : DEnv} (E : EnvD C K H σ ρ) {i : Nat} {a : Addr} {x y : Slot} {o : HO} (h : ρ[i]? = some x) (hx : x.addr = some a) (hy : y.addr = some a)
    (hs' : ∀ v, SlotOk K C (hide (hs C ρ) H) H v x → SlotOk K C (hide (hs C ρ) H) (upd H a o) v y) :
    EnvD C K (upd H a o) σ (ρ.set i y) ∧ Step C ρ H (ρ.set i y) (upd H a o) := by
  have ho : owns (ρ.set i y) = owns ρ := owns_sameX h hx hy
  have hh : hs C (ρ.set i y) = hs C ρ := by unfold hs mu; rw [ho]
  have ao : a ∈ owns ρ := mem_owns.mpr ⟨i, _, h, hx⟩
  have am : a ∈ mu C ρ := List.mem_append_right _ ao
  have ah : a ∈ hs C ρ := List.mem_append_right _ am
  have hu : hide (hs C ρ) (upd H a o) = hide (hs C ρ) H := by
    funext b
    by_cases q : b ∈ hs C ρ
    · rw [hide_in q, hide_in q]
    · rw [hide_out q, hide_out q, upd_ne (fun z => q (by rw [z]; exact ah))]
  refine ⟨⟨by rw [E.len]; simp, fun j z e => ?_, by rw [ho]; exact E.nd, fun b z => E.dj b (by rw [ho] at z; exact z), E.dr, fun b z => ?_, fun b z => ?_, fun b u z n => ?_⟩, ⟨fun b u n z => ?_, fun b u z => ?_, fun b z => .inl (by rw [ho] at z; exact z)⟩⟩
  · rw [hh, hu]
    rw [List.getElem?_set] at e
    by_cases ij : i = j
    · subst ij
      rw [if_pos rfl] at e
      split at e
      · cases e
        obtain ⟨w, e3, s⟩ := E.slots i _ h
        exact ⟨w, e3, hs' w s⟩
      · cases e
    · rw [if_neg ij] at e
      obtain ⟨w, e3, s⟩ := E.slots j z e
      refine ⟨w, e3, s.move Le.rfl (fun b hb u z => ?_) rfl rfl⟩
      rw [upd_ne (fun y => by subst y; exact nodup_two E.nd ij h hx e hb)]
      exact z
  · obtain ⟨u, q, nt⟩ := E.exd b z
    exact ⟨u, by rw [upd_ne (fun y => (E.dj a ao).1 (by rw [← y]; exact z))]; exact q, nt⟩
  · obtain ⟨sc, ns, i', s, b', q, r⟩ := E.row b z
    rw [hh, hu]
    exact ⟨sc, ns, i', s, b', by rw [upd_ne (fun y => (E.dj a ao).2 (by rw [← y]; exact z))]; exact q, r⟩
  · have h0 : b ≠ a := fun y => by
      subst y
      obtain ⟨w, e3, s⟩ := E.slots i _ h
      have := (s.has hx).2
      rw [z] at this; cases this
    rw [upd_ne h0]; exact E.keep b u z n
  · rw [upd_ne (fun y => n (by rw [y]; exact am))]; exact z
  · by_cases q : b = a
    · subst q; exact ⟨_, upd_same⟩
    · exact ⟨u, by rw [upd_ne q]; exact z⟩
theorem DpAll.keys {K : PySem.W.Frag} {H : Hp} : ∀ {vs : List V} {ks : List Key}, DpAll K H vs (ks.map kD) → vs = ks.map kV
  | _, [], .nil => rfl
  | _, .inl i :: ks, .cons (.int _) b => by rw [List.map_cons, DpAll.keys b]; rfl
  | _, .inr i :: ks, .cons (.str _) b => by rw [List.map_cons, DpAll.keys b]; rfl
section
variable {κ : Type} [DecidableEq κ]
def putD (kvs : List (κ × PyData)) (k : κ) (v : PyData) : List (κ × PyData) :=
  if (kvs.any fun kv => decide (kv.1 = k)) = true then kvs.map (fun kv => if kv.1 = k then (kv.1, v) else kv) else kvs ++ [(k, v)]
theorem putD_rel {K : PySem.W.Frag} {H : Hp} {kvV : List (κ × V)} {kvs : List (κ × PyData)} (hk : kvV.map (·.1) = kvs.map (·.1)) (D : DpAll K H (kvV.map (·.2)) (kvs.map (·.2))) (k : κ) {v : V} {d : PyData} (Dv : Dp K H v d) :
    (putK kvV k v).map (·.1) = (putD kvs k d).map (·.1) ∧ DpAll K H ((putK kvV k v).map (·.2)) ((putD kvs k d).map (·.2)) := by
  have ha : (kvV.any fun kv => decide (kv.1 = k)) = (kvs.any fun kv => decide (kv.1 = k)) := by
    have e1 : (kvV.any fun kv => decide (kv.1 = k)) = (kvV.map (·.1)).any fun x => decide (x = k) := by rw [List.any_map]; rfl
    have e2 : (kvs.any fun kv => decide (kv.1 = k)) = (kvs.map (·.1)).any fun x => decide (x = k) := by rw [List.any_map]; rfl
    rw [e1, e2, hk]
  unfold putK putD
  rw [ha]
  split
  · have all : ∀ (a : List (κ × V)) (b : List (κ × PyData)), a.map (·.1) = b.map (·.1) → DpAll K H (a.map (·.2)) (b.map (·.2)) →
        (a.map fun kv => if kv.1 = k then (kv.1, v) else kv).map (·.1) = (b.map fun kv => if kv.1 = k then (kv.1, d) else kv).map (·.1) ∧ DpAll K H ((a.map fun kv => if kv.1 = k then (kv.1, v) else kv).map (·.2)) ((b.map fun kv => if kv.1 = k then (kv.1, d) else kv).map (·.2)) := by
      intro a
      induction a with
      | nil => intro b h D; cases b with
        | nil => exact ⟨rfl, .nil⟩
        | cons y b => cases h
      | cons x a ih =>
        intro b h D
        cases b with
        | nil => cases h
        | cons y b =>
          simp only [List.map_cons, List.cons.injEq] at h
          simp only [List.map_cons] at D
          cases D with
          | cons D1 D2 =>
            obtain ⟨h1, h2⟩ := ih b h.2 D2
            simp only [List.map_cons]
            by_cases q : x.1 = k
            · have q' : y.1 = k := h.1.symm.trans q
              rw [if_pos q, if_pos q']
              exact ⟨by simp only [h.1, h1], .cons Dv h2⟩
            · have q' : ¬ y.1 = k := fun z => q (h.1.trans z)
              rw [if_neg q, if_neg q']
              exact ⟨by simp only [h.1, h1], .cons D1 h2⟩
    exact all kvV kvs hk D
  · rw [List.map_append, List.map_append, List.map_append, List.map_append, hk]
    exact ⟨rfl, DpAll.append D (.cons Dv .nil)⟩
end
section
variable {X : Cx} {e a b c tg iter : Expr} {es : List Expr} {pos : Pos} {t ta tb tc : TDE}
/-- d[e1, e2] = value, d a dict of one's own with tuples as keys -/
def tdPutT (i : Nat) (tk : TDA) (tv : TDE) : TDS := fun q ρ => tv ρ fun d ρ1 => match ρ1[i]? with
  | some (.dic _ (.T _)) => tk ρ1 fun ds ρ2 => match ρ2[i]? with
    | some (.dic a (.T kvs)) => ds.length ≤ sizeLine ∧ ∃ ks : List Key, ds = ks.map kD ∧ kvs.length < sizeLine ∧ q.nx (ρ2.set i (.dic a (.T (putD kvs ks d))))
    | _ => False
  | _ => False
theorem EnvD.dic_at {C : Ctx} {K : PySem.W.Frag} {H : Hp} {σ : L2.St} {ρ : DEnv} (E : EnvD C K H σ ρ) {i : Nat} {a : Addr} {c : DCon} (h : ρ[i]? = some (.dic a c)) : σ[i]? = some (some (.ref a)) ∧ DicOk K (hide (hs C ρ) H) H a c := by
  obtain ⟨v, e, s⟩ := E.slots i _ h
  cases v with
  | none => cases s
  | some v => obtain ⟨rfl, q, _⟩ := s; exact ⟨e, q⟩
theorem ds_putT {i : Nat} {x : Str} {px pos' pt : Pos} {kt : Nat} {value : Expr} {tk : TDA} {tv : TDE} (hu : X.A.units + 1 < cLine) (hN : X.N[i]? = some x) (hv : Vis X.env.scope x) (hk : DA X es tk) (hval : DE X value tv) (hd : (x == ("__debug__" : Str)) = false := by decide) (hcd : (x == ("__classdict__" : Str)) = false := by decide)
    (hs' : swapsWith value (some (.Subscript (.Name x px) (.Tuple es kt pt) pos')) pos.line X.env = pure false := by rfl) :
    DS X (.Assign [.Subscript (.Name x px) (.Tuple es kt pt) pos'] value pos) (tdPutT i tk tv) := by
  obtain ⟨pk', hk, qk⟩ := hk.ex
  obtain ⟨pv', hval, qv⟩ := hval.ex
  refine ⟨_, ps_dput hu (pe_var hN hv hd hcd) (pe_tup hk) hval hs', fun C σ H ρ q Q E h k => ?_⟩
  refine qv C σ H ρ _ _ E h fun v H1 d ρ1 E1 s1 D1 h1 => ?_
  split at h1
  · rename_i a0 c0 e0
    obtain ⟨hw, _⟩ := E1.dic_at e0
    refine ⟨_, hw, qk C σ H1 ρ1 _ _ E1 h1 fun vs H2 ds ρ2 E2 s2 D2 h2 => ?_⟩
    split at h2
    · rename_i a1 kvs e1
      obtain ⟨hz, ks, rfl, hlt, h2⟩ := h2
      obtain ⟨e2, kvV, e3, e4, e5⟩ := E2.dic_at e1
      rw [hw] at e2
      cases e2
      cases DpAll.keys D2
      refine ⟨by rw [DpAll.length D2]; exact hz, fun p hp => ?_⟩
      have l3 : Le H2 (upd H2 p (.tup (ks.map kV))) := .upd hp
      have E3 := E2.le l3
      have e3' : upd H2 p (.tup (ks.map kV)) a0 = some (.dT kvV) := l3 _ _ e3
      have hl : kvV.length = kvs.length := by have := congrArg List.length e4; simpa using this
      refine ⟨a0, _, rfl, DPut.t e3' upd_same (by omega), ?_⟩
      have Dv : Dp X.K (hide (hs C ρ2) (upd H2 p (.tup (ks.map kV)))) v d := Dp.le (hide_le l3) (BV.step D1 s2)
      obtain ⟨r1, r2⟩ := putD_rel e4 (DpAll.le (hide_le (as := hs C ρ2) l3) e5) ks Dv
      obtain ⟨E4, s4⟩ := E3.wrX (o := .dT (putK kvV ks v)) (y := .dic a0 (.T (putD kvs ks d))) e1 rfl rfl fun w s => by
        cases w with
        | none => cases s
        | some w => obtain ⟨z1, _, z3⟩ := s; exact ⟨z1, ⟨_, upd_same, r1, r2⟩, z3⟩
      exact k.nx σ _ _ E4 ((s1.trans (s2.trans (.le l3))).trans s4) h2
    · exact h2.elim
  · exact h1.elim
/-- name, name = value, {} (a dict with tuples as keys) -/
def tdParSD (i j : Nat) (ta : TDE) : TDS := fun q ρ => ta ρ fun x ρ1 => ∀ m, m ∉ owns ρ1 → q.nx ((ρ1.set j (.dic m (.T []))).set i (.sh x))
theorem ds_parSD {i j : Nat} {x y : Str} {px py pt pd : Pos} {kt k2 pt2} (hc : X.calm = true) (hN : X.N.Nodup) (hi : X.N[i]? = some x) (hj : X.N[j]? = some y) (hij : i ≠ j)
    (hx : X.env.scope.names.lookup x = some .local) (hy : X.env.scope.names.lookup y = some .local) (ha : DE X a ta)
    (hw : swappedStores [.Tuple [.Name x px, .Name y py] kt pt] (.Tuple [a, .Dict [] [] pd] k2 pt2) X.env = pure (some [x, y]))
    (h1 : starEach [a, .Dict [] [] pd] X.env = (false, eval a X.env) :: starEach [.Dict [] [] pd] X.env := by rfl) (h2 : starEach [.Dict [] [] pd] X.env = (false, eval (.Dict [] [] pd) X.env) :: starEach [] X.env := by rfl)
    (hs' : swapsWithSole [.Tuple [.Name x px, .Name y py] kt pt] (.Tuple [a, .Dict [] [] pd] k2 pt2) pos.line X.env = pure false := by rfl) :
    DS X (.Assign [.Tuple [.Name x px, .Name y py] kt pt] (.Tuple [a, .Dict [] [] pd] k2 pt2) pos) (tdParSD i j ta) := by
  obtain ⟨pa, ha, qa⟩ := ha.ex
  refine ⟨_, ps_par hc hN hi hj hij hx hy (pa_cons ha (pa_cons pe_dnewT pa_nil h2) h1) hw hs', fun C σ H ρ q Q E h k => ?_⟩
  refine qa C σ H ρ _ _ E h fun v H1 d ρ1 E1 s1 D1 h1 m hm => ⟨v, .ref m, rfl, ?_⟩
  have hcm : m ∉ C.ex := fun z => by obtain ⟨o, e, _⟩ := E1.exd m z; rw [hm] at e; cases e
  have mo : m ∉ owns ρ1 := fun z => by obtain ⟨o, e, _⟩ := E1.own_some z; rw [hm] at e; cases e
  have E2 : EnvD (C.with m) X.K (upd H1 m (.dT [])) σ ρ1 := E1.with_fresh hm
  have E3 := E2.ownX (i := j) (v := .ref m) (x := .dic m (.T [])) rfl hcm ⟨rfl, ⟨[], upd_same, rfl, .nil⟩, E1.fresh0 hm⟩
  have st : Step C ρ1 H1 (ρ1.set j (.dic m (.T []))) (upd H1 m (.dT [])) := ⟨fun b o n z => Le.upd hm b o z, fun b o z => ⟨o, Le.upd hm b o z⟩, fun b z => by
    rcases owns_set_any (show Slot.addr (.dic m (.T [])) = some m from rfl) z with z | z
    · subst z; exact .inr hm
    · exact .inl z⟩
  have E4 := E3.sh (i := i) (v := v) (d := d) (Dp.le st.vis D1)
  rw [List.set_comm _ _ hij] 
  exact k.nx _ _ _ E4 ((s1.trans st).trans (Step.put (by rfl))) (h1 m mo)
/-- sorted(d.keys()), the keys pairs of ints -/
def pD (p : Int × Int) : PyData := .tuple [.int p.1, .int p.2]
def tdSortKeys (i : Nat) : TDA := fun ρ q => match ρ[i]? with
  | some (.dic _ (.T kvs)) => ∃ ks : List (Int × Int), kvs.map (·.1) = ks.map pk ∧ ∀ ys : List (Int × Int), ys.Perm ks → ys.Pairwise lexLe → q (ys.map pD) ρ
  | _ => False
theorem df_sortKeys {i : Nat} {x : Str} {p px apos cpos : Pos} (hc : X.calm = true) (hN : X.N[i]? = some x) (hv : Vis X.env.scope x) (hg : Gl X "sorted") (hm : X.mg "sorted" = none) (hd : (x == ("__debug__" : Str)) = false := by decide) (hcd : (x == ("__classdict__" : Str)) = false := by decide)
    (hbase : attributeBase (.Name x px) "keys" X.env (eval (.Name x px) X.env) = eval (.Name x px) X.env := by rfl) (hline : (apos.endLine == cpos.line) = true := by rfl)
    (he : starEach [.Call (.Attribute (.Name x px) "keys" apos) [] [] cpos] X.env = (false, eval (.Call (.Attribute (.Name x px) "keys" apos) [] [] cpos) X.env) :: starEach [] X.env := by rfl) (hpl : (backTo pos (starEach [] X.env)).any (·.1) = false := by rfl) :
    DF X (.Call (.Name "sorted" p) [.Call (.Attribute (.Name x px) "keys" apos) [] [] cpos] [] pos) (tdSortKeys i) := by
  refine ⟨_, pe_callB (cr_sortedKeysT hc) hg hm (by decide +kernel) (pa_cons (pe_bm0 PySem.F.plainAttrs_dict PySem.F.slot_dict_keys PySem.F.type_dict_keys mt_keysT (pe_var hN hv hd hcd) hbase hline) pa_nil he) (by decide) (by decide) he hpl, fun C σ H ρ q Q E h k => ?_⟩
  unfold tdSortKeys at h
  split at h
  · rename_i a kvs e0
    obtain ⟨ks, hks, h⟩ := h
    obtain ⟨hw, kvV, e3, e4, e5⟩ := E.dic_at e0
    refine ⟨_, hw, .inr (.inr (.inl ⟨rfl, .inr ⟨_, e3⟩⟩)), a, kvV, rfl, rfl, e3, fun v hv' => ?_⟩
    have l1 : Le H (upd H v (keysO v a)) := .upd hv'
    refine ⟨v, a, kvV, ks, rfl, upd_same, l1 _ _ e3, e4.trans hks, fun bs l h1 h2 h3 hl => ?_⟩
    have E1 := E.le l1
    refine k l _ _ ((bs.map (·.2)).map pD) ρ (E1.with_fresh hl) ((Step.le l1).trans (.le (.upd hl))) ((Step.le (ρ := ρ) (C := C) l1).free hl) upd_same ?_ (h _ h1 (by rw [List.pairwise_map]; exact h2))
    have all : ∀ bs : List (Addr × Int × Int), (∀ z ∈ bs, upd H v (keysO v a) z.1 = some (.tup [.int z.2.1, .int z.2.2])) → ∀ o : HO, DpAll X.K (hide (hs (C.with l) ρ) (upd (upd H v (keysO v a)) l o)) (bs.map fun z => V.ref z.1) ((bs.map (·.2)).map pD) := by
      intro bs
      induction bs with
      | nil => intro _ o; exact .nil
      | cons z bs ih =>
        intro hz o
        have hz1 := hz z List.mem_cons_self
        have nl : z.1 ≠ l := ne_of_none hz1 hl
        have nh : z.1 ∉ hs (C.with l) ρ := fun y => by
          rcases List.mem_cons.mp y with y | y
          · exact nl y
          · obtain ⟨o', e', nt⟩ := E1.hid y
            rw [hz1] at e'
            cases e'
            exact nt _ rfl
        refine .cons (.tup ((by rw [hide_out nh, upd_ne nl]; exact hz1)) (.cons (.int _) (.cons (.int _) .nil))) (ih (fun y hy => hz y (List.mem_cons_of_mem _ hy)) o)
    exact all bs h3 _
  · exact h.elim
end
end DL
/-! DL: short words. -/
namespace DL
open PySem PySem.Spec PyProof.Rows L2
section
variable {X : Cx} {e a b c tg iter : Expr} {es : List Expr} {pos : Pos} {t ta tb tc : TDE}
theorem dv (i : Nat) {x : Str} (hN : X.N[i]? = some x := by rfl) (hv : Vis X.env.scope x := by first | exact Or.inl rfl | exact Or.inr (Or.inl rfl) | exact Or.inr (Or.inr rfl)) (hd : (x == ("__debug__" : Str)) = false := by decide) (hcd : (x == ("__classdict__" : Str)) = false := by decide) :
    DE X (.Name x pos) (tdSh i) := de_var hN hv hd hcd
theorem dbv (i : Nat) {x : Str} (hN : X.N[i]? = some x := by rfl) (hv : Vis X.env.scope x := by first | exact Or.inl rfl | exact Or.inr (Or.inl rfl) | exact Or.inr (Or.inr rfl)) (hd : (x == ("__debug__" : Str)) = false := by decide) (hcd : (x == ("__classdict__" : Str)) = false := by decide) :
    DB X (.Name x pos) (tdLent i) := db_var hN hv hd hcd
theorem dgn (i : Nat) {x : Str} (hN : X.N.Nodup) (hi : X.N[i]? = some x := by rfl) (hx : Loc X.env.scope x := by first | exact Or.inl rfl | exact Or.inr rfl) (hf : X.fn x = true ∨ X.env.scope.names.lookup x = some .local := by first | exact .inl rfl | exact .inr rfl) :
    DG X (.Name x pos) (gdName i) [i] := dg_name hN hi hx hf
theorem dset (i : Nat) {x : Str} {pos' : Pos} (hN : X.N.Nodup) (he : DE X e t) (hi : X.N[i]? = some x := by rfl) (hx : Loc X.env.scope x := by first | exact Or.inl rfl | exact Or.inr rfl) (hs' : swapsWith e (some (.Name x pos')) pos.line X.env = pure false := by rfl) (hf : X.fn x = true ∨ X.env.scope.names.lookup x = some .local := by first | exact .inl rfl | exact .inr rfl) :
    DS X (.Assign [.Name x pos'] e pos) (tdSet i t) := ds_set hN hi hx he hs' hf
theorem down (i : Nat) {x : Str} {pos' : Pos} {t : TDA} (hN : X.N.Nodup) (he : DF X e t) (hi : X.N[i]? = some x := by rfl) (hx : Loc X.env.scope x := by first | exact Or.inl rfl | exact Or.inr rfl) (hs' : swapsWith e (some (.Name x pos')) pos.line X.env = pure false := by rfl) (hf : X.fn x = true ∨ X.env.scope.names.lookup x = some .local := by first | exact .inl rfl | exact .inr rfl) :
    DS X (.Assign [.Name x pos'] e pos) (tdOwn i t) := ds_own hN hi hx he hs' hf
theorem daug (i : Nat) {x : Str} {op : Operator} {rd : RD2} {pos' : Pos} (hN : X.N.Nodup) (he : DE X e t) (ho : LOp X (inplaceOp op) rd) (hi : X.N[i]? = some x := by rfl) (hx : Loc X.env.scope x := by first | exact Or.inl rfl | exact Or.inr rfl) (hf : X.fn x = true ∨ X.env.scope.names.lookup x = some .local := by first | exact .inl rfl | exact .inr rfl) :
    DS X (.AugAssign (.Name x pos') op e pos) (tdAug i t rd) := ds_aug hN hi hx he ho hf
theorem daugsub (i : Nat) {x : Str} {px tpos : Pos} {k : Expr} {tk te : TDE} {op : Operator} {rd : RD2} (hk : DE X k tk) (he : DE X e te) (ho : LOp X (inplaceOp op) rd) (hN : X.N[i]? = some x := by rfl) (hv : Vis X.env.scope x := by first | exact Or.inl rfl | exact Or.inr (Or.inl rfl) | exact Or.inr (Or.inr rfl)) (hd : (x == ("__debug__" : Str)) = false := by decide) (hcd : (x == ("__classdict__" : Str)) = false := by decide)
    (ha : ∀ ov iv new, augStore k ov iv new = (do holding [new, ov, iv] (setItem ov iv new); release [new, ov, iv] []; pure .next) := by intros; rfl) :
    DS X (.AugAssign (.Subscript (.Name x px) k tpos) op e pos) (tdAugSub i tk te rd) := ds_augsub hN hv hk he ho hd hcd ha
theorem dgsub (i : Nat) {x : Str} {px : Pos} {k : Expr} {tk : TDE} (hk : DE X k tk) (hN : X.N[i]? = some x := by rfl) (hv : Vis X.env.scope x := by first | exact Or.inl rfl | exact Or.inr (Or.inl rfl) | exact Or.inr (Or.inr rfl)) (hd : (x == ("__debug__" : Str)) = false := by decide) (hcd : (x == ("__classdict__" : Str)) = false := by decide)
    (ha : ∀ v, assign (.Subscript (.Name x px) k pos) X.env v = (do
      let ov ← holding [v] (eval (.Name x px) X.env)
      let iv ← holding [v, ov] (eval k X.env)
      standAt pos
      holding [v, ov, iv] (setItem ov iv v)
      release [v, ov, iv] []) := by intro _; rfl) : DG X (.Subscript (.Name x px) k pos) (gdSub i tk) [] := dg_sub hN hv hk hd hcd ha
/-! ### own defs -/
/-- a def of the text as the top leaves it -/
structure Def (K : PySem.W.Frag) (mg : Str → Option Value) (x : Str) (st : Stmt) (ps : List Str) : Prop where
  ex : ∃ (f : Addr) (fd : FuncData), Fun K x x st f fd ∧ mg x = some (.ref f) ∧ Binds K fd ps []
/-- .. and what it promises -/
structure Fn (P : Program) (w : World) (K : PySem.W.Frag) (mg : Str → Option Value) (base : Heap) (k : Nat) (x : Str) (sp : Sp) : Prop where
  ex : ∃ (f : Addr) (fd : FuncData) (ps : List Str), FnOk P w K mg base CX0 k f fd ps sp ∧ mg x = some (.ref f) ∧ PySem.W.keepIn K (.ref f) = true ∧ Binds K fd ps []
theorem Fn.mono {P : Program} {w : World} {K : PySem.W.Frag} {mg : Str → Option Value} {base : Heap} {j k : Nat} {x : Str} {sp : Sp} (F : Fn P w K mg base j x sp) (h : j ≤ k) : Fn P w K mg base k x sp := by
  obtain ⟨f, fd, ps, h1, h2⟩ := F.ex
  exact ⟨f, fd, ps, h1.mono h, h2⟩
/-- from its body's derivation and the reading of it -/
theorem defD {P : Program} {w : World} {K : PySem.W.Frag} {mg : Str → Option Value} {base : Heap} {x : Str} {st : Stmt} {N ps : List Str} {k : Nat} {sd : SD} {u : TDS} (D : Def K mg x st ps) (S : FnScope N ps (defScope st)) (hn : ps.length ≤ N.length)
    (hbody : ∀ (f : Addr) (cdv : Value) (A : Around) (outer : List Env) (s : Shared) (H : Hp) (E : XK), Room k (A.deeper (envOfC x (defScope st) s.heap.objs.size f cdv)) →
      DSs (cxOf CX0 P w K mg base N x (defScope st) f cdv A outer s H E).nox (defBody st) u)
    (hr : ∀ ds q, ds.length = ps.length → sd ds q → u { nx := fun _ => q .none, rt := fun d _ => q d } (ds.map Slot.sh ++ List.replicate (N.length - ds.length) Slot.un)) :
    Fn P w K mg base (k + 1) x (spD K ps.length sd) := by
  obtain ⟨f, fd, F, hm, hb⟩ := D.ex
  exact ⟨f, fd, ps, fnD F S hn (fun cdv A outer s H E hr => hbody f cdv A outer s H E hr) hr, hm, F.kp, hb⟩
theorem defR {P : Program} {w : World} {K : PySem.W.Frag} {mg : Str → Option Value} {base : Heap} {x : Str} {st : Stmt} {N ps : List Str} {k n : Nat} {sd : SD} {u : TDS} (D : Def K mg x st ps) (S : FnScope N ps (defScope st)) (hp : ps.length = n + 1) (hn : ps.length ≤ N.length)
    (hbody : ∀ (f : Addr) (cdv : Value) (A : Around) (outer : List Env) (s : Shared) (H : Hp) (E : XK), Room k (A.deeper (envOfC x (defScope st) s.heap.objs.size f cdv)) →
      DSs (cxOf CX0 P w K mg base N x (defScope st) f cdv A outer s H E).nox (defBody st) u)
    (hr : ∀ ds q, ds.length = n → sd ds q → u { nx := fun _ => q .none, rt := fun d _ => q d } (Slot.row :: (ds.map Slot.sh ++ List.replicate (N.length - (ds.length + 1)) Slot.un))) :
    Fn P w K mg base (k + 1) x (spR K n sd) := by
  obtain ⟨f, fd, F, hm, hb⟩ := D.ex
  exact ⟨f, fd, ps, fnR F S hp hn (fun cdv A outer s H E hr => hbody f cdv A outer s H E hr) hr, hm, F.kp, hb⟩
/-- f(e, ..) -/
def tdCall (n : Nat) (sd : SD) (ts : TDA) : TDE := fun ρ q => ts ρ fun ds ρ1 => ds.length = n ∧ sd ds fun d => q d ρ1
theorem dcall {k j n : Nat} {sd : SD} {x : Str} {p : Pos} {ts : TDA} (F : Fn X.prog X.w X.K X.mg X.base k x (spD X.K n sd)) (hr : Room j X.A) (ha : DA X (e :: es) ts) (hkj : k ≤ j := by decide) (hg : Gl X x := by rfl)
    (hdb : (x == ("__debug__" : Str)) = false := by decide) (he : starEach (e :: es) X.env = (false, eval e X.env) :: starEach es X.env := by rfl) (hpl : (backTo pos (starEach es X.env)).any (·.1) = false := by rfl) :
    DE X (.Call (.Name x p) (e :: es) [] pos) (tdCall n sd ts) := by
  obtain ⟨f, fd, ps, h1, h2, h3, h4⟩ := F.ex
  exact de_call h1 (hr.mono hkj) hg h2 h3 h4 ha hdb he hpl
theorem dcallR (i : Nat) {k j n : Nat} {sd : SD} {x y : Str} {p p2 : Pos} {ts : TDA} (F : Fn X.prog X.w X.K X.mg X.base k x (spR X.K n sd)) (hr : Room j X.A) (ha : DA X es ts) (hkj : k ≤ j := by decide) (hg : Gl X x := by rfl)
    (hN : X.N[i]? = some y := by rfl) (hv : Vis X.env.scope y := by first | exact Or.inl rfl | exact Or.inr (Or.inl rfl) | exact Or.inr (Or.inr rfl)) (hd : (y == ("__debug__" : Str)) = false := by decide) (hcd : (y == ("__classdict__" : Str)) = false := by decide)
    (hdb : (x == ("__debug__" : Str)) = false := by decide) (he : starEach (.Name y p2 :: es) X.env = (false, eval (.Name y p2) X.env) :: starEach es X.env := by rfl) (hpl : (backTo pos (starEach es X.env)).any (·.1) = false := by rfl) :
    DE X (.Call (.Name x p) (.Name y p2 :: es) [] pos) (tdCallR i n sd ts) := by
  obtain ⟨f, fd, ps, h1, h2, h3, h4⟩ := F.ex
  exact de_callR h1 (hr.mono hkj) hg h2 h3 h4 hN hv ha hd hcd hdb he hpl
end
end DL
namespace DL
open PySem PySem.Spec PyProof.Rows L2
section
variable {X : Cx} {e a b c tg iter : Expr} {es : List Expr} {pos : Pos} {t ta tb tc : TDE}
theorem de_globI {x : Str} {i : Int} (hg : Gl X x) (h : ∃ u, X.mg x = some u ∧ RelV (.int i) u) (hdb : (x == ("__debug__" : Str)) = false := by decide) : DE X (.Name x pos) (tdC (.int i)) := by
  obtain ⟨u, h1, h2⟩ := h
  exact de_glob hg h1 h2 (fun _ => .int i) hdb
/-- name, name = value, new list of one's own -/
def tdParSO (i j : Nat) (ta : TDE) (tb : TDA) : TDS := fun q ρ => ta ρ fun x ρ1 => tb ρ1 fun ds ρ2 => ∀ m, m ∉ owns ρ2 → q.nx ((ρ2.set j (.own m ds)).set i (.sh x))
theorem ds_parSO {i j : Nat} {x y : Str} {px py pt : Pos} {kt k2 pt2} {tb : TDA} (hc : X.calm = true) (hN : X.N.Nodup) (hi : X.N[i]? = some x) (hj : X.N[j]? = some y) (hij : i ≠ j)
    (hx : X.env.scope.names.lookup x = some .local) (hy : X.env.scope.names.lookup y = some .local) (ha : DE X a ta) (hb : DF X b tb)
    (hw : swappedStores [.Tuple [.Name x px, .Name y py] kt pt] (.Tuple [a, b] k2 pt2) X.env = pure (some [x, y]))
    (h1 : starEach [a, b] X.env = (false, eval a X.env) :: starEach [b] X.env := by rfl) (h2 : starEach [b] X.env = (false, eval b X.env) :: starEach [] X.env := by rfl)
    (hs' : swapsWithSole [.Tuple [.Name x px, .Name y py] kt pt] (.Tuple [a, b] k2 pt2) pos.line X.env = pure false := by rfl) :
    DS X (.Assign [.Tuple [.Name x px, .Name y py] kt pt] (.Tuple [a, b] k2 pt2) pos) (tdParSO i j ta tb) := by
  obtain ⟨pa, ha, qa⟩ := ha.ex
  obtain ⟨pb, hb, qb⟩ := hb.ex
  refine ⟨_, ps_par hc hN hi hj hij hx hy (pa_cons ha (pa_cons hb pa_nil h2) h1) hw hs', fun C σ H ρ q Q E h k => ?_⟩
  refine qa C σ H ρ _ _ E h fun v H1 d ρ1 E1 s1 D1 h1 => ?_
  refine qb C σ H1 ρ1 _ _ E1 h1 fun m ws H2 ds ρ2 E2 s2 hm hm2 D2 h2 => ⟨v, .ref m, rfl, ?_⟩
  have hcm : m ∉ C.ex := fun z => by obtain ⟨o, e, _⟩ := E1.exd m z; rw [hm] at e; cases e
  have mo : m ∉ owns ρ2 := fun z => (E2.dj m z).1 List.mem_cons_self
  have E3 := E2.own (i := j) hm2 (E1.fresh0 hm) hcm D2
  have st : Step C ρ1 H1 (ρ2.set j (.own m ds)) H2 := ⟨s2.keep, s2.dom, fun b z => by
    rcases owns_set_own z with z | z
    · subst z; exact .inr hm
    · exact s2.new b z⟩
  have E4 := E3.sh (i := i) (v := v) (d := d) (Dp.le st.vis D1)
  rw [List.set_comm _ _ hij]
  exact k.nx _ _ _ E4 ((s1.trans st).trans (Step.put (by rfl))) (h2 m mo)
/-- a, b, c = value, new list of one's own, value: stored one after another from the tuple -/
def tdAsgSOS (i j l : Nat) (ta : TDE) (tb : TDA) (tc : TDE) : TDS := fun q ρ => ta ρ fun x ρ1 => tb ρ1 fun ds ρ2 => tc ρ2 fun z ρ3 => ∀ m, m ∉ owns ρ3 → q.nx (((ρ3.set i (.sh x)).set j (.own m ds)).set l (.sh z))
theorem Step.put' {C : Ctx} {ρ : DEnv} {H : Hp} {i : Nat} {d : PyData} : Step C ρ H (ρ.set i (.sh d)) H := Step.put (by rfl)
end
end DL
/-! DL: loops by what is left; the def that takes from the row, the law itself. -/
namespace DL
open PySem PySem.Spec PyProof.Rows L2
section
variable {X : Cx} {e a b c tg iter : Expr} {es : List Expr} {pos : Pos} {t ta tb tc : TDE}
theorem wFor_ind {g : TDG} {body : TDS} {q : DEnds} (I : List PyData → DEnv → Prop) (h0 : ∀ ρ, I [] ρ → q.nx ρ)
    (hs' : ∀ d ds ρ (k : DEnv → Prop), I (d :: ds) ρ → (∀ ρ', I ds ρ' → k ρ') → g d ρ fun ρ1 => body { q with nx := k, ct := k, bk := q.nx } ρ1) :
    ∀ (ds : List PyData) (ρ : DEnv), I ds ρ → wFor g body q ds ρ
  | [], ρ, h => h0 ρ h
  | d :: ds, ρ, h => hs' d ds ρ _ h fun ρ' h' => wFor_ind I h0 hs' ds ρ' h'
theorem wLc_ind {g : TDG} {tt : TDT} {te : TDE} {vs : List Nat} {q : List PyData → Prop} {ρ0 : DEnv} (I : List PyData → List PyData → Prop) (h0 : ∀ acc, I [] acc → q acc)
    (hs' : ∀ d ds acc (k : List PyData → Prop), I (d :: ds) acc → (∀ acc', I ds acc' → k acc') → g d ρ0 fun ρ1 => wipeD ρ1 vs = ρ0 ∧ tt ρ1 fun b ρ2 => ρ2 = ρ1 ∧
      if b = true then te ρ1 fun y ρ3 => ρ3 = ρ1 ∧ acc.length < sizeLine ∧ k (acc ++ [y]) else k acc) :
    ∀ (ds acc : List PyData), I ds acc → wLc g tt te vs q ρ0 ds acc
  | [], acc, h => h0 acc h
  | d :: ds, acc, h => hs' d ds acc _ h fun acc' h' => wLc_ind I h0 hs' ds acc' h'
/-- the new list as a filter and a map, over what the items are made of -/
theorem wLc_map {α : Type} {g : TDG} {tt : TDT} {te : TDE} {vs : List Nat} {q : List PyData → Prop} {ρ0 : DEnv} (f : α → PyData) (p : α → Bool) (hh : α → PyData) (xs : List α) (hn : xs.length < sizeLine)
    (hs' : ∀ x, x ∈ xs → ∀ (k1 : PyData → Prop) (k2 : Prop), (p x = true → k1 (hh x)) → (p x = false → k2) → g (f x) ρ0 fun ρ1 => wipeD ρ1 vs = ρ0 ∧ tt ρ1 fun b ρ2 => ρ2 = ρ1 ∧
      if b = true then te ρ1 fun y ρ3 => ρ3 = ρ1 ∧ k1 y else k2)
    (h0 : q ((xs.filter p).map hh)) : wLc g tt te vs q ρ0 (xs.map f) [] := by
  have all : ∀ (ys : List α) (acc : List PyData), (∀ y ∈ ys, y ∈ xs) → acc.length + ys.length < sizeLine → q (acc ++ (ys.filter p).map hh) → wLc g tt te vs q ρ0 (ys.map f) acc := by
    intro ys
    induction ys with
    | nil => intro acc _ _ h; show q acc; simpa using h
    | cons y ys ih =>
      intro acc hm hl h
      simp only [List.length_cons] at hl
      refine hs' y (hm y List.mem_cons_self) (fun y => acc.length < sizeLine ∧ wLc g tt te vs q ρ0 (ys.map f) (acc ++ [y])) (wLc g tt te vs q ρ0 (ys.map f) acc) (fun hp => ⟨by omega, ?_⟩) fun hp => ?_
      · refine ih _ (fun z hz => hm z (List.mem_cons_of_mem _ hz)) (by simp; omega) ?_
        rw [List.filter_cons_of_pos hp, List.map_cons] at h
        simpa using h
      · refine ih _ (fun z hz => hm z (List.mem_cons_of_mem _ hz)) (by omega) ?_
        rw [List.filter_cons_of_neg (by simp [hp])] at h
        exact h
  exact all xs [] (fun _ h => h) (by simpa using hn) (by simpa using h0)
/-! ### the def that takes from the row: within it, the row is a list of its own -/
def rowD (ns : List Int) (i s b : Int) : List PyData := [.list (ns.map .int), .int i, .int s, .int b]
theorem fnT {P : Program} {w : World} {K : PySem.W.Frag} {mg : Str → Option Value} {base : Heap} {x qual : Str} {st : Stmt} {f : Addr} {fd : FuncData} {N ps : List Str} {k n : Nat} {sd : SD} {u : TDS} (F : Fun K x qual st f fd) (S : FnScope N ps (defScope st)) (hp : ps.length = n + 1) (hn : ps.length ≤ N.length)
    (hbody : ∀ (cdv : Value) (A : Around) (outer : List Env) (s : Shared) (H : Hp) (E : XK), Room k (A.deeper (envOfC qual (defScope st) s.heap.objs.size f cdv)) →
      DSs (cxOf CX0 P w K mg base N qual (defScope st) f cdv A outer s H E).nox (defBody st) u)
    (hr : ∀ r ds q ns i s b, ds.length = n → sd ds q → 0 ≤ i → 0 ≤ s → s < 2147483647 → 0 ≤ b →
      u { nx := fun _ => False, rt := fun d ρ => q d ∧ ∃ i s b, ρ[0]? = some (.own r (rowD ns i s b)) ∧ 0 ≤ i ∧ 0 ≤ s ∧ s < 2147483647 ∧ 0 ≤ b } (Slot.own r (rowD ns i s b) :: (ds.map Slot.sh ++ List.replicate (N.length - (ds.length + 1)) Slot.un))) :
    FnOk P w K mg base CX0 (k + 1) f fd ps (spR K n sd) := by
  refine F.ok S (fun vs H Q E h => h.1.trans hp.symm) fun cdv A outer s H vs Q E hrm h => ?_
  obtain ⟨hl, r, ws, as, ds, q0, rfl, hra, ex, R, D, w', fin⟩ := h
  obtain ⟨ts, hpp, hq⟩ := (hbody cdv A outer s H E hrm).ex
  refine ⟨ts, hpp, ?_⟩
  have hlw : ws.length = n := by simpa using hl
  have hld : ds.length = n := (DpAll.length D).symm.trans hlw
  obtain ⟨sc, ns, i, sd', b, hH, hSq, hi, hs0, hs1, hb⟩ := id R
  have E0 := start_envR (N := N) hra ex R D (by omega)
  have ho0 : owns (Slot.row :: (ds.map Slot.sh ++ List.replicate (N.length - (ds.length + 1)) Slot.un)) = [] := by
    apply List.eq_nil_iff_forall_not_mem.mpr
    intro a h
    obtain ⟨i, x, e, hx⟩ := mem_owns.mp h
    cases i with
    | zero => cases e; cases hx
    | succ i =>
      simp only [List.getElem?_cons_succ] at e
      rw [List.getElem?_append] at e
      split at e
      · rw [List.getElem?_map] at e
        cases q : ds[i]? with
        | none => rw [q] at e; cases e
        | some d => rw [q] at e; cases e; cases hx
      · rw [List.getElem?_replicate] at e
        split at e
        · cases e; cases hx
        · cases e
  have ho1 : owns (Slot.own r (rowD ns i sd' b) :: (ds.map Slot.sh ++ List.replicate (N.length - (ds.length + 1)) Slot.un)) = [r] := by
    have : owns (Slot.own r (rowD ns i sd' b) :: (ds.map Slot.sh ++ List.replicate (N.length - (ds.length + 1)) Slot.un)) = r :: owns (ds.map Slot.sh ++ List.replicate (N.length - (ds.length + 1)) Slot.un) := rfl
    rw [this]
    have : owns (ds.map Slot.sh ++ List.replicate (N.length - (ds.length + 1)) Slot.un) = [] := ho0
    rw [this]
  have hh0 : hs ⟨H, as, [r]⟩ (Slot.row :: (ds.map Slot.sh ++ List.replicate (N.length - (ds.length + 1)) Slot.un)) = as ++ [r] := by unfold hs mu; rw [ho0]; simp
  have hh1 : hs ⟨hide [r] H, as, []⟩ (Slot.own r (rowD ns i sd' b) :: (ds.map Slot.sh ++ List.replicate (N.length - (ds.length + 1)) Slot.un)) = as ++ [r] := by unfold hs mu; rw [ho1]; simp
  have E1 : EnvD ⟨hide [r] H, as, []⟩ K H (L2.start N (.ref r :: ws)) (Slot.own r (rowD ns i sd' b) :: (ds.map Slot.sh ++ List.replicate (N.length - (ds.length + 1)) Slot.un)) := by
    refine ⟨E0.len, fun j x e => ?_, by rw [ho1]; simp, fun a h => ?_, fun a h => (nomatch h), ex, fun a h => (nomatch h), fun b o e _ => (hide_some e).2⟩
    · rw [hh1]
      cases j with
      | zero =>
        cases e
        refine ⟨some (.ref r), rfl, rfl, ⟨_, hH, .cons (.lst hSq (DpAll.of_ints _)) (.cons (.int _) (.cons (.int _) (.cons (.int _) .nil)))⟩, hide_in (by simp)⟩
      | succ j =>
        obtain ⟨v, e1, s1⟩ := E0.slots (j + 1) x e
        rw [hh0] at s1
        refine ⟨v, e1, ?_⟩
        cases v with
        | none => cases x <;> first | exact trivial | exact s1
        | some v => cases x with
          | un => exact trivial
          | sh d => exact s1
          | own a ds' =>
            exfalso
            have : a ∈ owns (Slot.row :: (ds.map Slot.sh ++ List.replicate (N.length - (ds.length + 1)) Slot.un)) := mem_owns.mpr ⟨j + 1, _, e, rfl⟩
            rw [ho0] at this; cases this
          | dic a c =>
            exfalso
            have : a ∈ owns (Slot.row :: (ds.map Slot.sh ++ List.replicate (N.length - (ds.length + 1)) Slot.un)) := mem_owns.mpr ⟨j + 1, _, e, rfl⟩
            rw [ho0] at this; cases this
          | mem a f ks =>
            exfalso
            have : a ∈ owns (Slot.row :: (ds.map Slot.sh ++ List.replicate (N.length - (ds.length + 1)) Slot.un)) := mem_owns.mpr ⟨j + 1, _, e, rfl⟩
            rw [ho0] at this; cases this
          | row =>
            exfalso
            simp only [List.getElem?_cons_succ] at e
            rw [List.getElem?_append] at e
            split at e
            · rw [List.getElem?_map] at e
              cases q : ds[j]? with
              | none => rw [q] at e; cases e
              | some d => rw [q] at e; cases e
            · rw [List.getElem?_replicate] at e
              split at e
              · cases e
              · cases e
    · rw [ho1] at h
      have : a = r := by simpa using h
      subst this
      exact ⟨hra, fun z => nomatch z⟩
  refine hq _ (L2.start N (.ref r :: ws)) H _ { nx := fun _ => False, rt := fun d ρ => q0 d ∧ ∃ i s b, ρ[0]? = some (.own r (rowD ns i s b)) ∧ 0 ≤ i ∧ 0 ≤ s ∧ s < 2147483647 ∧ 0 ≤ b } _ E1 (hr r ds q0 ns i sd' b hld w' hi hs0 hs1 hb) ⟨fun σ' H' ρ' E' s' z => z.elim, fun v σ' H' d ρ' E' s' D' z => ?_, fun _ _ _ _ _ z => z, fun _ _ _ _ _ z => z⟩
  obtain ⟨z, i', s'', b', e0, g1, g2, g3, g4⟩ := z
  have kp : ∀ b o, b ≠ r → H b = some o → H' b = some o := fun b o nb e => E'.keep b o (by show hide [r] H b = some o; rw [hide_out (by simpa using nb)]; exact e) (fun z => nomatch z)
  have sub : ∀ b, b ∈ as ++ [r] → b ∈ hs ⟨hide [r] H, as, []⟩ ρ' := fun b z => by
    rcases List.mem_append.mp z with z | z
    · exact List.mem_append_left _ z
    · have : b = r := by simpa using z
      subst this
      exact List.mem_append_right _ (List.mem_append_right _ (mem_owns.mpr ⟨0, _, e0, rfl⟩))
  refine fin d z v H' kp ?_ (Dp.le (hide_sub sub) D')
  obtain ⟨v0, e1, sl⟩ := E'.slots 0 _ e0
  cases v0 with
  | none => cases sl
  | some v0 =>
    obtain ⟨_, ⟨vs, hv, Dv⟩, _⟩ := sl
    unfold rowD at Dv
    cases Dv with
    | cons d1 r1 => cases r1 with
      | cons d2 r2 => cases r2 with
        | cons d3 r3 => cases r3 with
          | cons d4 r4 =>
            cases r4
            cases d1 with
            | lst sq al =>
              cases d2; cases d3; cases d4
              have := DpAll.ints al
              subst this
              exact ⟨_, ns, i', s'', b', hv, SqL.le (hide_sub sub) sq, g1, g2, g3, g4⟩
theorem defT {P : Program} {w : World} {K : PySem.W.Frag} {mg : Str → Option Value} {base : Heap} {x : Str} {st : Stmt} {N ps : List Str} {k n : Nat} {sd : SD} {u : TDS} (D : Def K mg x st ps) (S : FnScope N ps (defScope st)) (hp : ps.length = n + 1) (hn : ps.length ≤ N.length)
    (hbody : ∀ (f : Addr) (cdv : Value) (A : Around) (outer : List Env) (s : Shared) (H : Hp) (E : XK), Room k (A.deeper (envOfC x (defScope st) s.heap.objs.size f cdv)) →
      DSs (cxOf CX0 P w K mg base N x (defScope st) f cdv A outer s H E).nox (defBody st) u)
    (hr : ∀ r ds q ns i s b, ds.length = n → sd ds q → 0 ≤ i → 0 ≤ s → s < 2147483647 → 0 ≤ b →
      u { nx := fun _ => False, rt := fun d ρ => q d ∧ ∃ i s b, ρ[0]? = some (.own r (rowD ns i s b)) ∧ 0 ≤ i ∧ 0 ≤ s ∧ s < 2147483647 ∧ 0 ≤ b } (Slot.own r (rowD ns i s b) :: (ds.map Slot.sh ++ List.replicate (N.length - (ds.length + 1)) Slot.un))) :
    Fn P w K mg base (k + 1) x (spR K n sd) := by
  obtain ⟨f, fd, F, hm, hb⟩ := D.ex
  exact ⟨f, fd, ps, fnT F S hp hn (fun cdv A outer s H E hr => hbody f cdv A outer s H E hr) hr, hm, F.kp, hb⟩
/-! ### the law: its first statement makes the row -/
/-- behind the first statement -/
def LawRow (ns : List Int) (m : Nat) (u : TDS) : DEnv → Prop := fun ρ => ∃ a i s b, ρ = Slot.sh (.list (ns.map .int)) :: Slot.own a (rowD ns i s b) :: List.replicate m Slot.un ∧ (0 ≤ i ∧ 0 ≤ s ∧ s < 2147483647 ∧ 0 ≤ b) ∧
  u { nx := fun _ => False, rt := fun d _ => d = .bool true } (Slot.sh (.list (ns.map .int)) :: Slot.row :: List.replicate m Slot.un)
theorem owns_un (m : Nat) : owns (List.replicate m Slot.un) = [] := by
  induction m with
  | zero => rfl
  | succ m ih => exact ih
theorem fnL {P : Program} {w : World} {K : PySem.W.Frag} {mg : Str → Option Value} {base : Heap} {x qual : Str} {st s1 : Stmt} {rest : List Stmt} {f : Addr} {fd : FuncData} {N : List Str} {p : Str} {k m : Nat} {t : TDA} {u : TDS} (F : Fun K x qual st f fd) (S : FnScope N [p] (defScope st)) (hn : N.length = m + 2) (hst : defBody st = s1 :: rest)
    (hbody : ∀ (cdv : Value) (A : Around) (outer : List Env) (s : Shared) (H : Hp) (E : XK), Room k (A.deeper (envOfC qual (defScope st) s.heap.objs.size f cdv)) →
      DS (cxOf CX0 P w K mg base N qual (defScope st) f cdv A outer s H E).nox s1 (tdOwn 1 t) ∧ DSs (cxOf CX0 P w K mg base N qual (defScope st) f cdv A outer s H E).nox rest u)
    (hr : ∀ ns : List Int, ns.length ≤ 63 → tdOwn 1 t { nx := LawRow ns m u, rt := fun _ _ => False } (Slot.sh (.list (ns.map .int)) :: Slot.un :: List.replicate m Slot.un)) :
    FnOk P w K mg base CX0 (k + 1) f fd [p] (spD K 1 fun ds q => ∃ ns : List Int, ds = [.list (ns.map .int)] ∧ ns.length ≤ 63 ∧ q = fun d => d = .bool true) := by
  refine F.ok S (fun vs H Q E h => h.1) fun cdv A outer s H vs Q E hrm h => ?_
  obtain ⟨hl, as, ds, q0, ex, D, ⟨ns, rfl, hns, rfl⟩, fin⟩ := h
  obtain ⟨hb1, hb2⟩ := hbody cdv A outer s H E hrm
  obtain ⟨p1, h1, q1⟩ := hb1.ex
  obtain ⟨p2, h2, q2⟩ := hb2.ex
  rw [hst]
  refine ⟨_, pss_cons h1 h2, ?_⟩
  have E0 : EnvD ⟨H, as, []⟩ K H (start N vs) (Slot.sh (.list (ns.map .int)) :: Slot.un :: List.replicate m Slot.un) := by
    have := start_envD (N := N) ex D (by omega)
    have e : N.length - 1 = m + 1 := by omega
    simp only [List.map_cons, List.map_nil, List.length_cons, List.length_nil, Nat.zero_add, e] at this
    exact this
  refine q1 ⟨H, as, []⟩ (start N vs) H _ { nx := LawRow ns m u, rt := fun _ _ => False } _ E0 (hr ns hns) ⟨fun σ' H' ρ' E' s' z => ?_, fun _ _ _ _ _ _ _ _ z => z.elim, fun _ _ _ _ _ z => z, fun _ _ _ _ _ z => z⟩
  obtain ⟨a, i, s2, b, rfl, ⟨g1, g2, g3, g4⟩, hu⟩ := z
  have ho1 : owns (Slot.sh (.list (ns.map .int)) :: Slot.own a (rowD ns i s2 b) :: List.replicate m Slot.un) = [a] := congrArg (a :: ·) (owns_un m)
  have ho2 : owns (Slot.sh (.list (ns.map .int)) :: Slot.row :: List.replicate m Slot.un) = [] := owns_un m
  have hh1 : hs ⟨H, as, []⟩ (Slot.sh (.list (ns.map .int)) :: Slot.own a (rowD ns i s2 b) :: List.replicate m Slot.un) = as ++ [a] := by unfold hs mu; rw [ho1]; simp
  have hh2 : hs ⟨H, as, [a]⟩ (Slot.sh (.list (ns.map .int)) :: Slot.row :: List.replicate m Slot.un) = as ++ [a] := by unfold hs mu; rw [ho2]; simp
  have ha := E'.dj a (by rw [ho1]; simp)
  obtain ⟨v1, e1, sl1⟩ := E'.slots 1 _ rfl
  rw [hh1] at sl1
  have sl1' : v1 = some (.ref a) ∧ (∃ vs, H' a = some (.lst vs) ∧ DpAll K (hide (as ++ [a]) H') vs (rowD ns i s2 b)) ∧ H a = none := by
    cases v1 with
    | none => cases sl1
    | some v1 => obtain ⟨q1, q2, q3⟩ := sl1; exact ⟨by rw [q1], q2, q3⟩
  obtain ⟨rfl, ⟨vs', hv, Dv⟩, hHa⟩ := sl1'
  have E2 : EnvD ⟨H, as, [a]⟩ K H' σ' (Slot.sh (.list (ns.map .int)) :: Slot.row :: List.replicate m Slot.un) := by
    refine ⟨E'.len, fun j x e => ?_, by rw [ho2]; exact List.nodup_nil, fun b h => (by rw [ho2] at h; cases h), fun b h => ?_, E'.exd, fun b h => ?_, fun b o e nb => E'.keep b o e (fun z => nomatch z)⟩
    · rw [hh2]
      match j, e with
      | 0, e =>
        cases e
        obtain ⟨v, q1, q2⟩ := E'.slots 0 _ rfl
        rw [hh1] at q2
        refine ⟨v, q1, ?_⟩
        cases v with
        | none => exact q2
        | some v => exact q2
      | 1, e => cases e; exact ⟨_, e1, a, rfl, List.mem_cons_self⟩
      | j + 2, e =>
        obtain ⟨v, q1, q2⟩ := E'.slots (j + 2) x e
        simp only [List.getElem?_cons_succ, List.getElem?_replicate] at e
        split at e
        · cases e; exact ⟨v, q1, by cases v <;> exact trivial⟩
        · cases e
    · have : b = a := by simpa using h
      subst this; exact ha.1
    · have : b = a := by simpa using h
      subst this
      rw [hh2]
      unfold rowD at Dv
      cases Dv with
      | cons d1 r1 => cases r1 with
        | cons d2 r2 => cases r2 with
          | cons d3 r3 => cases r3 with
            | cons d4 r4 =>
              cases r4
              cases d1 with
              | lst sq al =>
                cases d2; cases d3; cases d4
                have := DpAll.ints al
                subst this
                exact ⟨_, ns, i, s2, _, hv, sq, g1, g2, g3, g4⟩
  refine q2 _ σ' H' _ _ _ E2 hu ⟨fun σ3 H3 ρ3 E3 s3 z => z.elim, fun v σ3 H3 d ρ3 E3 s3 D3 z => ?_, fun _ _ _ _ _ z => z, fun _ _ _ _ _ z => z⟩
  refine fin d z v H3 (fun b o e => E3.keep b o e fun z => ?_) (Dp.le (hide_sub fun b z => List.mem_append_left _ z) D3)
  have : b = a := by simpa using z
  subst this
  rw [hHa] at e; cases e
end
end DL
/-! DL: words for readings; webs and layings as data. -/
namespace DL
open PySem PySem.Spec PyProof.Rows L2
theorem ii : isD "int" (.int i) = true := (by decide +kernel : isS "int" "int" = true)
theorem ib : isD "bool" (.int i) = false := (by decide +kernel : isS "int" "bool" = false)
theorem it : isD "tuple" (.int i) = false := (by decide +kernel : isS "int" "tuple" = false)
theorem il : isD "list" (.int i) = false := (by decide +kernel : isS "int" "list" = false)
theorem is' : isD "str" (.int i) = false := (by decide +kernel : isS "int" "str" = false)
theorem ti : isD "int" (.tuple x) = false := (by decide +kernel : isS "tuple" "int" = false)
theorem tb : isD "bool" (.tuple x) = false := (by decide +kernel : isS "tuple" "bool" = false)
theorem tt : isD "tuple" (.tuple x) = true := (by decide +kernel : isS "tuple" "tuple" = true)
theorem tl : isD "list" (.tuple x) = false := (by decide +kernel : isS "tuple" "list" = false)
theorem ts' : isD "str" (.tuple x) = false := (by decide +kernel : isS "tuple" "str" = false)
theorem li : isD "int" (.list x) = false := (by decide +kernel : isS "list" "int" = false)
theorem lb : isD "bool" (.list x) = false := (by decide +kernel : isS "list" "bool" = false)
theorem lt' : isD "tuple" (.list x) = false := (by decide +kernel : isS "list" "tuple" = false)
theorem ll : isD "list" (.list x) = true := (by decide +kernel : isS "list" "list" = true)
theorem ls' : isD "str" (.list x) = false := (by decide +kernel : isS "list" "str" = false)
theorem ni : isD "int" .none = false := (by decide +kernel : isS "NoneType" "int" = false)
theorem nb : isD "bool" .none = false := (by decide +kernel : isS "NoneType" "bool" = false)
theorem nt : isD "tuple" .none = false := (by decide +kernel : isS "NoneType" "tuple" = false)
theorem nl : isD "list" .none = false := (by decide +kernel : isS "NoneType" "list" = false)
theorem ns' : isD "str" .none = false := (by decide +kernel : isS "NoneType" "str" = false)
theorem bi : isD "int" (.bool c) = true := (by decide +kernel : isS "bool" "int" = true)
theorem bb : isD "bool" (.bool c) = true := (by decide +kernel : isS "bool" "bool" = true)
theorem bt : isD "tuple" (.bool c) = false := (by decide +kernel : isS "bool" "tuple" = false)
theorem bl' : isD "list" (.bool c) = false := (by decide +kernel : isS "bool" "list" = false)
theorem bs : isD "str" (.bool c) = false := (by decide +kernel : isS "bool" "str" = false)
theorem si : isD "int" (.str c) = false := (by decide +kernel : isS "str" "int" = false)
theorem sb : isD "bool" (.str c) = false := (by decide +kernel : isS "str" "bool" = false)
theorem st' : isD "tuple" (.str c) = false := (by decide +kernel : isS "str" "tuple" = false)
theorem sl : isD "list" (.str c) = false := (by decide +kernel : isS "str" "list" = false)
theorem ss : isD "str" (.str c) = true := (by decide +kernel : isS "str" "str" = true)
theorem di : isD "int" (.dict c) = false := (by decide +kernel : isS "dict" "int" = false)
theorem db : isD "bool" (.dict c) = false := (by decide +kernel : isS "dict" "bool" = false)
theorem dt : isD "tuple" (.dict c) = false := (by decide +kernel : isS "dict" "tuple" = false)
theorem dl : isD "list" (.dict c) = false := (by decide +kernel : isS "dict" "list" = false)
theorem ds' : isD "str" (.dict c) = false := (by decide +kernel : isS "dict" "str" = false)
theorem sh_int (i : Int) : SeqAt.shaped (.int i) = true := rfl
theorem eqv_int (i j : Int) : PyData.eqv (.int i) (.int j) = decide (i = j) := by
  show (i == j) = _
  exact Bool.eq_iff_iff.mpr (by simp)
/-! ### where a value stands -/
theorem atI_pos {α : Type} {xs : List α} {i : Int} (h : 0 ≤ i) (hl : i < xs.length) : atI xs i = xs[i.toNat]? := by
  unfold atI ixN
  rw [if_pos h, if_pos hl]; rfl
theorem atI_nat {α : Type} {xs : List α} {i : Nat} (hl : i < xs.length) : atI xs (i : Int) = xs[i]? := by
  rw [atI_pos (by omega) (by omega)]; rfl
theorem ixN_pos {n : Nat} {i : Int} (h : 0 ≤ i) (hl : i < n) : ixN n i = some i.toNat := by
  unfold ixN
  rw [if_pos h, if_pos hl]
/-! ### webs -/
abbrev Edge := Int × Int
def wD (n : Int) (es : List Edge) : PyData := .tuple [.int n, .tuple (es.map pD)]
def lexLt (p q : Edge) : Prop := p.1 < q.1 ∨ (p.1 = q.1 ∧ p.2 < q.2)
structure WebOk (n : Int) (es : List Edge) : Prop where
  lo : 1 ≤ n
  hi : n ≤ 9
  ed : ∀ p ∈ es, 0 ≤ p.1 ∧ p.1 < p.2 ∧ p.2 < n
  so : es.Pairwise lexLt
def adj (es : List Edge) (a b : Int) : Bool := es.contains (a, b) || es.contains (b, a)
theorem adj_iff {es : List Edge} {a b : Int} : adj es a b = true ↔ (a, b) ∈ es ∨ (b, a) ∈ es := by
  unfold adj
  rw [Bool.or_eq_true, List.contains_iff_mem, List.contains_iff_mem]
theorem WebOk.len {n : Int} {es : List Edge} (W : WebOk n es) : es.length ≤ 100 := by
  have nd : es.Nodup := W.so.imp fun {a b} h => by
    rintro rfl
    rcases h with h | ⟨_, h⟩ <;> omega
  have sub : es ⊆ ((List.range 10).flatMap fun (i : Nat) => (List.range 10).map fun (j : Nat) => ((i : Int), (j : Int))) := fun p hp => by
    obtain ⟨h1, h2, h3⟩ := W.ed p hp
    have := W.hi
    refine List.mem_flatMap.mpr ⟨p.1.toNat, List.mem_range.mpr (by omega), List.mem_map.mpr ⟨p.2.toNat, List.mem_range.mpr (by omega), ?_⟩⟩
    exact Prod.ext (by show ((p.1.toNat : Nat) : Int) = p.1; omega) (by show ((p.2.toNat : Nat) : Int) = p.2; omega)
  exact List.Nodup.length_le_of_subset nd sub
/-- the neighbours as the law lists them -/
def nbr (es : List Edge) (k : Int) : List Int := (es.filter fun p => decide (k = p.1 ∨ k = p.2)).map fun p => p.1 + p.2 - k
theorem mem_nbr {es : List Edge} {k j : Int} : j ∈ nbr es k ↔ adj es k j = true := by
  unfold nbr
  rw [adj_iff, List.mem_map]
  constructor
  · rintro ⟨⟨a, b⟩, h, rfl⟩
    obtain ⟨h1, h2⟩ := List.mem_filter.mp h
    simp only [decide_eq_true_eq] at h2
    rcases h2 with h2 | h2
    · left
      have : a + b - k = b := by omega
      rw [this, h2]; exact h1
    · right
      have : a + b - k = a := by omega
      rw [this, h2]; exact h1
  · rintro (h | h)
    · exact ⟨_, List.mem_filter.mpr ⟨h, by simp⟩, by simp; omega⟩
    · exact ⟨_, List.mem_filter.mpr ⟨h, by simp⟩, by simp⟩
theorem WebOk.nd {n : Int} {es : List Edge} (W : WebOk n es) : es.Nodup := W.so.imp fun {a b} h => by
    rintro rfl
    rcases h with h | ⟨_, h⟩ <;> omega
theorem nd_map {α β : Type} {f : α → β} : ∀ {l : List α}, (∀ a ∈ l, ∀ b ∈ l, f a = f b → a = b) → l.Nodup → (l.map f).Nodup
  | [], _, _ => List.nodup_nil
  | x :: l, h, nd => by
    obtain ⟨h1, h2⟩ := List.nodup_cons.mp nd
    rw [List.map_cons]
    refine List.nodup_cons.mpr ⟨fun hm => ?_, nd_map (fun a ha b hb => h a (List.mem_cons_of_mem _ ha) b (List.mem_cons_of_mem _ hb)) h2⟩
    obtain ⟨y, hy, e⟩ := List.mem_map.mp hm
    have := h y (List.mem_cons_of_mem _ hy) x List.mem_cons_self e
    subst this
    exact h1 hy
theorem nbr_nodup {n : Int} {es : List Edge} (W : WebOk n es) (k : Int) : (nbr es k).Nodup := by
  unfold nbr
  refine nd_map ?_ (W.nd.filter _)
  rintro ⟨a, b⟩ h1 ⟨c, d⟩ h2 e
  obtain ⟨m1, k1⟩ := List.mem_filter.mp h1
  obtain ⟨m2, k2⟩ := List.mem_filter.mp h2
  obtain ⟨_, q1, _⟩ := W.ed _ m1
  obtain ⟨_, q2, _⟩ := W.ed _ m2
  simp only [decide_eq_true_eq] at k1 k2 e q1 q2
  refine Prod.ext ?_ ?_ <;> simp only <;> omega
theorem adj_rng {n : Int} {es : List Edge} (W : WebOk n es) {k j : Int} (h : adj es k j = true) : 0 ≤ j ∧ j < n ∧ j ≠ k := by
  rcases adj_iff.mp h with h | h
  · obtain ⟨h1, h2, h3⟩ := W.ed _ h; simp only at h1 h2 h3; omega
  · obtain ⟨h1, h2, h3⟩ := W.ed _ h; simp only at h1 h2 h3; omega
/-! ### layings -/
def cD (i : Int) : PyData := if i = 2 then .none else .int i
def bD (ls : List Int) : PyData := .tuple (ls.map cD)
def lD (ls : List Int) : PyData := .tuple (ls.map .int)
structure LayOk (n : Int) (ls : List Int) : Prop where
  len : (ls.length : Int) = n
  val : ∀ x ∈ ls, x = 0 ∨ x = 1 ∨ x = 2
def flip1 (x : Int) : Int := if x = 2 then 2 else 1 - x
def flipL (ks : List Int) (ls : List Int) : List Int := ls.mapIdx fun j x => if (j : Int) ∈ ks then flip1 x else x
theorem flipL_length (ks ls : List Int) : (flipL ks ls).length = ls.length := by unfold flipL; simp
theorem flipL_get (ks ls : List Int) (j : Nat) : (flipL ks ls)[j]? = ls[j]?.map fun x => if (j : Int) ∈ ks then flip1 x else x := by unfold flipL; simp
theorem flipL_nil (ls : List Int) : flipL [] ls = ls := by
  apply List.ext_getElem?
  intro j
  rw [flipL_get]
  cases ls[j]? <;> simp
theorem flipL_cons {k : Int} {ks ls : List Int} (hk : 0 ≤ k) (nk : k ∉ ks) {x : Int} (hx : ls[k.toNat]? = some x) : flipL ks (ls.set k.toNat (flip1 x)) = flipL (k :: ks) ls := by
  apply List.ext_getElem?
  intro j
  rw [flipL_get, flipL_get, List.getElem?_set]
  by_cases e : k.toNat = j
  · subst e
    have hl : k.toNat < ls.length := (List.getElem?_eq_some_iff.mp hx).1
    have e2 : ((k.toNat : Nat) : Int) = k := by omega
    simp only [if_true, hl, hx, Option.map_some, e2, nk, List.mem_cons_self, if_false]
  · have ne : (j : Int) ≠ k := by omega
    simp only [e, if_false, List.mem_cons, ne, false_or]
/-- the laying behind a take -/
def flip (es : List Edge) (k : Int) (ls : List Int) : List Int := (flipL (nbr es k) ls).set k.toNat 2
/-- heads of a laying -/
def headsL (ls : List Int) : List Int := ((List.range ls.length).filter fun j => decide (ls[j]? = some 1)).map fun (j : Nat) => (j : Int)
/-- one take after another -/
def takeAll (es : List Edge) : List Int → List Int → Option (List Int)
  | ls, [] => some ls
  | ls, k :: ks => if ls[k.toNat]? = some 1 then takeAll es (flip es k ls) ks else none
/-! ### masks -/
def NearOk (n : Int) (es : List Edge) (ms : List Nat) : Prop := (ms.length : Int) = n ∧ ∀ (k m : Nat), ms[k]? = some m → m < 2 ^ 9 ∧ ∀ j : Nat, m.testBit j = adj es k j
def bitsOf (m : Nat) : List Int := ((List.range (Builtin.Int.intBits (m : Int))).filter fun j => m.testBit j).map fun (j : Nat) => (j : Int)
end DL
namespace DL
open PySem PySem.Spec PyProof.Rows L2
def betw (d : PyData) (lo hi : Int) : Bool := match d with
  | .int i => decide (lo ≤ i ∧ i ≤ hi)
  | _ => false
def tupOf (d : PyData) (n : Int) : Bool := match d with
  | .tuple xs => decide ((xs.length : Int) = n)
  | _ => false
theorem enum_step {d : PyData} {ds xs : List PyData} {j : Nat} (h : d :: ds = (enumD xs).drop j) : ∃ x, xs[j]? = some x ∧ d = .tuple [.int (j : Int), x] ∧ ds = (enumD xs).drop (j + 1) := by
  have hl : j < (enumD xs).length := by
    apply Nat.lt_of_not_le
    intro h'
    rw [List.drop_eq_nil_of_le h'] at h
    cases h
  rw [List.drop_eq_getElem_cons hl] at h
  obtain ⟨h1, h2⟩ := List.cons.inj h
  have hx : j < xs.length := by unfold enumD at hl; simpa using hl
  refine ⟨xs[j], List.getElem?_eq_getElem hx, ?_, h2⟩
  rw [h1]
  unfold enumD
  simp [hx]
theorem enum_end {xs : List PyData} {j : Nat} (h : [] = (enumD xs).drop j) : xs.length ≤ j := by
  have := congrArg List.length h
  unfold enumD at this
  simp at this
  omega
instance (p q : Edge) : Decidable (lexLe p q) := by unfold lexLe; infer_instance
theorem lexAt_pair (a b c d : Int) : Ob.lexAt (fun j => decide ([a, b].getD j 0 = [c, d].getD j 0)) (fun j => decide ([a, b].getD j 0 ≤ [c, d].getD j 0)) (decide ([a, b].length ≤ [c, d].length)) 0 (min [a, b].length [c, d].length) = decide (lexLe (a, b) (c, d)) := by
  show Ob.lexAt _ _ _ 0 2 = _
  unfold lexLe
  simp [Ob.lexAt]
  by_cases h : a = c
  · subst h
    by_cases h2 : b = d
    · subst h2; simp
    · simp [h2]
  · simp [h]
    omega
theorem nn_none : isNoneD .none = true := rfl
theorem nn_int (i : Int) : isNoneD (.int i) = false := rfl
theorem nn_tup (xs : List PyData) : isNoneD (.tuple xs) = false := rfl
end DL
/-! DL: masks, takes. -/
namespace DL
open PySem PySem.Spec PyProof.Rows L2
theorem betw_int (i lo hi : Int) : betw (.int i) lo hi = decide (lo ≤ i ∧ i ≤ hi) := rfl
theorem filt_true {α : Type} (xs : List α) : xs.filter (fun _ => true) = xs := List.filter_eq_self.mpr fun _ _ => rfl
theorem or_nat (m k : Nat) : Builtin.bitOr (m : Int) (1 * 2 ^ ((k : Int)).toNat) = ((m ||| 2 ^ k : Nat) : Int) := by
  rw [show (1 * 2 ^ ((k : Int)).toNat : Int) = ((2 ^ k : Nat) : Int) by rw [Int.toNat_natCast, Int.one_mul]; exact (Int.natCast_pow 2 k).symm]
  rw [Bits.bitOr_pp (Int.natCast_nonneg _) (Int.natCast_nonneg _), Int.toNat_natCast, Int.toNat_natCast]
theorem bit_nat (m j : Nat) : Builtin.bitAnd ((m : Int) / 2 ^ ((j : Int)).toNat) 1 = ((m / 2 ^ j % 2 : Nat) : Int) := by
  rw [Int.toNat_natCast, show ((m : Int) / 2 ^ j) = ((m / 2 ^ j : Nat) : Int) by rw [Int.natCast_ediv]; congr 1]
  rw [bitAnd_pp (Int.natCast_nonneg _) (by decide), Int.toNat_natCast]
  show ((m / 2 ^ j &&& 1 : Nat) : Int) = _
  rw [Nat.and_one_is_mod]
theorem bit_test (m j : Nat) : (((m / 2 ^ j % 2 : Nat) : Int) != 0) = m.testBit j := by
  rw [Nat.testBit_eq_decide_div_mod_eq]
  have h : m / 2 ^ j % 2 = 0 ∨ m / 2 ^ j % 2 = 1 := by omega
  rcases h with h | h <;> rw [h] <;> rfl
theorem bits_lt {m j : Nat} (h : m.testBit j = true) : j < Builtin.Int.intBits (m : Int) := by
  unfold Builtin.Int.intBits
  by_cases h0 : m = 0
  · subst h0; simp at h
  · have : ((m : Int) == 0) = false := by simpa using h0
    rw [this]
    show j < (m : Int).natAbs.log2 + 1
    rw [Int.natAbs_natCast]
    apply Nat.lt_of_not_le
    intro hle
    have h2 : m < 2 ^ (m.log2 + 1) := Nat.lt_log2_self
    have : m < 2 ^ j := Nat.lt_of_lt_of_le h2 (Nat.pow_le_pow_right (by decide) hle)
    rw [Nat.testBit_lt_two_pow this] at h
    cases h
theorem mem_bitsOf {m : Nat} {j : Int} : j ∈ bitsOf m ↔ 0 ≤ j ∧ m.testBit j.toNat = true := by
  unfold bitsOf
  rw [List.mem_map]
  constructor
  · rintro ⟨i, h, rfl⟩
    have := (List.mem_filter.mp h).2
    exact ⟨by omega, by rw [Int.toNat_natCast]; exact this⟩
  · rintro ⟨h0, h1⟩
    exact ⟨j.toNat, List.mem_filter.mpr ⟨List.mem_range.mpr (bits_lt h1), h1⟩, by omega⟩
/-- masks of the edges that are done -/
def NearDone (n : Int) (done : List Edge) (ms : List Nat) : Prop := (ms.length : Int) = n ∧ ∀ (k m : Nat), ms[k]? = some m → m < 2 ^ 9 ∧ ∀ j : Nat, m.testBit j = adj done k j
theorem near_zero {n : Int} (h : 0 ≤ n) : NearDone n [] (List.replicate n.toNat 0) := by
  refine ⟨by rw [List.length_replicate]; omega, fun k m e => ?_⟩
  rw [List.getElem?_replicate] at e
  split at e
  · cases e
    exact ⟨by decide, fun j => by rw [Nat.zero_testBit]; rfl⟩
  · cases e
theorem adj_cons {p : Edge} {es : List Edge} {a b : Int} : adj (es ++ [p]) a b = (adj es a b || (decide (p = (a, b)) || decide (p = (b, a)))) := by
  apply Bool.eq_iff_iff.mpr
  rw [adj_iff]
  simp only [List.mem_append, List.mem_singleton, Bool.or_eq_true, adj_iff, decide_eq_true_eq]
  constructor
  · rintro ((h | h) | (h | h))
    · exact .inl (.inl h)
    · exact .inr (.inl h.symm)
    · exact .inl (.inr h)
    · exact .inr (.inr h.symm)
  · rintro ((h | h) | (h | h))
    · exact .inl (.inl h)
    · exact .inr (.inl h)
    · exact .inl (.inr h.symm)
    · exact .inr (.inr h.symm)
theorem near_step {n : Int} {done : List Edge} {ms : List Nat} (N : NearDone n done ms) {a b x y : Nat} (hab : a < b) (hb : b < 9) (hx : ms[a]? = some x) (hy : ms[b]? = some y) :
    NearDone n (done ++ [((a : Int), (b : Int))]) ((ms.set a (x ||| 2 ^ b)).set b (y ||| 2 ^ a)) := by
  refine ⟨by rw [List.length_set, List.length_set]; exact N.1, fun k m e => ?_⟩
  rw [List.getElem?_set] at e
  by_cases h1 : b = k
  · subst h1
    rw [if_pos rfl] at e
    split at e
    · cases e
      obtain ⟨g1, g2⟩ := N.2 _ _ hy
      refine ⟨Nat.or_lt_two_pow g1 (Nat.pow_lt_pow_right (by decide) (by omega)), fun j => ?_⟩
      rw [Nat.testBit_or, g2 j, Nat.testBit_two_pow, adj_cons]
      congr 1
      simp only [Prod.mk.injEq]
      by_cases h : a = j
      · subst h; simp
      · have h' : ¬ (a : Int) = (j : Int) := by omega
        have h3 : ¬ (a : Int) = (b : Int) := by omega
        simp [h, h', h3]
    · cases e
  · rw [if_neg h1, List.getElem?_set] at e
    by_cases h2 : a = k
    · subst h2
      rw [if_pos rfl] at e
      split at e
      · cases e
        obtain ⟨g1, g2⟩ := N.2 _ _ hx
        refine ⟨Nat.or_lt_two_pow g1 (Nat.pow_lt_pow_right (by decide) (by omega)), fun j => ?_⟩
        rw [Nat.testBit_or, g2 j, Nat.testBit_two_pow, adj_cons]
        congr 1
        simp only [Prod.mk.injEq]
        by_cases h : b = j
        · subst h; simp
        · have h' : ¬ (b : Int) = (j : Int) := by omega
          have h3 : ¬ (b : Int) = (a : Int) := by omega
          simp [h, h', h3]
      · cases e
    · rw [if_neg h2] at e
      obtain ⟨g1, g2⟩ := N.2 _ _ e
      refine ⟨g1, fun j => ?_⟩
      rw [g2 j, adj_cons]
      have h3 : ¬ (a : Int) = (k : Int) := by omega
      have h4 : ¬ (b : Int) = (k : Int) := by omega
      simp [h3, h4]
theorem flat_rep (m : Nat) : (List.replicate m [PyData.int 0]).flatten = (List.replicate m (0 : Nat)).map fun (m : Nat) => PyData.int (m : Int) := by
  induction m with
  | zero => rfl
  | succ m ih => rw [List.replicate_succ, List.replicate_succ, List.flatten_cons, ih]; rfl
theorem getD_map {α β : Type} {f : α → β} {xs : List α} {j : Nat} {d : β} (h : j < xs.length) : (xs.map f).getD j d = f xs[j] := by
  rw [List.getD_eq_getElem?_getD, List.getElem?_map, List.getElem?_eq_getElem h]; rfl
theorem set_same {α : Type} {xs : List α} {i : Nat} {x : α} (h : xs[i]? = some x) : xs.set i x = xs := by
  apply List.ext_getElem?
  intro j
  rw [List.getElem?_set]
  by_cases e : i = j
  · subst e; rw [if_pos rfl, if_pos (List.getElem?_eq_some_iff.mp h).1, h]
  · rw [if_neg e]
/-- turning coin by coin: what stands of the list, what is still to do -/
structure Flips (n : Int) (ls fin : List Int) (ks cur : List Int) : Prop where
  nd : ks.Nodup
  rng : ∀ i ∈ ks, 0 ≤ i ∧ i < n ∧ cur[i.toNat]? = ls[i.toNat]?
  len : cur.length = ls.length
  fin : flipL ks cur = fin
theorem Flips.step {n : Int} {ls fin ks cur : List Int} {i x : Int} (F : Flips n ls fin (i :: ks) cur) (hx : ls[i.toNat]? = some x) : Flips n ls fin ks (cur.set i.toNat (flip1 x)) := by
  obtain ⟨h1, h2⟩ := List.nodup_cons.mp F.nd
  obtain ⟨g1, g2, g3⟩ := F.rng i List.mem_cons_self
  refine ⟨h2, fun j hj => ?_, by rw [List.length_set]; exact F.len, ?_⟩
  · obtain ⟨k1, k2, k3⟩ := F.rng j (List.mem_cons_of_mem _ hj)
    refine ⟨k1, k2, ?_⟩
    have : i ≠ j := fun e => h1 (by rw [e]; exact hj)
    rw [List.getElem?_set_ne (by omega)]
    exact k3
  · rw [flipL_cons g1 h1 (by rw [g3]; exact hx)]
    exact F.fin
theorem Flips.skip {n : Int} {ls fin ks cur : List Int} {i : Int} (F : Flips n ls fin (i :: ks) cur) (hx : ls[i.toNat]? = some 2) : Flips n ls fin ks cur := by
  have := F.step hx
  rwa [show flip1 2 = 2 from rfl, set_same (by rw [(F.rng i List.mem_cons_self).2.2]; exact hx)] at this
theorem Flips.done {n : Int} {ls fin cur : List Int} (F : Flips n ls fin [] cur) : cur = fin := by
  have := F.fin
  rwa [flipL_nil] at this
end DL
namespace DL
open PySem PySem.Spec PyProof.Rows L2
theorem cut_to {ds : List PyData} {a : Nat} (h : a ≤ ds.length) : cutD ds none (some (a : Int)) = ds.take a := by
  unfold cutD
  rw [HT.sIx_none, HT.sIx_nat, Nat.min_eq_left h]; rfl
theorem cut_from {ds : List PyData} {a : Nat} (h : a < ds.length) : cutD ds (some ((a : Int) + 1)) none = ds.drop (a + 1) := by
  unfold cutD
  rw [HT.sIx_none, show ((a : Int) + 1) = ((a + 1 : Nat) : Int) from rfl, HT.sIx_nat, Nat.min_eq_left (by omega)]
  exact List.take_of_length_le (by rw [List.length_drop]; omega)
theorem rangeD_eq (n : Nat) : rangeD 0 n = ((List.range n).map fun (k : Nat) => (k : Int)).map .int := by
  unfold rangeD
  rw [List.map_map]
  apply List.map_congr_left
  intro k _
  simp
/-- one out of the rest, to the found ones -/
structure OrdSt (n : Int) (left found : List Int) : Prop where
  nd : (left ++ found).Nodup
  rng : ∀ k ∈ left ++ found, 0 ≤ k ∧ k < n
  len : (left.length + found.length : Int) = n
theorem OrdSt.init {n : Int} (h : 0 ≤ n) : OrdSt n ((List.range n.toNat).map fun (k : Nat) => (k : Int)) [] := by
  refine ⟨?_, fun k hk => ?_, by simp; omega⟩
  · rw [List.append_nil]
    exact nd_map (fun a _ b _ e => by omega) List.nodup_range
  · rw [List.append_nil] at hk
    obtain ⟨j, hj, rfl⟩ := List.mem_map.mp hk
    have := List.mem_range.mp hj
    omega
theorem OrdSt.step {n : Int} {left found : List Int} (O : OrdSt n left found) {a : Nat} (h : a < left.length) : OrdSt n (left.take a ++ left.drop (a + 1)) (found ++ [left[a]]) := by
  have e : left = left.take a ++ left[a] :: left.drop (a + 1) := by
    rw [← List.drop_eq_getElem_cons h, List.take_append_drop]
  have p : ((left.take a ++ left.drop (a + 1)) ++ (found ++ [left[a]])).Perm (left ++ found) := by
    have p1 : (left.take a ++ left.drop (a + 1) ++ [left[a]]).Perm left := by
      conv => rhs; rw [e]
      rw [List.append_assoc]
      exact List.Perm.append_left _ (List.perm_append_comm (l₁ := left.drop (a + 1)) (l₂ := [left[a]]))
    have p2 : ((left.take a ++ left.drop (a + 1)) ++ (found ++ [left[a]])).Perm ((left.take a ++ left.drop (a + 1)) ++ ([left[a]] ++ found)) := List.Perm.append_left _ List.perm_append_comm
    refine p2.trans ?_
    rw [← List.append_assoc]
    exact List.Perm.append_right _ p1
  refine ⟨p.symm.nodup O.nd, fun k hk => O.rng k (p.mem_iff.mp hk), ?_⟩
  have := p.length_eq
  simp only [List.length_append] at this
  have := O.len
  rw [List.length_append, List.length_append] at *
  omega
end DL
namespace DL
open PySem PySem.Spec PyProof.Rows L2
/-- the edges as a dict's keys -/
structure EdgesOk (n : Int) (ks : List Edge) : Prop where
  nd : ks.Nodup
  ed : ∀ p ∈ ks, 0 ≤ p.1 ∧ p.1 < p.2 ∧ p.2 < n
theorem EdgesOk.len {n : Int} {ks : List Edge} (W : EdgesOk n ks) (h9 : n ≤ 9) : ks.length ≤ 100 := by
  have sub : ks ⊆ ((List.range 10).flatMap fun (i : Nat) => (List.range 10).map fun (j : Nat) => ((i : Int), (j : Int))) := fun p hp => by
    obtain ⟨h1, h2, h3⟩ := W.ed p hp
    refine List.mem_flatMap.mpr ⟨p.1.toNat, List.mem_range.mpr (by omega), List.mem_map.mpr ⟨p.2.toNat, List.mem_range.mpr (by omega), ?_⟩⟩
    exact Prod.ext (by show ((p.1.toNat : Nat) : Int) = p.1; omega) (by show ((p.2.toNat : Nat) : Int) = p.2; omega)
  exact List.Nodup.length_le_of_subset W.nd sub
def DicSt (n : Int) (kvs : List (List Key × PyData)) : Prop := ∃ ks : List Edge, kvs.map (·.1) = ks.map pk ∧ EdgesOk n ks
theorem DicSt.nil (n : Int) : DicSt n [] := ⟨[], rfl, List.nodup_nil, fun p h => nomatch h⟩
theorem DicSt.len {n : Int} {kvs : List (List Key × PyData)} (D : DicSt n kvs) (h9 : n ≤ 9) : kvs.length < sizeLine := by
  obtain ⟨ks, h1, h2⟩ := D
  have := congrArg List.length h1
  rw [List.length_map, List.length_map] at this
  have := h2.len h9
  unfold sizeLine
  omega
theorem DicSt.put {n : Int} {kvs : List (List Key × PyData)} (D : DicSt n kvs) {p : Edge} (v : PyData) (hp : 0 ≤ p.1 ∧ p.1 < p.2 ∧ p.2 < n) : DicSt n (putD kvs (pk p) v) := by
  obtain ⟨ks, h1, h2⟩ := D
  unfold putD
  split
  · refine ⟨ks, ?_, h2⟩
    rw [← h1, List.map_map]
    apply List.map_congr_left
    intro kv _
    show (if kv.1 = pk p then (kv.1, v) else kv).1 = kv.1
    split <;> rfl
  · rename_i hn
    refine ⟨ks ++ [p], by rw [List.map_append, List.map_append, h1]; rfl, ?_, fun q hq => ?_⟩
    · refine List.nodup_append.mpr ⟨h2.nd, by simp, fun a ha b hb => ?_⟩
      have : b = p := by simpa using hb
      subst this
      rintro rfl
      apply hn
      have : pk a ∈ kvs.map (·.1) := by rw [h1]; exact List.mem_map.mpr ⟨a, ha, rfl⟩
      obtain ⟨kv, m1, m2⟩ := List.mem_map.mp this
      exact List.any_eq_true.mpr ⟨kv, m1, decide_eq_true m2⟩
    · rcases List.mem_append.mp hq with h | h
      · exact h2.ed q h
      · have : q = p := by simpa using h
        subst this; exact hp
theorem DicSt.web {n : Int} {kvs : List (List Key × PyData)} {ks ys : List Edge} (h1 : 1 ≤ n) (h9 : n ≤ 9) (E : EdgesOk n ks) (hp : ys.Perm ks) (hs : ys.Pairwise lexLe) : WebOk n ys := by
  have nd : ys.Nodup := hp.symm.nodup E.nd
  refine ⟨h1, h9, fun p h => E.ed p (hp.mem_iff.mp h), ?_⟩
  refine (List.Pairwise.and hs nd).imp fun {a b} ⟨h, ne⟩ => ?_
  unfold lexLe at h
  unfold lexLt
  rcases h with h | ⟨h, h2⟩
  · exact .inl h
  · refine .inr ⟨h, ?_⟩
    have : a.2 ≠ b.2 := fun e => ne (Prod.ext h e)
    omega
theorem minmax_edge {n a b : Int} (h : a ≠ b) (ha : 0 ≤ a ∧ a < n) (hb : 0 ≤ b ∧ b < n) : 0 ≤ (((if b < a then b else a), (if b > a then b else a)) : Edge).1 ∧ (((if b < a then b else a), (if b > a then b else a)) : Edge).1 < (((if b < a then b else a), (if b > a then b else a)) : Edge).2 ∧ (((if b < a then b else a), (if b > a then b else a)) : Edge).2 < n := by
  simp only
  split <;> split <;> omega
/-- what the law's answer is compared with -/
def flatD (d : PyData) : Prop := (∃ i, d = .int i) ∨ d = .none ∨ ∃ b, d = .bool b
end DL
namespace DL
open PySem PySem.Spec PyProof.Rows L2
def sdLaw : SD := fun ds q => ∃ ns : List Int, ds = [.list (ns.map .int)] ∧ ns.length ≤ 63 ∧ q = fun d => d = .bool true
theorem canL : ∀ ns : List Int, PyData.canLayAll0 (ns.map PyData.int) = true
  | [] => rfl
  | _ :: r => by simp [PyData.canLayAll0, PyData.canLay0, canL r]
theorem depL : ∀ ns : List Int, PyData.depthAll (ns.map PyData.int) = 0
  | [] => rfl
  | _ :: r => by simp [PyData.depthAll, PyData.depth, depL r]
theorem sh_ints (ns : List Int) : SeqAt.shaped (.list (ns.map PyData.int)) = true := by
  simp [SeqAt.shaped, PyData.canLay0, PyData.depth, canL, depL]
end DL
namespace L2
open PySem PySem.Spec PyProof.Rows
section
variable {X : Cx}
end
end L2
/-! DL: parts of tuples, tuples over and over, is not True. -/
namespace DL
open PySem PySem.Spec PyProof.Rows L2
section
variable {X : Cx} {e a b c tg iter : Expr} {es : List Expr} {pos : Pos} {t ta tb tc : TDE}
theorem cut_whole {α : Type} {xs : List α} {lo hi : Option Int} (h : HT.sIx xs.length 0 lo = 0 ∧ HT.sIx xs.length xs.length hi = xs.length) : (xs.drop (HT.sIx xs.length 0 lo)).take (HT.sIx xs.length xs.length hi - HT.sIx xs.length 0 lo) = xs := by
  rw [h.1, h.2, List.drop_zero, Nat.sub_zero, List.take_length]
/-- sorted(t), t a tuple of ints -/
def rSortTup (K : PySem.W.Frag) : List V → Hp → VK → Prop := fun vs H Q => ∃ (a : Addr) (ns : List Int), vs = [V.ref a] ∧ SqT K H a (ns.map V.int) ∧
  ∀ (ns' : List Int) (p : Addr), ns'.Perm ns → ns'.Pairwise (· ≤ ·) → H p = none → Q (.ref p) (upd H p (.lst (ns'.map V.int)))
/-- t[lo:hi] of a tuple -/
theorem de_sliceT {lo hi : Option Expr} {p2 : Pos} {tl th : DEnv → (Option Int → Prop) → Prop} (ha : DE X a ta) (hl : DO X lo tl) (hh : DO X hi th) : DE X (.Subscript a (.Slice lo hi none p2) pos) (fun ρ q => ta ρ fun d ρ1 => tl ρ1 fun l => th ρ1 fun u => match d with
    | .tuple ds => q (.tuple (cutD ds l u)) ρ1
    | _ => False) := by
  obtain ⟨pa, ha, qa⟩ := ha.ex
  obtain ⟨pl, hl, ql⟩ := hl.ex
  obtain ⟨ph, hh, qh⟩ := hh.ex
  refine ⟨_, pe_slice sl_tupA ha hl hh, fun C σ H ρ q Q E h k => ?_⟩
  refine qa C σ H ρ _ _ E h fun x H1 d ρ1 E1 s1 B1 h1 => ?_
  refine ql C σ H1 ρ1 _ _ E1 h1 fun l H2 E2 s2 h2 => ?_
  refine qh C σ H2 ρ1 _ _ E2 h2 fun u H3 E3 s3 h3 => ?_
  cases d with
  | tuple ds =>
    have h3 : q (.tuple (cutD ds l u)) ρ1 := h3
    have B3 := Dp.le (s2.trans s3).vis B1
    obtain ⟨a0, vs, rfl, sq, D⟩ := Dp.tup_of B3
    refine ⟨a0, vs, rfl, SqT.le hide_Le sq, fun hw => ?_, fun _ p hp => ?_⟩
    · have e : cutD ds l u = ds := by
        unfold cutD
        rw [DpAll.length D] at hw
        exact cut_whole hw
      rw [e] at h3
      exact k _ H3 _ ρ1 E3 (s1.trans (s2.trans s3)) B3 h3
    · have l4 : Le H3 (upd H3 p (.tup (cutV vs l u))) := .upd hp
      have np : p ∉ hs C ρ1 := fun z => by obtain ⟨o, e, _⟩ := E3.hid z; rw [hp] at e; cases e
      refine k _ _ _ ρ1 (E3.le l4) ((s1.trans (s2.trans s3)).trans (.le l4)) (.tup (?_) (DpAll.le (hide_le l4) (DpAll.cut D l u))) h3
      rw [hide_out np]; exact upd_same
  | _ => exact h3.elim
end
end DL
/-! DL: orders of all places, the layings that they clear. -/
namespace DL
open PySem PySem.Spec PyProof.Rows L2
theorem adj_symm {es : List Edge} {a b : Int} : adj es a b = adj es b a := Bool.or_comm _ _
/-- the neighbours of p that stand in S -/
def segN (es : List Edge) (S : List Int) (p : Int) : Nat := ((nbr es p).filter fun x => decide (x ∈ S)).length
theorem segN_nil (es : List Edge) (p : Int) : segN es [] p = 0 := by
  unfold segN
  rw [List.filter_eq_nil_iff.mpr (by simp)]; rfl
theorem segN_congr {es : List Edge} {S S' : List Int} {p : Int} (h : ∀ x, x ∈ S ↔ x ∈ S') : segN es S p = segN es S' p := by
  unfold segN
  congr 2
  funext x
  exact decide_eq_decide.mpr (h x)
theorem segN_cons {n : Int} {es : List Edge} (W : WebOk n es) {S : List Int} {P p : Int} (h : P ∉ S) : segN es (P :: S) p = segN es S p + if adj es p P = true then 1 else 0 := by
  unfold segN
  have key : ∀ l : List Int, l.Nodup → (l.filter fun x => decide (x ∈ P :: S)).length = (l.filter fun x => decide (x ∈ S)).length + if P ∈ l then 1 else 0 := by
    intro l
    induction l with
    | nil => intro _; rfl
    | cons a l ih =>
      intro nd
      obtain ⟨n1, n2⟩ := List.nodup_cons.mp nd
      have ih := ih n2
      by_cases ha : a = P
      · subst ha
        rw [List.filter_cons_of_pos (by simp), List.filter_cons_of_neg (by simpa using h), List.length_cons, ih, if_neg n1, if_pos List.mem_cons_self]
      · have hm : (P ∈ a :: l) ↔ P ∈ l := by simp [show ¬ P = a from fun e => ha e.symm]
        by_cases hs' : a ∈ S
        · rw [List.filter_cons_of_pos (by simp [hs']), List.filter_cons_of_pos (by simpa using hs'), List.length_cons, List.length_cons, ih]
          simp only [hm]
          omega
        · rw [List.filter_cons_of_neg (by simp [ha, hs']), List.filter_cons_of_neg (by simpa using hs'), ih]
          simp only [hm]
  rw [key _ (nbr_nodup W p)]
  congr 1
  have : (P ∈ nbr es p) = (adj es p P = true) := propext mem_nbr
  simp only [this]
/-- a coin turned c times -/
def parC (c : Nat) (x : Int) : Int := if c % 2 = 0 then x else 1 - x
theorem parC_zero (x : Int) : parC 0 x = x := rfl
theorem parC_succ (c : Nat) (x : Int) : parC (c + 1) x = 1 - parC c x := by
  unfold parC
  by_cases h : c % 2 = 0
  · rw [if_pos h, if_neg (by omega)]
  · rw [if_neg h, if_pos (by omega)]; omega
theorem parC_val {c : Nat} {x : Int} (h : x = 0 ∨ x = 1) : parC c x = 0 ∨ parC c x = 1 := by
  unfold parC
  split <;> omega
theorem flip1_par {c : Nat} {x : Int} (h : x = 0 ∨ x = 1) : flip1 (parC c x) = parC (c + 1) x := by
  unfold flip1
  have := parC_val (c := c) h
  rw [if_neg (by omega), parC_succ]
structure OrdOk (n : Int) (ks : List Int) : Prop where
  nd : ks.Nodup
  len : (ks.length : Int) = n
  rng : ∀ k ∈ ks, 0 ≤ k ∧ k < n
theorem OrdOk.all {n : Int} {ks : List Int} (O : OrdOk n ks) {p : Int} (h0 : 0 ≤ p) (h1 : p < n) : p ∈ ks := by
  apply Classical.byContradiction
  intro hp
  have nd : (p :: ks).Nodup := List.nodup_cons.mpr ⟨hp, O.nd⟩
  have sub : (p :: ks) ⊆ (List.range n.toNat).map fun (k : Nat) => (k : Int) := fun x hx => by
    have : 0 ≤ x ∧ x < n := by
      rcases List.mem_cons.mp hx with rfl | h
      · exact ⟨h0, h1⟩
      · exact O.rng x h
    exact List.mem_map.mpr ⟨x.toNat, List.mem_range.mpr (by omega), by omega⟩
  have := List.Nodup.length_le_of_subset nd sub
  rw [List.length_map, List.length_range, List.length_cons] at this
  have := O.len
  omega
theorem idx_at {ks : List Int} (nd : ks.Nodup) {i : Nat} (h : i < ks.length) : ks.idxOf ks[i] = i := nd.idxOf_getElem i h
/-- the laying that an order clears -/
def layOf (n : Int) (es : List Edge) (ks : List Int) : List Int := (List.range n.toNat).map fun (p : Nat) => parC (segN es (ks.take (ks.idxOf (p : Int))) p) 1
theorem layOf_len (n : Int) (es : List Edge) (ks : List Int) : (layOf n es ks).length = n.toNat := by unfold layOf; simp
structure Full (n : Int) (ls : List Int) : Prop where
  len : (ls.length : Int) = n
  val : ∀ x ∈ ls, x = 0 ∨ x = 1
theorem Full.bD {n : Int} {ls : List Int} (F : Full n ls) : bD ls = lD ls := by
  unfold DL.bD lD
  congr 1
  apply List.map_congr_left
  intro x hx
  unfold cD
  rw [if_neg]
  rcases F.val x hx with h | h <;> omega
theorem layOf_full {n : Int} (h : 0 ≤ n) (es : List Edge) (ks : List Int) : Full n (layOf n es ks) := by
  refine ⟨by rw [layOf_len]; omega, fun x hx => ?_⟩
  unfold layOf at hx
  obtain ⟨p, _, rfl⟩ := List.mem_map.mp hx
  exact parC_val (.inr rfl)
theorem map_range_get {α : Type} (f : Nat → α) (n j : Nat) : ((List.range n).map f)[j]? = if j < n then some (f j) else none := by
  rw [List.getElem?_map]
  by_cases h : j < n
  · rw [List.getElem?_range h, if_pos h]; rfl
  · rw [if_neg h, List.getElem?_eq_none (by rw [List.length_range]; omega)]; rfl
/-! ### forward -/
def fwd (n : Int) (es : List Edge) (ks : List Int) (i : Nat) : List Int := (List.range n.toNat).map fun (p : Nat) => if (p : Int) ∈ ks.take i then parC (segN es (ks.take (ks.idxOf (p : Int))) p) 1 else 0
end DL
/-! DL: orders, led back; takes along an order. -/
namespace DL
open PySem PySem.Spec PyProof.Rows L2
theorem mem_drop_iff {ks : List Int} {a : Nat} {x : Int} : x ∈ ks.drop a ↔ ∃ (i : Nat) (h : i < ks.length), a ≤ i ∧ ks[i] = x := by
  constructor
  · intro hm
    obtain ⟨j, hj⟩ := List.mem_iff_getElem?.mp hm
    rw [List.getElem?_drop] at hj
    obtain ⟨h, e⟩ := List.getElem?_eq_some_iff.mp hj
    exact ⟨a + j, h, by omega, e⟩
  · rintro ⟨i, h, hi, rfl⟩
    refine List.mem_iff_getElem?.mpr ⟨i - a, ?_⟩
    rw [List.getElem?_drop, show a + (i - a) = i by omega, List.getElem?_eq_getElem h]
def bwd (n : Int) (es : List Edge) (ks : List Int) (a : Nat) : List Int := (List.range n.toNat).map fun (p : Nat) => if (p : Int) ∈ ks.drop a then parC (segN es ((ks.take (ks.idxOf (p : Int))).drop a) p) 1 else 0
theorem bwd_end (n : Int) (es : List Edge) (ks : List Int) : bwd n es ks ks.length = List.replicate n.toNat 0 := by
  unfold bwd
  apply List.ext_getElem?
  intro j
  rw [map_range_get, List.getElem?_replicate, List.drop_length]
  simp
theorem bwd_zero {n : Int} {es : List Edge} {ks : List Int} (O : OrdOk n ks) : bwd n es ks 0 = layOf n es ks := by
  unfold bwd layOf
  apply List.map_congr_left
  intro p hp
  have := List.mem_range.mp hp
  rw [List.drop_zero, List.drop_zero, if_pos (O.all (by omega) (by omega))]
theorem bwd_step {n : Int} {es : List Edge} {ks : List Int} (W : WebOk n es) (O : OrdOk n ks) {a : Nat} (h : a < ks.length) :
    flipL ((nbr es ks[a]).filter fun x => decide (x ∈ ks.drop (a + 1))) ((bwd n es ks (a + 1)).set ks[a].toNat 1) = bwd n es ks a := by
  obtain ⟨g0, g1⟩ := O.rng _ (List.getElem_mem h)
  have nP : ks[a] ∉ ks.drop (a + 1) := fun hm => by
    obtain ⟨i, hi, hai, e⟩ := mem_drop_iff.mp hm
    have := (List.getElem_inj O.nd).mp e
    omega
  apply List.ext_getElem?
  intro j
  rw [flipL_get, List.getElem?_set]
  unfold bwd
  rw [map_range_get, map_range_get, List.length_map, List.length_range]
  by_cases e : ks[a].toNat = j
  · subst e
    have e2 : ((ks[a].toNat : Nat) : Int) = ks[a] := by omega
    rw [if_pos rfl, if_pos (by omega), if_pos (by omega), e2, if_pos (mem_drop_iff.mpr ⟨a, h, Nat.le_refl _, rfl⟩), idx_at O.nd h]
    have e3 : (ks.take a).drop a = [] := List.drop_eq_nil_of_le (by rw [List.length_take]; omega)
    rw [e3, segN_nil, parC_zero]
    simp only [Option.map_some, List.mem_filter, decide_eq_true_eq, nP, and_false, if_false]
  · rw [if_neg e]
    by_cases hj : j < n.toNat
    · rw [if_pos hj, if_pos hj, Option.map_some]
      congr 1
      by_cases hm : (j : Int) ∈ ks.drop (a + 1)
      · obtain ⟨i, hi, hai, ei⟩ := mem_drop_iff.mp hm
        have hm' : (j : Int) ∈ ks.drop a := mem_drop_iff.mpr ⟨i, hi, by omega, ei⟩
        rw [if_pos hm, if_pos hm', ← ei, idx_at O.nd hi]
        have ed : (ks.take i).drop a = ks[a] :: (ks.take i).drop (a + 1) := by
          have hl : a < (ks.take i).length := by rw [List.length_take]; omega
          rw [List.drop_eq_getElem_cons hl, List.getElem_take]
        have nP2 : ks[a] ∉ (ks.take i).drop (a + 1) := fun z => nP (by
          rw [List.drop_take] at z
          exact List.mem_of_mem_take z)
        rw [ed, segN_cons W nP2]
        have hmi : (ks[i] ∈ ks.drop (a + 1)) := by rw [ei]; exact hm
        by_cases ha : adj es ks[i] ks[a] = true
        · rw [if_pos ha, if_pos (List.mem_filter.mpr ⟨mem_nbr.mpr (by rw [adj_symm]; exact ha), decide_eq_true hmi⟩)]
          exact flip1_par (.inr rfl)
        · rw [if_neg ha, if_neg (fun z => ha (by rw [adj_symm]; exact mem_nbr.mp (List.mem_filter.mp z).1))]
          rfl
      · have hm' : (j : Int) ∉ ks.drop a := fun z => by
          obtain ⟨i, hi, hai, ei⟩ := mem_drop_iff.mp z
          by_cases hia : i = a
          · subst hia; exact e (by omega)
          · exact hm (mem_drop_iff.mpr ⟨i, hi, by omega, ei⟩)
        have nf : (j : Int) ∉ (nbr es ks[a]).filter (fun x => decide (x ∈ ks.drop (a + 1))) := fun z => hm (by simpa using (List.mem_filter.mp z).2)
        rw [if_neg hm, if_neg hm', if_neg nf]
    · rw [if_neg hj, if_neg hj]; rfl
/-! ### takes along an order -/
def stAt (n : Int) (es : List Edge) (ks ls : List Int) (i : Nat) : List Int := (List.range n.toNat).map fun (p : Nat) => if (p : Int) ∈ ks.take i then 2 else parC (segN es (ks.take i) p) (ls.getD p 0)
def fitB (n : Int) (es : List Edge) (ks ls : List Int) : Nat → Bool
  | 0 => true
  | i + 1 => fitB n es ks ls i && decide ((stAt n es ks ls i)[(ks.getD i 0).toNat]? = some 1)
/-- masks of places -/
def MaskOk (S : List Int) (m : Nat) : Prop := m < 2 ^ 9 ∧ ∀ j : Nat, m.testBit j = decide ((j : Int) ∈ S)
theorem mask_zero : MaskOk [] 0 := ⟨by decide, fun j => by rw [Nat.zero_testBit]; rfl⟩
theorem mask_step {S : List Int} {m k : Nat} (M : MaskOk S m) (hk : k < 9) : MaskOk (S ++ [(k : Int)]) (m ||| 2 ^ k) := by
  refine ⟨Nat.or_lt_two_pow M.1 (Nat.pow_lt_pow_right (by decide) hk), fun j => ?_⟩
  rw [Nat.testBit_or, M.2 j, Nat.testBit_two_pow]
  apply Bool.eq_iff_iff.mpr
  rw [Bool.or_eq_true, decide_eq_true_eq, decide_eq_true_eq, decide_eq_true_eq, List.mem_append, List.mem_singleton]
  exact or_congr Iff.rfl ⟨fun h => by omega, fun h => by omega⟩
theorem and_nat (m k : Nat) : Builtin.bitAnd (m : Int) (k : Int) = ((m &&& k : Nat) : Int) := by
  rw [bitAnd_pp (Int.natCast_nonneg _) (Int.natCast_nonneg _), Int.toNat_natCast, Int.toNat_natCast]
theorem eqv_ints : ∀ xs ys : List Int, PyData.eqvAll (xs.map .int) (ys.map .int) = decide (xs = ys)
  | [], [] => by simp [PyData.eqvAll]
  | [], _ :: _ => by simp [PyData.eqvAll]
  | _ :: _, [] => by simp [PyData.eqvAll]
  | a :: r, b :: t => by
    show (PyData.eqv (.int a) (.int b) && PyData.eqvAll (r.map .int) (t.map .int)) = _
    rw [eqv_int, eqv_ints r t]
    by_cases h : a = b <;> by_cases h' : r = t <;> simp [h, h']
theorem sh_lD (ns : List Int) : SeqAt.shaped (lD ns) = true := by
  unfold lD
  simp [SeqAt.shaped, PyData.canLay0, PyData.depth, canL, depL]
end DL
namespace DL
open PySem PySem.Spec PyProof.Rows L2
theorem cut_tail {ds : List PyData} {a : Nat} (h : a ≤ ds.length) : cutD ds (some (a : Int)) none = ds.drop a := by
  unfold cutD
  rw [HT.sIx_none, HT.sIx_nat, Nat.min_eq_left h]
  exact List.take_of_length_le (by rw [List.length_drop]; omega)
theorem range_step {d : PyData} {ds : List PyData} {m j : Nat} (h : d :: ds = (rangeD 0 m).drop j) : j < m ∧ d = .int (j : Int) ∧ ds = (rangeD 0 m).drop (j + 1) := by
  have hl : j < (rangeD 0 m).length := by
    apply Nat.lt_of_not_le
    intro h'
    rw [List.drop_eq_nil_of_le h'] at h
    cases h
  rw [List.drop_eq_getElem_cons hl] at h
  obtain ⟨h1, h2⟩ := List.cons.inj h
  have hm : j < m := by unfold rangeD at hl; simpa using hl
  refine ⟨hm, ?_, h2⟩
  rw [h1]
  unfold rangeD
  simp
theorem range_end {m j : Nat} (h : [] = (rangeD 0 m).drop j) : m ≤ j := by
  have := congrArg List.length h
  unfold rangeD at this
  simp at this
  omega
end DL
namespace DL
open PySem PySem.Spec PyProof.Rows L2
end DL
namespace DL
theorem ite_no {c : Prop} {d : Decidable c} {p q : Prop} (h : ¬ c) (hq : q) : @ite Prop c d p q := by
  rw [if_neg h]; exact hq
theorem ite_yes {c : Prop} {d : Decidable c} {p q : Prop} (h : c) (hp : p) : @ite Prop c d p q := by
  rw [if_pos h]; exact hp
end DL
/-! DL: three names at once, either a list or a tuple, tables over states. -/
namespace DL
open PySem PySem.Spec PyProof.Rows L2
section
variable {X : Cx} {e a b c tg iter : Expr} {es : List Expr} {pos : Pos} {t ta tb tc : TDE}
/-- over a list, or over a tuple: what is there says which -/
theorem di_or {t1 t2 : TDA} (h1 : DI X tg e t1) (h2 : DI X tg e t2) : DI X tg e (fun ρ q => t1 ρ q ∨ t2 ρ q) := by
  obtain ⟨w1, p1, q1⟩ := h1.ex
  obtain ⟨w2, p2, q2⟩ := h2.ex
  refine ⟨fun σ H R => w1 σ H R ∨ w2 σ H R, ⟨fun pins s σ H R I h => h.elim (p1.run pins s σ H R I) (p2.run pins s σ H R I)⟩, fun C σ H ρ q R E w k => ?_⟩
  rcases w with w | w
  · exact .inl (q1 C σ H ρ q R E w k)
  · exact .inr (q2 C σ H ρ q R E w k)
/-- x, y, z = a, b, c -/
def tdPar3 (i j l : Nat) (ta tb tc : TDE) : TDS := fun q ρ => ta ρ fun x ρ1 => tb ρ1 fun y ρ2 => tc ρ2 fun z ρ3 => q.nx (((ρ3.set i (.sh x)).set j (.sh y)).set l (.sh z))
theorem ds_par3 {i j l : Nat} {x y z : Str} {px py pz pt : Pos} {kt k2 pt2} (hc' : X.calm = true) (hN : X.N.Nodup) (hi : X.N[i]? = some x) (hj : X.N[j]? = some y) (hl : X.N[l]? = some z) (hij : i ≠ j) (hil : i ≠ l) (hjl : j ≠ l)
    (hx : X.env.scope.names.lookup x = some .local) (hy : X.env.scope.names.lookup y = some .local) (hz : X.env.scope.names.lookup z = some .local) (ha : DE X a ta) (hb : DE X b tb) (hcc : DE X c tc)
    (hw : swappedStores [.Tuple [.Name x px, .Name y py, .Name z pz] kt pt] (.Tuple [a, b, c] k2 pt2) X.env = pure (some [x, y, z]))
    (h1 : starEach [a, b, c] X.env = (false, eval a X.env) :: starEach [b, c] X.env := by rfl) (h2 : starEach [b, c] X.env = (false, eval b X.env) :: starEach [c] X.env := by rfl) (h3 : starEach [c] X.env = (false, eval c X.env) :: starEach [] X.env := by rfl)
    (hs' : swapsWithSole [.Tuple [.Name x px, .Name y py, .Name z pz] kt pt] (.Tuple [a, b, c] k2 pt2) pos.line X.env = pure false := by rfl) :
    DS X (.Assign [.Tuple [.Name x px, .Name y py, .Name z pz] kt pt] (.Tuple [a, b, c] k2 pt2) pos) (tdPar3 i j l ta tb tc) := by
  obtain ⟨pa, ha, qa⟩ := ha.ex
  obtain ⟨pb, hb, qb⟩ := hb.ex
  obtain ⟨pc, hcc, qc⟩ := hcc.ex
  refine ⟨_, ps_par3 hc' hN hi hj hl hij hil hjl hx hy hz (pa_cons ha (pa_cons hb (pa_cons hcc pa_nil h3) h2) h1) hw hs', fun C σ H ρ q Q E h k => ?_⟩
  refine qa C σ H ρ _ _ E h fun v H1 d ρ1 E1 s1 D1 h1 => ?_
  refine qb C σ H1 ρ1 _ _ E1 h1 fun w H2 d2 ρ2 E2 s2 D2 h2 => ?_
  refine qc C σ H2 ρ2 _ _ E2 h2 fun u H3 d3 ρ3 E3 s3 D3 h3 => ⟨v, w, u, rfl, ?_⟩
  have E4 := ((E3.sh (i := i) (v := v) (d := d) (Dp.le (s2.trans s3).vis D1)))
  have st1 : Step C ρ1 H1 (ρ3.set i (.sh d)) H3 := (s2.trans s3).trans Step.put'
  have st2 : Step C ρ2 H2 (ρ3.set i (.sh d)) H3 := s3.trans Step.put'
  have E5 := E4.sh (i := j) (v := w) (d := d2) (Dp.le st2.vis D2)
  have E6 := E5.sh (i := l) (v := u) (d := d3) (Dp.le ((Step.put' (C := C) (ρ := ρ3) (H := H3) (i := i) (d := d)).trans Step.put').vis D3)
  exact k.nx _ _ _ E6 (((s1.trans st1).trans Step.put').trans Step.put') h3
end
end DL
namespace DL
open PySem PySem.Spec PyProof.Rows L2
/-- ascending lists with the same members are the same -/
theorem asc_eq : ∀ {l m : List Int}, l.Pairwise (· < ·) → m.Pairwise (· < ·) → (∀ x, x ∈ l ↔ x ∈ m) → l = m
  | [], [], _, _, _ => rfl
  | [], b :: m, _, _, h => absurd ((h b).mpr List.mem_cons_self) (by simp)
  | a :: l, [], _, _, h => absurd ((h a).mp List.mem_cons_self) (by simp)
  | a :: l, b :: m, h1, h2, h => by
    obtain ⟨p1, p2⟩ := List.pairwise_cons.mp h1
    obtain ⟨q1, q2⟩ := List.pairwise_cons.mp h2
    have e : a = b := by
      rcases List.mem_cons.mp ((h a).mp List.mem_cons_self) with e | e
      · exact e
      · rcases List.mem_cons.mp ((h b).mpr List.mem_cons_self) with e' | e'
        · exact e'.symm
        · have := q1 a e
          have := p1 b e'
          omega
    subst e
    have := asc_eq p2 q2 fun x => by
      constructor
      · intro hx
        rcases List.mem_cons.mp ((h x).mp (List.mem_cons_of_mem _ hx)) with e | e
        · have := p1 x hx; omega
        · exact e
      · intro hx
        rcases List.mem_cons.mp ((h x).mpr (List.mem_cons_of_mem _ hx)) with e | e
        · have := q1 x hx; omega
        · exact e
    rw [this]
theorem asc_filter {n : Nat} (p : Nat → Bool) : (((List.range n).filter p).map fun (j : Nat) => (j : Int)).Pairwise (· < ·) := by
  rw [List.pairwise_map]
  refine (List.Pairwise.filter _ List.pairwise_lt_range).imp fun {a b} h => by omega
theorem bitsOf_asc (m : Nat) : (bitsOf m).Pairwise (· < ·) := asc_filter _
theorem headsL_asc (ls : List Int) : (headsL ls).Pairwise (· < ·) := asc_filter _
theorem mem_headsL {ls : List Int} {x : Int} : x ∈ headsL ls ↔ 0 ≤ x ∧ ls[x.toNat]? = some 1 := by
  unfold headsL
  rw [List.mem_map]
  constructor
  · rintro ⟨j, h, rfl⟩
    exact ⟨by omega, by rw [Int.toNat_natCast]; exact of_decide_eq_true (List.mem_filter.mp h).2⟩
  · rintro ⟨h0, h1⟩
    exact ⟨x.toNat, List.mem_filter.mpr ⟨List.mem_range.mpr (List.getElem?_eq_some_iff.mp h1).1, decide_eq_true h1⟩, by omega⟩
/-! ### bits -/
theorem diff_nat (h s : Nat) : Builtin.bitAnd (h : Int) (Builtin.bitNot (s : Int)) = ((h ^^^ (h &&& s) : Nat) : Int) := by
  rw [bitAnd_not, and_nat]
  have := Bits.nat_xor_add_and h (h &&& s)
  rw [← Nat.and_assoc, Nat.and_self] at this
  omega
theorem diff_bit (h s j : Nat) : (h ^^^ (h &&& s)).testBit j = (h.testBit j && !s.testBit j) := by
  rw [Nat.testBit_xor, Nat.testBit_and]
  cases h.testBit j <;> cases s.testBit j <;> rfl
theorem low_bit : ∀ s : Nat, 0 < s → ∃ k, s.testBit k = true ∧ ∀ j, (s &&& (s - 1)).testBit j = (s.testBit j && !decide (j = k)) := by
  intro s
  induction s using Nat.strongRecOn with
  | ind s ih =>
    intro hs
    by_cases h : s % 2 = 1
    · refine ⟨0, by rw [Nat.testBit_zero, h]; rfl, fun j => ?_⟩
      cases j with
      | zero =>
        rw [Nat.testBit_and, Nat.testBit_zero, Nat.testBit_zero, show (s - 1) % 2 = 0 by omega]
        simp
      | succ j =>
        rw [Nat.testBit_and, Nat.testBit_succ, Nat.testBit_succ, show (s - 1) / 2 = s / 2 by omega]
        simp
    · obtain ⟨k, h1, h2⟩ := ih (s / 2) (by omega) (by omega)
      refine ⟨k + 1, by rw [Nat.testBit_succ]; exact h1, fun j => ?_⟩
      cases j with
      | zero =>
        rw [Nat.testBit_and, Nat.testBit_zero, show s % 2 = 0 by omega]
        simp
      | succ j =>
        have := h2 j
        rw [Nat.testBit_and] at this ⊢
        rw [Nat.testBit_succ, Nat.testBit_succ, show (s - 1) / 2 = s / 2 - 1 by omega, this]
        simp
theorem low_pow {s k : Nat} (h1 : s.testBit k = true) (h2 : ∀ j, (s &&& (s - 1)).testBit j = (s.testBit j && !decide (j = k))) : s ^^^ (s &&& (s - 1)) = 2 ^ k := by
  apply Nat.eq_of_testBit_eq
  intro j
  rw [Nat.testBit_xor, h2, Nat.testBit_two_pow]
  by_cases e : j = k
  · subst e; rw [h1]; simp
  · have : ¬ k = j := fun z => e z.symm
    simp [e, this]
/-! ### the table of the coins that are turned -/
def rdyB (n : Int) (es : List Edge) (ls : List Int) (s j : Nat) : Bool := decide (j < n.toNat) && decide (parC (segN es (bitsOf s) j) (ls.getD j 0) = 1)
def TabOk (n : Int) (es : List Edge) (ls : List Int) (ts : List Nat) : Prop := ∀ (s m : Nat), ts[s]? = some m → m < 2 ^ 9 ∧ ∀ j : Nat, m.testBit j = rdyB n es ls s j
theorem bits_zero : bitsOf 0 = [] := rfl
theorem tab_zero {n : Int} {es : List Edge} {ls : List Int} (F : Full n ls) {m : Nat} (M : MaskOk (headsL ls) m) : TabOk n es ls [m] := by
  intro s m' h
  cases s with
  | succ s => simp at h
  | zero =>
    have e : m = m' := by simpa using h
    subst e
    refine ⟨M.1, fun j => ?_⟩
    have hl := F.len
    rw [M.2 j]
    unfold rdyB
    rw [bits_zero, segN_nil, parC_zero]
    apply Bool.eq_iff_iff.mpr
    rw [decide_eq_true_eq, mem_headsL, Bool.and_eq_true, decide_eq_true_eq, decide_eq_true_eq, Int.toNat_natCast]
    constructor
    · rintro ⟨_, h⟩
      obtain ⟨h1, h2⟩ := List.getElem?_eq_some_iff.mp h
      exact ⟨by omega, by rw [List.getD_eq_getElem?_getD, h]; rfl⟩
    · rintro ⟨h1, h2⟩
      have : j < ls.length := by omega
      rw [List.getD_eq_getElem?_getD, List.getElem?_eq_getElem this] at h2
      exact ⟨by omega, by rw [List.getElem?_eq_getElem this]; exact congrArg some h2⟩
theorem tab_step {n : Int} {es : List Edge} {ls : List Int} (W : WebOk n es) (F : Full n ls) {ts ms : List Nat} (T : TabOk n es ls ts) (N : NearOk n es ms) {k x y : Nat} (h0 : 0 < ts.length)
    (h1 : ts.length.testBit k = true) (h2 : ∀ j, (ts.length &&& (ts.length - 1)).testBit j = (ts.length.testBit j && !decide (j = k))) (hx : ts[ts.length &&& (ts.length - 1)]? = some x) (hy : ms[k]? = some y) : TabOk n es ls (ts ++ [x ^^^ y]) := by
  intro s m h
  rw [List.getElem?_append] at h
  split at h
  · exact T s m h
  · rename_i hs
    have es' : s = ts.length := by
      have := (List.getElem?_eq_some_iff.mp h).1
      simp at this
      omega
    subst es'
    rw [Nat.sub_self] at h
    have e : x ^^^ y = m := by simpa using h
    subst e
    obtain ⟨a1, a2⟩ := T _ _ hx
    obtain ⟨b1, b2⟩ := N.2 _ _ hy
    refine ⟨Nat.xor_lt_two_pow a1 b1, fun j => ?_⟩
    rw [Nat.testBit_xor, a2, b2]
    have nk : (k : Int) ∉ bitsOf (ts.length &&& (ts.length - 1)) := fun z => by
      have := (mem_bitsOf.mp z).2
      rw [Int.toNat_natCast, h2] at this
      simp at this
    have mem : ∀ x, x ∈ bitsOf ts.length ↔ x ∈ (k : Int) :: bitsOf (ts.length &&& (ts.length - 1)) := fun x => by
      rw [List.mem_cons, mem_bitsOf, mem_bitsOf, h2, Bool.and_eq_true]
      constructor
      · rintro ⟨p0, p1⟩
        by_cases e : x.toNat = k
        · exact .inl (by omega)
        · exact .inr ⟨p0, p1, by simp [e]⟩
      · rintro (rfl | ⟨p0, p1, _⟩)
        · exact ⟨by omega, by rw [Int.toNat_natCast]; exact h1⟩
        · exact ⟨p0, p1⟩
    unfold rdyB
    rw [segN_congr mem, segN_cons W nk, adj_symm]
    by_cases hj : j < n.toNat
    · rw [decide_eq_true hj, Bool.true_and, Bool.true_and]
      have hl := F.len
      have hjl : j < ls.length := by omega
      have hv : ls.getD j 0 = 0 ∨ ls.getD j 0 = 1 := by
        rw [List.getD_eq_getElem?_getD, List.getElem?_eq_getElem hjl]
        exact F.val _ (List.getElem_mem hjl)
      have pv := parC_val (c := segN es (bitsOf (ts.length &&& (ts.length - 1))) j) hv
      cases ha : adj es j k with
      | true =>
        rw [if_pos rfl, parC_succ, Bool.xor_true]
        rcases pv with pv | pv <;> rw [pv] <;> rfl
      | false => rw [if_neg (by decide), Nat.add_zero, Bool.xor_false]
    · rw [decide_eq_false hj, Bool.false_and, Bool.false_and, Bool.false_xor]
      apply Bool.eq_false_iff.mpr
      intro ha
      have := adj_rng W (show adj es k j = true by rw [adj_symm]; exact ha)
      omega
end DL
namespace DL
open PySem PySem.Spec PyProof.Rows L2
theorem range_stepL {d : PyData} {ds : List PyData} {lo : Int} {m j : Nat} (h : d :: ds = (rangeD lo m).drop j) : j < m ∧ d = .int (lo + (j : Int)) ∧ ds = (rangeD lo m).drop (j + 1) := by
  have hl : j < (rangeD lo m).length := by
    apply Nat.lt_of_not_le
    intro h'
    rw [List.drop_eq_nil_of_le h'] at h
    cases h
  rw [List.drop_eq_getElem_cons hl] at h
  obtain ⟨h1, h2⟩ := List.cons.inj h
  have hm : j < m := by unfold rangeD at hl; simpa using hl
  refine ⟨hm, ?_, h2⟩
  have e : (rangeD lo m)[j]? = some (.int (lo + (j : Int))) := by
    unfold rangeD
    rw [List.getElem?_map, List.getElem?_range hm]; rfl
  rw [List.getElem?_eq_getElem hl] at e
  rw [h1]; exact Option.some.inj e
theorem range_endL {lo : Int} {m j : Nat} (h : [] = (rangeD lo m).drop j) : m ≤ j := by
  have := congrArg List.length h
  unfold rangeD at this
  simp at this
  omega
structure StOk (n : Int) (S : List Int) : Prop where
  asc : S.Pairwise (· < ·)
  rng : ∀ k ∈ S, 0 ≤ k ∧ k < n
theorem StOk.len {n : Int} {S : List Int} (h : StOk n S) (h9 : n ≤ 9) : S.length ≤ 9 := by
  have nd : S.Nodup := h.asc.imp fun {a b} h => by omega
  have sub : S ⊆ (List.range 9).map fun (k : Nat) => (k : Int) := fun x hx => by
    have := h.rng x hx
    exact List.mem_map.mpr ⟨x.toNat, List.mem_range.mpr (by omega), by omega⟩
  have := List.Nodup.length_le_of_subset nd sub
  simpa using this
/-- the laying behind the takes of S -/
def behP (es : List Edge) (ls S : List Int) (p : Nat) : Int := if (p : Int) ∈ S then 2 else parC (segN es S p) (ls.getD p 0)
def behL (n : Int) (es : List Edge) (ls S : List Int) : List Int := (List.range n.toNat).map (behP es ls S)
theorem getD_val {n : Int} {ls : List Int} (F : Full n ls) {p : Nat} (h : p < n.toNat) : ls.getD p 0 = 0 ∨ ls.getD p 0 = 1 := by
  have hl := F.len
  have : p < ls.length := by omega
  rw [List.getD_eq_getElem?_getD, List.getElem?_eq_getElem this]
  exact F.val _ (List.getElem_mem this)
theorem behL_ok {n : Int} (h : 0 ≤ n) (es : List Edge) {ls : List Int} (F : Full n ls) (S : List Int) : LayOk n (behL n es ls S) := by
  refine ⟨by unfold behL; rw [List.length_map, List.length_range]; omega, fun x hx => ?_⟩
  unfold behL at hx
  obtain ⟨p, hp, rfl⟩ := List.mem_map.mp hx
  unfold behP
  split
  · exact .inr (.inr rfl)
  · rcases parC_val (c := segN es S p) (getD_val F (List.mem_range.mp hp)) with q | q
    · exact .inl q
    · exact .inr (.inl q)
theorem mem_heads_beh {n : Int} {es : List Edge} {ls S : List Int} {x : Int} : x ∈ headsL (behL n es ls S) ↔ 0 ≤ x ∧ x < n ∧ behP es ls S x.toNat = 1 := by
  rw [mem_headsL]
  unfold behL
  rw [map_range_get]
  constructor
  · rintro ⟨h0, h1⟩
    split at h1
    · exact ⟨h0, by omega, Option.some.inj h1⟩
    · cases h1
  · rintro ⟨h0, h1, h2⟩
    exact ⟨h0, by rw [if_pos (by omega), h2]⟩
def RTab (n : Int) (es : List Edge) (ls : List Int) (rs : List Nat) : Prop := rs.length = 2 ^ n.toNat ∧ ∀ (s m : Nat), rs[s]? = some m → m < 2 ^ 9 ∧ ∀ j : Nat, m.testBit j = (rdyB n es ls s j && !s.testBit j)
theorem mask_lt {n : Int} {S : List Int} {m : Nat} (M : MaskOk S m) (h : ∀ k ∈ S, 0 ≤ k ∧ k < n) : m < 2 ^ n.toNat := by
  apply Nat.lt_pow_two_of_testBit
  intro j hj
  rw [M.2]
  exact decide_eq_false fun z => by have := h _ z; omega
theorem mem_bits_mask {n : Int} {S : List Int} {m : Nat} (M : MaskOk S m) (h : ∀ k ∈ S, 0 ≤ k ∧ k < n) (x : Int) : x ∈ bitsOf m ↔ x ∈ S := by
  rw [mem_bitsOf, M.2, decide_eq_true_eq]
  constructor
  · rintro ⟨h0, h1⟩
    rwa [show ((x.toNat : Nat) : Int) = x by omega] at h1
  · intro hx
    have := h x hx
    exact ⟨this.1, by rw [show ((x.toNat : Nat) : Int) = x by omega]; exact hx⟩
theorem ready_eq {n : Int} {es : List Edge} {ls S : List Int} {m r : Nat} {rs : List Nat} (R : RTab n es ls rs) (M : MaskOk S m) (hS : ∀ k ∈ S, 0 ≤ k ∧ k < n) (hr : rs[m]? = some r) : bitsOf r = headsL (behL n es ls S) := by
  refine asc_eq (bitsOf_asc _) (headsL_asc _) fun x => ?_
  rw [mem_bitsOf, mem_heads_beh, (R.2 m r hr).2]
  unfold rdyB behP
  rw [segN_congr (mem_bits_mask M hS), M.2]
  constructor
  · rintro ⟨h0, h1⟩
    simp only [Bool.and_eq_true, decide_eq_true_eq, Bool.not_eq_true', decide_eq_false_iff_not] at h1
    exact ⟨h0, by omega, by rw [if_neg h1.2]; exact h1.1.2⟩
  · rintro ⟨h0, h1, h2⟩
    refine ⟨h0, ?_⟩
    simp only [Bool.and_eq_true, decide_eq_true_eq, Bool.not_eq_true', decide_eq_false_iff_not]
    split at h2
    · cases h2
    · rename_i hx
      exact ⟨⟨by omega, h2⟩, hx⟩
end DL
namespace DL
open PySem PySem.Spec PyProof.Rows L2
section
variable {X : Cx} {e a b c tg iter : Expr} {es : List Expr} {pos : Pos} {t ta tb tc : TDE}
/-- x, y = new list of one's own, value -/
def tdParOS (i j : Nat) (ta : TDA) (tb : TDE) : TDS := fun q ρ => ta ρ fun ds ρ1 => tb ρ1 fun x ρ2 => ∀ m, m ∉ owns ρ2 → q.nx ((ρ2.set i (.own m ds)).set j (.sh x))
end
theorem behL_congr {n : Int} {es : List Edge} {ls S S' : List Int} (h : ∀ x, x ∈ S ↔ x ∈ S') : behL n es ls S = behL n es ls S' := by
  unfold behL
  apply List.map_congr_left
  intro p _
  unfold behP
  rw [segN_congr h]
  simp only [h]
theorem behL_nil {n : Int} {es : List Edge} {ls : List Int} (F : Full n ls) : behL n es ls [] = ls := by
  have hl := F.len
  unfold behL
  apply List.ext_getElem?
  intro j
  rw [map_range_get]
  unfold behP
  by_cases hj : j < n.toNat
  · have hj' : j < ls.length := by omega
    rw [if_pos hj, if_neg (by simp), segN_nil, parC_zero, List.getD_eq_getElem?_getD, List.getElem?_eq_getElem hj']; rfl
  · rw [if_neg hj, List.getElem?_eq_none (by omega)]
theorem behL_step {n : Int} {es : List Edge} {ls S : List Int} (W : WebOk n es) (F : Full n ls) {k : Int} (h0 : 0 ≤ k) (h1 : k < n) (hk : k ∉ S) : flip es k (behL n es ls S) = behL n es ls (S ++ [k]) := by
  have hl := F.len
  unfold flip
  apply List.ext_getElem?
  intro j
  rw [List.getElem?_set, flipL_length, flipL_get]
  unfold behL
  rw [map_range_get, map_range_get, List.length_map, List.length_range]
  by_cases e : k.toNat = j
  · subst e
    have e2 : ((k.toNat : Nat) : Int) = k := by omega
    rw [if_pos rfl, if_pos (by omega), if_pos (by omega)]
    unfold behP
    rw [e2, if_pos (by simp)]
  · rw [if_neg e]
    by_cases hj : j < n.toNat
    · rw [if_pos hj, if_pos hj, Option.map_some]
      congr 1
      have hv := getD_val F hj
      unfold behP
      by_cases hm : (j : Int) ∈ S
      · rw [if_pos hm, if_pos (List.mem_append_left _ hm)]
        split <;> rfl
      · have hm' : (j : Int) ∉ S ++ [k] := fun z => by
          rcases List.mem_append.mp z with z | z
          · exact hm z
          · have : (j : Int) = k := by simpa using z
            omega
        rw [if_neg hm, if_neg hm']
        have eS : segN es (S ++ [k]) j = segN es (k :: S) j := segN_congr fun x => by
          rw [List.mem_append, List.mem_singleton, List.mem_cons]; exact Or.comm
        rw [eS, segN_cons W hk]
        by_cases ha : adj es j k = true
        · rw [if_pos ha, if_pos (mem_nbr.mpr (by rw [adj_symm]; exact ha))]
          exact flip1_par hv
        · rw [if_neg ha, if_neg (fun z => ha (by rw [adj_symm]; exact mem_nbr.mp z))]
          rfl
    · rw [if_neg hj, if_neg hj]; rfl
end DL
namespace DL
open PySem PySem.Spec PyProof.Rows L2
end DL
/-! DL: not in, sorted pairs. -/
namespace DL
open PySem PySem.Spec PyProof.Rows L2
section
variable {X : Cx} {e a b c tg iter : Expr} {es : List Expr} {pos : Pos} {t ta tb tc : TDE}
end
end DL
namespace L2
open PySem PySem.Spec PyProof.Rows
section
variable {X : Cx}
def rExtL (K : PySem.W.Frag) : V → List V → Hp → VK → Prop := fun x vs H Q => ∃ l b xs zs, x = .ref l ∧ vs = [.ref b] ∧ H l = some (.lst xs) ∧ SqL K H b zs ∧ xs.length + zs.length ≤ sizeLine ∧ Q .non (upd H l (.lst (xs ++ zs)))
end
end L2
namespace DL
open PySem PySem.Spec PyProof.Rows L2
section
variable {X : Cx} {e a b c tg iter : Expr} {es : List Expr} {pos : Pos} {t ta tb tc : TDE}
/-- xs.extend(e), e a list that stands already -/
def tdExtendE (i : Nat) (t : TDE) : TDS := fun q ρ => match ρ[i]? with
  | some (.own _ _) => t ρ fun d ρ1 => match ρ1[i]?, d with
    | some (.own a ds), .list es => ds.length + es.length ≤ sizeLine ∧ q.nx (ρ1.set i (.own a (ds ++ es)))
    | _, _ => False
  | _ => False
end
end DL
namespace DL
open PySem PySem.Spec PyProof.Rows L2
/-- the pair of ints that an address of the heap holds -/
def heapPair (h : Heap) : V → Int × Int
  | .ref t => match h.get? t with
    | some o => match o.data with
      | .seq arr _ => match arr.toList with
        | [.int i _, .int j _] => (i, j)
        | _ => (0, 0)
      | _ => (0, 0)
    | none => (0, 0)
  | _ => (0, 0)
def rSortPairs (K : PySem.W.Frag) : List V → Hp → VK → Prop := fun vs H Q => ∃ (a : Addr) (xs : List V) (ps : List (Int × Int)), vs = [.ref a] ∧ SqL K H a xs ∧ DpAll K H xs (ps.map pD) ∧
  ∀ (zs : List (V × (Int × Int))) (l : Addr), zs.Perm (xs.zip ps) → (zs.map (·.2)).Pairwise lexLe → H l = none → Q (.ref l) (upd H l (.lst (zs.map (·.1))))
section
variable {X : Cx}
end
end DL
/-! DL: reversed(range(..)). -/
namespace DL
open PySem PySem.Spec PyProof.Rows L2
section
variable {X : Cx} {e a b c tg iter : Expr} {es : List Expr} {pos : Pos} {t ta tb tc : TDE}
/-- n - 1, n - 2, .., 0 -/
def revD (n : Nat) : List PyData := (List.range n).map fun (k : Nat) => PyData.int ((n : Int) - 1 - (k : Int))
theorem revD_len (n : Nat) : (revD n).length = n := by simp [revD]
theorem itD_rev {K : PySem.W.Frag} {C : Ctx} {ρ1 : DEnv} {H1 : Hp} {n : Int} : ItD K C ρ1 H1 (Itc (0 + (((n - 0).toNat : Nat) : Int) - 1) (-1) (n - 0).toNat) (revD n.toNat) := fun i H' ke => by
  have e : (n - 0).toNat = n.toNat := by omega
  rw [revD_len]
  refine ⟨fun hi => ⟨by show i < (n - 0).toNat; omega, fun x H'' y => ?_⟩, fun hi => by show (n - 0).toNat ≤ i; omega⟩
  obtain ⟨e1, e2⟩ := y
  subst e1
  refine ⟨.rfl, fun as ha => ⟨.int ((n.toNat : Int) - 1 - (i : Int)), ?_, ?_⟩⟩
  · unfold revD
    rw [List.getElem?_map, List.getElem?_range hi]; rfl
  · rw [e2, e]
    have : (0 + ((n.toNat : Nat) : Int) - 1 + (i : Int) * (-1)) = (n.toNat : Int) - 1 - (i : Int) := by omega
    rw [this]
    exact .int _
def tiRev (t : TDE) : TDA := fun ρ q => t ρ fun d ρ1 => match d with
  | .int n => (-(2 ^ 62) ≤ n ∧ n < 2 ^ 62) ∧ q (revD n.toNat) ρ1
  | _ => False
theorem di_rev {p p2 pos2 : Pos} (hg : Gl X "reversed") (hm : X.mg "reversed" = none) (hg2 : Gl X "range") (hm2 : X.mg "range" = none) (ha : DE X a ta)
    (na : starEach [a] X.env = (false, eval a X.env) :: starEach [] X.env := by rfl) : DI X tg (.Call (.Name "reversed" p) [.Call (.Name "range" p2) [a] [] pos2] [] pos) (tiRev ta) := by
  obtain ⟨te, hp, hq⟩ := ha.ex
  refine ⟨_, pi_revR hg hm (prg_1 hg2 hm2 hp na), fun C σ H ρ q R E w k => hq C σ H ρ _ _ E w fun v H1 d ρ1 E1 s1 D1 h1 => ?_⟩
  cases d with
  | int n =>
    cases D1
    exact ⟨n, rfl, by decide, by decide, h1.1.1, h1.1.2, k _ H1 _ ρ1 E1 s1 itD_rev h1.2⟩
  | _ => exact h1.elim
end
end DL
/-! DL: what takes leave as even as it was; tables over states, by numbers. -/
namespace DL
open PySem PySem.Spec PyProof.Rows L2
/-! ### sums -/
theorem sum_add {α : Type} (f g : α → Nat) : ∀ l : List α, (l.map fun x => f x + g x).sum = (l.map f).sum + (l.map g).sum
  | [] => rfl
  | x :: l => by simp only [List.map_cons, List.sum_cons, sum_add f g l]; omega
theorem sum_zero {α : Type} (f : α → Nat) : ∀ l : List α, (∀ x ∈ l, f x = 0) → (l.map f).sum = 0
  | [], _ => rfl
  | x :: l, h => by
    have h1 := h x List.mem_cons_self
    have h2 := sum_zero f l fun y hy => h y (List.mem_cons_of_mem _ hy)
    simp only [List.map_cons, List.sum_cons]; omega
theorem sum_congr {α : Type} (f g : α → Nat) (l : List α) (h : ∀ x ∈ l, f x = g x) : (l.map f).sum = (l.map g).sum := by
  rw [List.map_congr_left h]
theorem sum_one {a v : Nat} : ∀ n : Nat, a < n → ((List.range n).map fun p => if p = a then v else 0).sum = v
  | 0, h => by omega
  | n + 1, h => by
    rw [List.range_succ, List.map_append, List.sum_append]
    simp only [List.map_cons, List.map_nil, List.sum_cons, List.sum_nil]
    by_cases e : n = a
    · rw [if_pos e, sum_zero _ _ fun x hx => if_neg (by have := List.mem_range.mp hx; omega)]; omega
    · rw [if_neg e, sum_one n (by omega)]; omega
/-! ### how even heads, coins and edges are -/
def upN (c : Int) : Nat := if c = 1 then 1 else 0
def cnN (c : Int) : Nat := if c = 2 then 0 else 1
def gc (ls : List Int) (p : Nat) : Int := ls.getD p 2
def esN (es : List Edge) (ls : List Int) : Nat := (es.map fun e => cnN (gc ls e.1.toNat) * cnN (gc ls e.2.toNat)).sum
def totN (es : List Edge) (ls : List Int) : Nat := (ls.map upN).sum + (ls.map cnN).sum + esN es ls
theorem flip_gc {es : List Edge} {k : Nat} {ls : List Int} {p : Nat} (h : p < ls.length) : gc (flip es k ls) p = if p = k then 2 else if adj es k p = true then flip1 (gc ls p) else gc ls p := by
  have hg : ls[p]? = some ls[p] := List.getElem?_eq_getElem h
  have e : gc ls p = ls[p] := by unfold gc; rw [List.getD_eq_getElem?_getD, hg]; rfl
  rw [e]
  unfold gc flip
  rw [List.getD_eq_getElem?_getD, Int.toNat_natCast, List.getElem?_set, flipL_length]
  by_cases hk : p = k
  · subst hk
    rw [if_pos rfl, if_pos h, if_pos rfl]; rfl
  · rw [if_neg (fun z => hk z.symm), if_neg hk, flipL_get, hg]
    by_cases ha : adj es k p = true
    · rw [if_pos ha]
      simp only [Option.map_some, Option.getD_some]
      rw [if_pos (mem_nbr.mpr ha)]
    · rw [if_neg ha]
      simp only [Option.map_some, Option.getD_some]
      rw [if_neg (fun z => ha (mem_nbr.mp z))]
theorem gc_of {ls : List Int} {k : Nat} {x : Int} (h : ls[k]? = some x) : gc ls k = x := by
  unfold gc; rw [List.getD_eq_getElem?_getD, h]; rfl
/-! ### states as numbers -/
def stB (n : Int) (es : List Edge) (ls : List Int) (s : Nat) : List Int := behL n es ls (bitsOf s)
theorem bits_ok {s : Nat} (h : s < 2 ^ 9) : MaskOk (bitsOf s) s := ⟨h, fun j => by
  apply Bool.eq_iff_iff.mpr
  rw [decide_eq_true_eq, mem_bitsOf, Int.toNat_natCast]
  exact ⟨fun z => ⟨by omega, z⟩, fun z => z.2⟩⟩
theorem bits_rng {n : Int} {s : Nat} (h : s < 2 ^ n.toNat) : ∀ k ∈ bitsOf s, 0 ≤ k ∧ k < n := fun k hk => by
  obtain ⟨h0, h1⟩ := mem_bitsOf.mp hk
  refine ⟨h0, ?_⟩
  have g := Nat.ge_two_pow_of_testBit h1
  have : k.toNat < n.toNat := (Nat.pow_lt_pow_iff_right (by decide)).mp (Nat.lt_of_le_of_lt g h)
  omega
theorem bits_le {n : Int} (h9 : n ≤ 9) {s : Nat} (h : s < 2 ^ n.toNat) : s < 2 ^ 9 := Nat.lt_of_lt_of_le h (Nat.pow_le_pow_right (by decide) (by omega))
theorem bits_or {s k : Nat} (x : Int) : x ∈ bitsOf (s ||| 2 ^ k) ↔ x ∈ bitsOf s ++ [(k : Int)] := by
  rw [List.mem_append, List.mem_singleton, mem_bitsOf, mem_bitsOf, Nat.testBit_or, Nat.testBit_two_pow, Bool.or_eq_true, decide_eq_true_eq]
  constructor
  · rintro ⟨h, h1 | h1⟩
    · exact .inl ⟨h, h1⟩
    · exact .inr (by omega)
  · rintro (⟨h, h1⟩ | h)
    · exact ⟨h, .inl h1⟩
    · exact ⟨by omega, .inr (by omega)⟩
theorem stB_zero {n : Int} {es : List Edge} {ls : List Int} (F : Full n ls) : stB n es ls 0 = ls := behL_nil F
theorem stB_step {n : Int} {es : List Edge} {ls : List Int} (W : WebOk n es) (F : Full n ls) {s k : Nat} (hk : (k : Int) < n) (hb : s.testBit k = false) : flip es k (stB n es ls s) = stB n es ls (s ||| 2 ^ k) := by
  unfold stB
  rw [behL_step W F (by omega) hk (fun z => by have := (mem_bitsOf.mp z).2; rw [Int.toNat_natCast, hb] at this; cases this)]
  exact behL_congr fun x => (bits_or x).symm
theorem stB_head {n : Int} {es : List Edge} {ls : List Int} {s : Nat} {k : Int} (h : k ∈ headsL (stB n es ls s)) : 0 ≤ k ∧ k < n ∧ s.testBit k.toNat = false ∧ (stB n es ls s)[k.toNat]? = some 1 := by
  obtain ⟨h0, h1, h2⟩ := mem_heads_beh.mp h
  refine ⟨h0, h1, ?_, (mem_headsL.mp h).2⟩
  cases q : s.testBit k.toNat with
  | false => rfl
  | true =>
    unfold behP at h2
    rw [if_pos (mem_bitsOf.mpr ⟨by omega, by rw [Int.toNat_natCast]; exact q⟩)] at h2
    cases h2
theorem rtab_heads {n : Int} {es : List Edge} {ls : List Int} {s r : Nat} {rs : List Nat} (h9 : n ≤ 9) (R : RTab n es ls rs) (hr : rs[s]? = some r) : bitsOf r = headsL (stB n es ls s) := by
  have hs : s < 2 ^ n.toNat := by rw [← R.1]; exact (List.getElem?_eq_some_iff.mp hr).1
  exact ready_eq R (bits_ok (bits_le h9 hs)) (bits_rng hs) hr
/-- the sum at each turn -/
theorem or_lt {n : Int} {s k : Nat} (hs : s < 2 ^ n.toNat) (hk : (k : Int) < n) : s ||| 2 ^ k < 2 ^ n.toNat :=
  Nat.or_lt_two_pow hs ((Nat.pow_lt_pow_iff_right (by decide)).mpr (by omega))
end DL
/-! DL: how many ways there are to take coins, one behind another; which. -/
namespace DL
open PySem PySem.Spec PyProof.Rows L2
/-- how many ways there are to take m coins, one behind another -/
def cnt (es : List Edge) : Nat → List Int → Nat
  | 0, _ => 1
  | m + 1, h => ((headsL h).map fun k => cnt es m (flip es k h)).sum
/-- the table of the ways on: each is the sum over the takes -/
def OnOk (n : Int) (es : List Edge) (ls : List Int) (on : List Nat) : Prop :=
  on.length = 2 ^ n.toNat ∧ on[2 ^ n.toNat - 1]? = some 1 ∧ ∀ s, s + 1 < 2 ^ n.toNat → on[s]? = some (((headsL (stB n es ls s)).map fun k => on.getD (s ||| 2 ^ k.toNat) 0).sum)
theorem bits_len_or {s k : Nat} (h : s.testBit k = false) : (bitsOf (s ||| 2 ^ k)).length = (bitsOf s).length + 1 := by
  have nd : ∀ m, (bitsOf m).Nodup := fun m => (bitsOf_asc m).imp fun {a b} h => by omega
  have p : (bitsOf (s ||| 2 ^ k)).Perm (bitsOf s ++ [(k : Int)]) := by
    refine (List.perm_ext_iff_of_nodup (nd _) (List.nodup_append.mpr ⟨nd s, by simp, fun a ha b hb => ?_⟩)).mpr fun x => bits_or x
    have : b = k := by simpa using hb
    subst this
    rintro rfl
    have := (mem_bitsOf.mp ha).2
    rw [Int.toNat_natCast, h] at this
    cases this
  rw [p.length_eq, List.length_append]; rfl
theorem bits_full {n : Int} (h0 : 0 ≤ n) : (bitsOf (2 ^ n.toNat - 1)).length = n.toNat := by
  have : bitsOf (2 ^ n.toNat - 1) = (List.range n.toNat).map fun (k : Nat) => (k : Int) := by
    refine asc_eq (bitsOf_asc _) ?_ fun x => ?_
    · have := asc_filter (n := n.toNat) fun _ => true
      rw [filt_true] at this
      exact this
    · rw [mem_bitsOf, Nat.testBit_two_pow_sub_one, decide_eq_true_eq, List.mem_map]
      constructor
      · rintro ⟨h1, h2⟩
        exact ⟨x.toNat, List.mem_range.mpr h2, by omega⟩
      · rintro ⟨k, h1, rfl⟩
        exact ⟨by omega, by rw [Int.toNat_natCast]; exact List.mem_range.mp h1⟩
  rw [this, List.length_map, List.length_range]
theorem full_bits {n : Int} (h0 : 0 ≤ n) {s : Nat} (hs : s < 2 ^ n.toNat) (hl : n.toNat ≤ (bitsOf s).length) : s = 2 ^ n.toNat - 1 := by
  have nd : (bitsOf s).Nodup := (bitsOf_asc s).imp fun {a b} h => by omega
  apply Nat.eq_of_testBit_eq
  intro j
  rw [Nat.testBit_two_pow_sub_one]
  by_cases hj : j < n.toNat
  · rw [decide_eq_true hj]
    apply Classical.byContradiction
    intro hb
    have hb : s.testBit j = false := by simpa using hb
    have sub : ((j : Int) :: bitsOf s) ⊆ (List.range n.toNat).map fun (k : Nat) => (k : Int) := fun x hx => by
      rcases List.mem_cons.mp hx with rfl | h
      · exact List.mem_map.mpr ⟨j, List.mem_range.mpr hj, rfl⟩
      · have := bits_rng hs x h
        exact List.mem_map.mpr ⟨x.toNat, List.mem_range.mpr (by omega), by omega⟩
    have nj : (j : Int) ∉ bitsOf s := fun z => by
      have := (mem_bitsOf.mp z).2
      rw [Int.toNat_natCast, hb] at this
      cases this
    have nd2 : ((j : Int) :: bitsOf s).Nodup := List.nodup_cons.mpr ⟨nj, nd⟩
    have := List.Nodup.length_le_of_subset nd2 sub
    rw [List.length_map, List.length_range, List.length_cons] at this
    omega
  · rw [decide_eq_false hj]
    cases q : s.testBit j with
    | false => rfl
    | true =>
      have := Nat.ge_two_pow_of_testBit q
      have : j < n.toNat := (Nat.pow_lt_pow_iff_right (by decide)).mp (Nat.lt_of_le_of_lt this hs)
      omega
theorem on_cnt {n : Int} {es : List Edge} {ls : List Int} {on : List Nat} (W : WebOk n es) (F : Full n ls) (O : OnOk n es ls on) : ∀ (m s : Nat), s < 2 ^ n.toNat → (bitsOf s).length + m = n.toNat → on[s]? = some (cnt es m (stB n es ls s))
  | 0, s, hs, hl => by
    have := full_bits (by have := W.lo; omega) hs (by omega)
    rw [this, O.2.1]; rfl
  | m + 1, s, hs, hl => by
    have h0 : 0 ≤ n := by have := W.lo; omega
    have hne : s ≠ 2 ^ n.toNat - 1 := fun e => by
      have := bits_full h0
      rw [← e] at this; omega
    rw [O.2.2 s (by omega)]
    congr 1
    show _ = ((headsL (stB n es ls s)).map fun k => cnt es m (flip es k (stB n es ls s))).sum
    refine sum_congr _ _ _ fun k hk => ?_
    obtain ⟨k0, k1, k2, _⟩ := stB_head hk
    have hk' : ((k.toNat : Nat) : Int) = k := by omega
    have st := stB_step W F (s := s) (k := k.toNat) (by omega) k2
    rw [hk'] at st
    rw [st]
    have := on_cnt W F O m (s ||| 2 ^ k.toNat) (or_lt hs (by omega)) (by rw [bits_len_or k2]; omega)
    rw [List.getD_eq_getElem?_getD, this]; rfl
/-! ### all ways to take, one behind another -/
def seqs (es : List Edge) : Nat → List Int → List (List Int × List Int)
  | 0, h => [([], h)]
  | m + 1, h => (seqs es m h).flatMap fun r => (headsL r.2).map fun k => (r.1 ++ [k], flip es k r.2)
/-- how many orders begin so, as the table tells it -/
def begun (es : List Edge) (n : Int) (ls P : List Int) : Nat := match takeAll es ls P with | some h' => cnt es (n.toNat - P.length) h' | none => 0
end DL
/-! DL: sorted lists of any data; what stands in lists and tuples of any data; len(set(..)). -/
namespace DL
open PySem PySem.Spec PyProof.Rows L2
/-! ### sorted(xs), xs any data -/
/-- tuples, the first of them with no item -/
def FirstNil (ds : List PyData) : Prop := ∃ r, ds = .tuple [] :: r ∧ ∀ d ∈ r, ∃ xs, d = .tuple xs
section
variable {prog : Program} {w : World} {A : Around} {E : Value → Shared → Prop} {s : Shared}
theorem call_tuple_lt {Q : Value → Shared → Prop} {l b : Addr} {items items2 : Array Value} {e r : Nat → Bool} (hl : s.heap.IsTuple l items) (hb : s.heap.IsTuple b items2)
    (he : ∀ j (h1 : j < items.size) (h2 : j < items2.size), SeqAt.EqAt A.in1 s items[j] items2[j] (e j)) (hr : ∀ j (h1 : j < items.size) (h2 : j < items2.size), e j = false → SeqAt.RcLt A.in1 s items[j] items2[j] (r j))
    (h : Q (.bool (SeqAt.firstLt e r (decide (items.size < items2.size)) (List.range (min items.size items2.size)))) s) : wpAny (model prog w) A (call (.builtin "tuple.__lt__") [.ref l, .ref b]) Q E s := by
  obtain ⟨⟨cls, dd, data, sl⟩, ho, hc, n, hd⟩ := id hl
  obtain ⟨⟨cls2, dd2, data2, sl2⟩, ho2, hc2, n2, hd2⟩ := id hb
  simp only at hc hd hc2 hd2
  subst hc hd hc2 hd2
  exact call_meets PySem.F.slot_tuple_lt ⟨_, ho, rfl⟩ PySem.F.entry_tuple_lt (PySem.F.args_tuple_lt_2 _ _) (SeqAt.tuple_ltAt l b items items2 n n2 dd dd2 sl sl2 e r) ⟨ho, ho2, he, hr, h⟩
theorem oneLt_tup {xs ys : List PyData} {a b : Value} {as bs : List Addr} {Q : Bool → Shared → Prop} (ra : Reads s.heap a (.tuple xs) as) (rb : Reads s.heap b (.tuple ys) bs) (h : PySem.W.alike (.tuple xs) (.tuple ys) = true)
    (hu : A.units + min (PyData.tuple xs).depth (PyData.tuple ys).depth < cLine) (hq : Q (PySem.W.dataLt (.tuple xs) (.tuple ys)) s) : wpAny (model prog w) A (oneLt' true a b) Q E s := by
  have hal : PySem.W.alikeAll xs ys = true := by simpa [PySem.W.alike] using h
  cases ra with
  | @tuple l o vs n _ as₁ h1 h2 h3 h4 =>
    cases rb with
    | @tuple l' o' vs' n' _ bs₁ k1 k2 k3 k4 =>
      have n1 : vs.size = xs.length := by simpa using SeqAt.ReadsAll.length _ _ _ h4
      have n2 : vs'.size = ys.length := by simpa using SeqAt.ReadsAll.length _ _ _ k4
      rw [PySem.W.dataLt_tuple, ← PySem.W.firstLt_toks xs ys hal, ← n1, ← n2] at hq
      rw [oneLt'_eq]
      simp only [if_true]
      refine wpAny_bind (wpAny_cRoomFor (SeqAt.room_here hu) ?_)
      refine wpAny_bind (wpAny_callSpecialIfBound?_slot (T := "tuple") ⟨_, h1, h2⟩ PySem.F.slot_tuple_lt (call_tuple_lt (e := SeqAt.pairEq xs ys) (r := fun j => PySem.W.dataLt (xs.getD j .none) (ys.getD j .none)) ⟨_, h1, h2, _, h3⟩ ⟨_, k1, k2, _, k3⟩ (fun j j1 j2 => ?_) (fun j j1 j2 hj => ?_) ?_))
      · have := PySem.W.eqAt_alikeAll xs ys A.in1 s vs.toList vs'.toList _ _ h4 k4 hal (SeqAt.room_in hu) j (by simpa using j1) (by simpa using j2)
        simpa using this
      · have := PySem.W.rcLt_alikeAll xs ys A.in1 s vs.toList vs'.toList _ _ h4 k4 hal (SeqAt.room_in hu) j (by simpa using j1) (by simpa using j2) hj
        simpa using this
      · exact wpAny_truthy_bool hq
theorem firsts_any : ∀ (vs : List Value) (ds : List PyData), PySem.W.EachIs (fun v d => ∃ as, Reads s.heap v d as) vs ds → (∀ d ∈ ds, ∃ xs, d = .tuple xs) → ∀ {Q : List (Option Value) → Shared → Prop}, (∀ fs, fs.length = vs.length → Q fs s) → wpAny (model prog w) A (vs.mapM firstOfTuple') Q E s
  | [], _, _, _, _, h => by rw [List.mapM_nil]; exact wpAny_pure (h [] rfl)
  | v :: vs, _, e, ht, Q, h => by
    cases e with
    | @cons _ d _ ds r t =>
      obtain ⟨as, r⟩ := r
      obtain ⟨xs, rfl⟩ := ht d List.mem_cons_self
      cases r with
      | @tuple a o its n _ _ ho hc hd hr =>
        rw [List.mapM_cons]
        refine wpAny_bind ?_
        rw [PySem.W.kas_first_eq]
        refine wpAny_bind (PySem.W.Looks.here (show PySem.W.Looks (model prog w) s.heap (typeOf (.ref a)) o.cls from (PySem.W.Looks.ld ho).andThen .now) ?_)
        rw [hc, if_neg (by first | decide | simp)]
        refine wpAny_bind (listItems_at ho hd (wpAny_pure ?_))
        exact wpAny_bind (firsts_any vs ds t (fun d hd => ht d (List.mem_cons_of_mem _ hd)) (Q := fun bs s' => wpAny (model prog w) A (pure (_ :: bs)) Q E s') fun fs hf => wpAny_pure (h _ (by simp [hf])))
theorem kind_first {vs : List Value} {ds : List PyData} {Q : SortKind → Shared → Prop} (e : PySem.W.EachIs (fun v d => ∃ as, Reads s.heap v d as) vs ds) (hk : FirstNil ds) (h : Q oneType' s) : wpAny (model prog w) A (keyKind' vs.toArray) Q E s := by
  obtain ⟨r, rfl, ht⟩ := hk
  cases e with
  | @cons v _ vs _ r0 t =>
    obtain ⟨as, r0⟩ := r0
    have all : ∀ x ∈ v :: vs, PySem.W.Looks (model prog w) s.heap (typeOf x) (.type "tuple") := fun x hx => by
      have e2 : PySem.W.EachIs (fun v d => ∃ as, Reads s.heap v d as) (v :: vs) (.tuple [] :: r) := .cons ⟨_, r0⟩ t
      obtain ⟨d, hd, as', rr⟩ := e2.left x hx
      have ex : ∃ xs, d = .tuple xs := by
        rcases List.mem_cons.mp hd with rfl | hd
        · exact ⟨[], rfl⟩
        · exact ht d hd
      obtain ⟨xs, rfl⟩ := ex
      exact PySem.W.looks_reads rr
    rw [keyKind'_eq, List.mapM_toArray, map_eq_pure_bind, List.mapM_cons]
    refine wpAny_bind (wpAny_bind (wpAny_bind ?_))
    rw [PySem.W.kas_first_eq]
    refine wpAny_bind ((all v List.mem_cons_self).here ?_)
    rw [if_neg (by first | decide | simp)]
    cases r0 with
    | @tuple a o its n _ _ ho hc hd hr =>
      refine wpAny_bind (listItems_at ho hd (wpAny_pure ?_))
      have e0 : its[0]? = none := by
        have := SeqAt.ReadsAll.length _ _ _ hr
        have h0 : its.size = 0 := by simpa using this
        rw [Array.getElem?_eq_none_iff]; omega
      rw [e0]
      refine wpAny_bind (firsts_any vs r t ht fun fs hf => wpAny_pure (wpAny_pure ?_))
      rw [if_neg (by simp), if_neg (by simp)]
      rw [oneTypeOnly'_eq, List.mapM_toArray, map_eq_pure_bind]
      refine wpAny_bind (wpAny_bind (wpAny_bind (PySem.W.kas_mapM (r := Value.type "tuple") _ (fun x hx Q' hq => (all x hx).here hq) (wpAny_pure ?_))))
      have hall : ((List.map (fun _ => Value.type "tuple") (Value.ref a :: vs)).toArray.all fun x => x == Value.type "tuple") = true := by
        simp only [List.all_toArray, List.all_map, List.all_eq_true]
        intro _ _
        rfl
      have h0 : (List.map (fun _ => Value.type "tuple") (Value.ref a :: vs)).toArray[0]? = some (Value.type "tuple") := by simp
      rw [h0]
      simp only [hall, if_true]
      exact wpAny_pure (wpAny_pure h)
end
theorem sorts_data {prog : Program} {w : World} {A : Around} {s : Shared} {vs : List Value} {ds : List PyData} (e : PySem.W.EachIs (fun v d => ∃ as, Reads s.heap v d as) vs ds) (hal : PySem.W.AllAlike ds)
    (hk : PySem.W.Sortable ds ∨ ((ds.length ≤ 1 ∨ FirstNil ds) ∧ ∀ d ∈ ds, d ≠ .none)) (hu : ∀ d, d ∈ ds → A.units + d.depth < cLine) : PySem.W.SortsAt prog w A s (PySem.W.dataKind s.heap ds) vs := by
  rcases hk with hk | ⟨h1 | h1, hn⟩
  · exact PySem.W.SortsAt.data e hal hk hu
  rotate_left
  · have ht : ∀ d ∈ ds, ∃ xs, d = .tuple xs := by
      obtain ⟨r, rfl, ht⟩ := h1
      intro d hd
      rcases List.mem_cons.mp hd with rfl | hd
      · exact ⟨[], rfl⟩
      · exact ht d hd
    refine ⟨fun v hv => ?_, oneType', fun E x y a b Q ha hb hq => ?_, fun h2 E Q hq => kind_first e h1 hq⟩
    · obtain ⟨d, hd, as, r⟩ := e.left v hv
      exact ⟨_, PySem.W.dataKind_some hal hd r⟩
    · obtain ⟨d, as, hd, ra, rfl⟩ := PySem.W.dataKind_inv ha
      obtain ⟨d', as', hd', rb, rfl⟩ := PySem.W.dataKind_inv hb
      obtain ⟨xs, rfl⟩ := ht d hd
      obtain ⟨ys, rfl⟩ := ht d' hd'
      rw [keyLt'_oneType]
      exact oneLt_tup ra rb (hal _ hd _ hd') (Nat.lt_of_le_of_lt (Nat.add_le_add_left (Nat.min_le_left _ _) _) (hu _ hd)) hq
  · refine ⟨fun v hv => ?_, general', fun E x y a b Q ha hb hq => ?_, fun h2 => absurd h2 (by have := e.length; omega)⟩
    · obtain ⟨d, hd, as, r⟩ := e.left v hv
      exact ⟨_, PySem.W.dataKind_some hal hd r⟩
    · obtain ⟨d, as, hd, ra, rfl⟩ := PySem.W.dataKind_inv ha
      obtain ⟨d', as', hd', rb, rfl⟩ := PySem.W.dataKind_inv hb
      show wpAny _ _ (oneLt' false x y) _ _ _
      exact PySem.W.oneLt_alike (fun z => nomatch z) ra rb (hal d hd d' hd') (hn d hd) (Nat.lt_of_le_of_lt (Nat.add_le_add_left (Nat.min_le_left _ _) _) (hu d hd)) hq
def rSortData (K : PySem.W.Frag) (u : Nat) : List V → Hp → VK → Prop := fun vs H Q => ∃ (a : Addr) (xs : List V) (ds : List PyData), vs = [V.ref a] ∧ SqL K H a xs ∧ L2.DpAll K H xs ds ∧ PySem.W.AllAlike ds ∧
  (PySem.W.Sortable ds ∨ ((ds.length ≤ 1 ∨ FirstNil ds) ∧ ∀ d ∈ ds, d ≠ .none)) ∧ (∀ d ∈ ds, u + 2 + d.depth < cLine) ∧
  ∀ (zs : List (V × PyData)) (l : Addr), zs = (xs.zip ds).mergeSort (PySem.W.dataLe false (·.2)) → H l = none → Q (.ref l) (upd H l (.lst (zs.map (·.1))))
theorem each_zip {h : Heap} : ∀ {xs : List V} {its : List Value} {ds : List PyData} {as : List Addr}, Vals xs its → ReadsAll h its ds as → PySem.W.EachIs (fun v (b : V × PyData) => RelV b.1 v ∧ ∃ as, Reads h v b.2 as) its (xs.zip ds)
  | [], _, _, _, r, q => by cases r; cases q; exact .nil
  | x :: xs, _, _, _, r, q => by
    cases r with
    | cons r1 r2 => cases q with
      | cons q1 q2 => exact .cons ⟨r1, _, q1⟩ (each_zip r2 q2)
theorem each_vals : ∀ {out : List Value} {zs : List (V × PyData)}, PySem.W.EachIs (fun v (b : V × PyData) => RelV b.1 v) out zs → Vals (zs.map (·.1)) out
  | _, _, .nil => .nil
  | _, _, .cons a b => .cons a (each_vals b)
section
variable {X : Cx} {e a b c tg iter : Expr} {es : List Expr} {pos : Pos} {t ta tb tc : TDE}
/-- sorted(xs) of tuples of ints -/
abbrev tI (x : List Int) : PyData := .tuple (x.map .int)
theorem tI_alike (x y : List Int) : PySem.W.alike (tI x) (tI y) = true := PySem.W.alike_ints x y
theorem tI_depth (x : List Int) : (tI x).depth = 1 := by
  show PyData.depthAll _ + 1 = 1
  rw [PySem.W.depth_ints]
theorem tI_le (x y : List Int) : PySem.W.dataLe false id (tI x) (tI y) = decide (x ≤ y) := by
  have := congrFun (congrFun (PySem.W.dataLe_rows (fun z : List Int => z)) x) y
  exact this
theorem tI_perm {ts : List (List Int)} {ds : List PyData} (h : ds.Perm (ts.map tI)) : ∃ ts' : List (List Int), ds = ts'.map tI ∧ ts'.Perm ts := by
  have inj : ∀ (ts : List (List Int)) (ds : List PyData), (∀ d ∈ ds, ∃ t, d = tI t) → ∃ ts' : List (List Int), ds = ts'.map tI := by
    intro ts ds
    induction ds with
    | nil => intro _; exact ⟨[], rfl⟩
    | cons d ds ih =>
      intro h
      obtain ⟨t, rfl⟩ := h d List.mem_cons_self
      obtain ⟨ts', rfl⟩ := ih fun d hd => h d (List.mem_cons_of_mem _ hd)
      exact ⟨t :: ts', rfl⟩
  obtain ⟨ts', rfl⟩ := inj ts ds fun d hd => by
    obtain ⟨t, _, rfl⟩ := List.mem_map.mp (h.mem_iff.mp hd)
    exact ⟨t, rfl⟩
  refine ⟨ts', rfl, ?_⟩
  let back : PyData → List Int := fun d => match d with | .tuple xs => (intsOf xs).getD [] | _ => []
  have hb : ∀ t, back (tI t) = t := fun t => by show (intsOf (t.map .int)).getD [] = t; rw [intsOf_map]; rfl
  have := h.map back
  rw [List.map_map, List.map_map, show back ∘ tI = id from funext hb, List.map_id, List.map_id] at this
  exact this
theorem plainI : ∀ ns : List Int, plainAll (ns.map PyData.int) = true
  | [] => rfl
  | _ :: ns => by
    have := plainI ns
    simp [plainAll, plain, this]
theorem plainTs : ∀ ts : List (List Int), plainAll (ts.map tI) = true
  | [] => rfl
  | t :: ts => by
    have h1 := plainTs ts
    have h2 := plainI t
    simp [plainAll, plain, h1, h2]
theorem un3 {k : Nat} {A : Around} (r : Room k A) : A.units + 3 < cLine := by have := r.un; omega
/-! ### x in xs, any data -/
theorem room_in {A : Around} {xs : List PyData} {d : PyData} (hd : SeqAt.shaped d = true) (hu : A.units + 65 < cLine) : A.units + 1 + min (PyData.depthAll xs) d.depth < cLine := room_in_shaped hd hu
theorem eqv_tI (xs ys : List Int) : PyData.eqv (tI xs) (tI ys) = decide (xs = ys) := eqv_ints xs ys
/-! ### len(set(t)), t a tuple of ints -/
def nubN (ns : List Int) : Nat := ns.eraseDups.length
/-- tuple(range(n)) -/
theorem de_tupRg1 {p p2 pos2 : Pos} (hc : X.calm = true) (hg : Gl X "tuple") (hm : X.mg "tuple" = none) (hg2 : Gl X "range") (hm2 : X.mg "range" = none) (ha : DE X a ta) (na : starEach [a] X.env = (false, eval a X.env) :: starEach [] X.env := by rfl)
    (na2 : starEach [(.Call (.Name "range" p2) [a] [] pos2)] X.env = (false, eval (.Call (.Name "range" p2) [a] [] pos2) X.env) :: starEach [] X.env := by rfl) :
    DE X (.Call (.Name "tuple" p) [.Call (.Name "range" p2) [a] [] pos2] [] pos) (fun ρ q => ta ρ fun d ρ1 => match d with
      | .int n => RgOk 0 n ∧ q (.tuple (rangeD 0 n.toNat)) ρ1
      | _ => False) := by
  obtain ⟨te, hp, hq⟩ := ha.ex
  refine ⟨_, pe_tupRg hc hg hm (prg_1 hg2 hm2 hp na) na2, fun C σ H ρ q Q E h k => hq C σ H ρ _ _ E h fun v H1 d ρ1 E1 s1 D1 h1 => ?_⟩
  cases d with
  | int n =>
    cases D1
    refine ⟨n, rfl, h1.1, fun p hp => ?_⟩
    refine k (.ref p) _ _ ρ1 (E1.le (.upd hp)) (s1.trans (.le (.upd hp))) ?_ h1.2
    have e1 : rgV 0 n = ((List.range n.toNat).map fun (k : Nat) => (0 + (k : Int))).map V.int := by unfold rgV; rw [List.map_map]; simp [Function.comp_def]
    have e2 : rangeD 0 n.toNat = ((List.range n.toNat).map fun (k : Nat) => (0 + (k : Int))).map PyData.int := by unfold rangeD; rw [List.map_map]; rfl
    rw [e1, e2]
    exact .tup ((upd_vis E1 hp)) (DpAll.of_ints _)
  | _ => exact h1.elim
end
end DL
namespace DL
open PySem PySem.Spec PyProof.Rows L2
def isIntD (d : PyData) : Bool := match d with
  | .int _ => true
  | _ => false
end DL
/-! DL: the table of the ways to each state. -/
namespace DL
open PySem PySem.Spec PyProof.Rows L2
def hdB (n : Int) (es : List Edge) (ls : List Int) (s p : Nat) : Bool := decide ((p : Int) ∈ headsL (stB n es ls s))
def toS (n : Int) (cur : List Nat) (A : Nat → Nat → Bool) (t : Nat) : Nat := (if t = 0 then 1 else 0) + ((List.range n.toNat).map fun p => if (t.testBit p && A (t ^^^ 2 ^ p) p) = true then cur.getD (t ^^^ 2 ^ p) 0 else 0).sum
def actB (n : Int) (es : List Edge) (ls : List Int) (i : Nat) (D : List Int) (s p : Nat) : Bool := hdB n es ls s p && (decide (s < i) || (decide (s = i) && decide ((p : Int) ∈ D)))
structure ToSt (n : Int) (es : List Edge) (ls : List Int) (i : Nat) (D : List Int) (cur : List Nat) : Prop where
  len : cur.length = 2 ^ n.toNat
  eq : ∀ t, t < 2 ^ n.toNat → cur.getD t 0 = toS n cur (actB n es ls i D) t
structure ToOk (n : Int) (es : List Edge) (ls : List Int) (to : List Nat) : Prop where
  len : to.length = 2 ^ n.toNat
  eq : ∀ t, t < 2 ^ n.toNat → to.getD t 0 = toS n to (hdB n es ls) t
theorem xor_lt {t p : Nat} (h : t.testBit p = true) : t ^^^ 2 ^ p < t := by
  have e : t &&& (t ^^^ 2 ^ p) = t ^^^ 2 ^ p := by
    apply Nat.eq_of_testBit_eq
    intro j
    rw [Nat.testBit_and, Nat.testBit_xor]
    by_cases q : p = j
    · subst q; rw [Nat.testBit_two_pow_self, h]; rfl
    · rw [Nat.testBit_two_pow_of_ne q]; cases t.testBit j <;> rfl
  have le : t ^^^ 2 ^ p ≤ t := by rw [← e]; exact Nat.and_le_left
  have ne : t ^^^ 2 ^ p ≠ t := fun z => by
    have : (t ^^^ 2 ^ p).testBit p = t.testBit p := congrArg (fun x => x.testBit p) z
    rw [Nat.testBit_xor, Nat.testBit_two_pow_self, h] at this
    cases this
  omega
theorem xor_or {s p : Nat} (h : s.testBit p = false) : (s ||| 2 ^ p) ^^^ 2 ^ p = s := by
  apply Nat.eq_of_testBit_eq
  intro j
  rw [Nat.testBit_xor, Nat.testBit_or]
  by_cases e : p = j
  · subst e; rw [Nat.testBit_two_pow_self, h]; rfl
  · rw [Nat.testBit_two_pow_of_ne e]; cases s.testBit j <;> rfl
theorem or_xor {t p : Nat} (h : t.testBit p = true) : (t ^^^ 2 ^ p) ||| 2 ^ p = t := by
  apply Nat.eq_of_testBit_eq
  intro j
  rw [Nat.testBit_or, Nat.testBit_xor]
  by_cases e : p = j
  · subst e; rw [Nat.testBit_two_pow_self, h]; rfl
  · rw [Nat.testBit_two_pow_of_ne e]; cases t.testBit j <;> rfl
theorem or_gt {s p : Nat} (h : s.testBit p = false) : s < s ||| 2 ^ p := by
  have h1 : (s ||| 2 ^ p).testBit p = true := by rw [Nat.testBit_or, Nat.testBit_two_pow_self, Bool.or_true]
  have := xor_lt h1
  rwa [xor_or h] at this
theorem getD_set {cur : List Nat} {j v t : Nat} (hj : j < cur.length) : (cur.set j v).getD t 0 = if t = j then v else cur.getD t 0 := by
  rw [List.getD_eq_getElem?_getD, List.getElem?_set, List.getD_eq_getElem?_getD]
  by_cases e : t = j
  · subst e; rw [if_pos rfl, if_pos hj, if_pos rfl]; rfl
  · rw [if_neg (fun z => e z.symm), if_neg e]
theorem sum_bump {k v : Nat} (f g : Nat → Nat) (n : Nat) (hk : k < n) (h1 : ∀ p, p < n → p ≠ k → g p = f p) (h2 : g k = f k + v) : ((List.range n).map g).sum = ((List.range n).map f).sum + v := by
  rw [← sum_one (v := v) n hk, ← sum_add]
  refine sum_congr _ _ _ fun p hp => ?_
  by_cases e : p = k
  · subst e; rw [if_pos rfl, h2]
  · rw [if_neg e, h1 p (List.mem_range.mp hp) e]; omega
section
variable {n : Int} {es : List Edge} {ls : List Int}
theorem to_start (h0 : 0 ≤ n) : ToSt n es ls 0 [] ((List.replicate (2 ^ n.toNat) 0).set 0 1) := by
  have hp : 0 < 2 ^ n.toNat := Nat.two_pow_pos _
  refine ⟨by simp, fun t ht => ?_⟩
  unfold toS
  rw [getD_set (by simpa using hp), sum_zero]
  · by_cases e : t = 0
    · rw [if_pos e, if_pos e]
    · rw [if_neg e, if_neg e, List.getD_eq_getElem?_getD, List.getElem?_replicate, if_pos ht]; rfl
  · intro p _
    rw [if_neg]
    unfold actB
    simp
theorem to_step {i : Nat} {D : List Int} {cur : List Nat} {k : Nat} (T : ToSt n es ls i D cur) (hi : i < 2 ^ n.toNat) (hk : (k : Int) ∈ headsL (stB n es ls i)) (hD : (k : Int) ∉ D) :
    ToSt n es ls i (D ++ [(k : Int)]) (cur.set (i ||| 2 ^ k) (cur.getD (i ||| 2 ^ k) 0 + cur.getD i 0)) := by
  obtain ⟨k0, k1, k2, _⟩ := stB_head hk
  rw [Int.toNat_natCast] at k2
  have hj : i ||| 2 ^ k < cur.length := by rw [T.len]; exact or_lt hi k1
  have hgt := or_gt k2
  refine ⟨by rw [List.length_set]; exact T.len, fun t ht => ?_⟩
  rw [getD_set hj]
  unfold toS
  have low : ∀ p, (actB n es ls i (D ++ [(k : Int)]) (t ^^^ 2 ^ p) p) = true → (cur.set (i ||| 2 ^ k) (cur.getD (i ||| 2 ^ k) 0 + cur.getD i 0)).getD (t ^^^ 2 ^ p) 0 = cur.getD (t ^^^ 2 ^ p) 0 := fun p h => by
    rw [getD_set hj, if_neg]
    intro e
    unfold actB at h
    simp only [Bool.and_eq_true, Bool.or_eq_true, decide_eq_true_eq] at h
    omega
  have same : ∀ p, ¬ (p = k ∧ t = i ||| 2 ^ k) → (if (t.testBit p && actB n es ls i (D ++ [(k : Int)]) (t ^^^ 2 ^ p) p) = true then (cur.set (i ||| 2 ^ k) (cur.getD (i ||| 2 ^ k) 0 + cur.getD i 0)).getD (t ^^^ 2 ^ p) 0 else 0) = (if (t.testBit p && actB n es ls i D (t ^^^ 2 ^ p) p) = true then cur.getD (t ^^^ 2 ^ p) 0 else 0) := fun p hp => by
    have e : (t.testBit p && actB n es ls i (D ++ [(k : Int)]) (t ^^^ 2 ^ p) p) = (t.testBit p && actB n es ls i D (t ^^^ 2 ^ p) p) := by
      apply Bool.eq_iff_iff.mpr
      unfold actB
      simp only [Bool.and_eq_true, Bool.or_eq_true, decide_eq_true_eq, List.mem_append, List.mem_singleton]
      constructor
      · rintro ⟨a, b, c⟩
        refine ⟨a, b, ?_⟩
        rcases c with c | ⟨c, d | d⟩
        · exact .inl c
        · exact .inr ⟨c, d⟩
        · exfalso
          have : p = k := by omega
          subst this
          exact hp ⟨rfl, by rw [← c, or_xor a]⟩
      · rintro ⟨a, b, c⟩
        exact ⟨a, b, c.elim .inl fun ⟨x, y⟩ => .inr ⟨x, .inl y⟩⟩
    by_cases q : (t.testBit p && actB n es ls i (D ++ [(k : Int)]) (t ^^^ 2 ^ p) p) = true
    · rw [if_pos q, if_pos (by rw [← e]; exact q)]
      exact low p (by rw [Bool.and_eq_true] at q; exact q.2)
    · rw [if_neg q, if_neg (by rw [← e]; exact q)]
  have T0 := T.eq t ht
  unfold toS at T0
  by_cases e : t = i ||| 2 ^ k
  · rw [if_pos e]
    rw [e] at T0 same ht ⊢
    have tb : (i ||| 2 ^ k).testBit k = true := by rw [Nat.testBit_or, Nat.testBit_two_pow_self, Bool.or_true]
    have a1 : actB n es ls i (D ++ [(k : Int)]) i k = true := by
      unfold actB hdB
      simp [hk]
    have a2 : actB n es ls i D i k = false := by
      unfold actB
      simp [hD]
    have gk : (if ((i ||| 2 ^ k).testBit k && actB n es ls i (D ++ [(k : Int)]) ((i ||| 2 ^ k) ^^^ 2 ^ k) k) = true then (cur.set (i ||| 2 ^ k) (cur.getD (i ||| 2 ^ k) 0 + cur.getD i 0)).getD ((i ||| 2 ^ k) ^^^ 2 ^ k) 0 else 0) = cur.getD i 0 := by
      rw [xor_or k2, tb, a1]
      show (cur.set (i ||| 2 ^ k) _).getD i 0 = _
      rw [getD_set hj]
      exact if_neg (by omega)
    have fk : (if ((i ||| 2 ^ k).testBit k && actB n es ls i D ((i ||| 2 ^ k) ^^^ 2 ^ k) k) = true then cur.getD ((i ||| 2 ^ k) ^^^ 2 ^ k) 0 else 0) = 0 := by
      rw [xor_or k2, tb, a2]; rfl
    have SB := sum_bump (k := k) (v := cur.getD i 0) (fun p => if ((i ||| 2 ^ k).testBit p && actB n es ls i D ((i ||| 2 ^ k) ^^^ 2 ^ p) p) = true then cur.getD ((i ||| 2 ^ k) ^^^ 2 ^ p) 0 else 0) (fun p => if ((i ||| 2 ^ k).testBit p && actB n es ls i (D ++ [(k : Int)]) ((i ||| 2 ^ k) ^^^ 2 ^ p) p) = true then (cur.set (i ||| 2 ^ k) (cur.getD (i ||| 2 ^ k) 0 + cur.getD i 0)).getD ((i ||| 2 ^ k) ^^^ 2 ^ p) 0 else 0) n.toNat (by omega) (fun p _ hp => same p fun z => hp z.1) (by show (if _ then _ else _) = (if _ then _ else _) + _; rw [gk, fk]; omega)
    rw [SB]
    generalize ((List.range n.toNat).map fun p => if ((i ||| 2 ^ k).testBit p && actB n es ls i D ((i ||| 2 ^ k) ^^^ 2 ^ p) p) = true then cur.getD ((i ||| 2 ^ k) ^^^ 2 ^ p) 0 else 0).sum = Z at T0 ⊢
    generalize cur.getD (i ||| 2 ^ k) 0 = Y at T0 ⊢
    omega
  · rw [if_neg e, T0]
    congr 1
    refine sum_congr _ _ _ fun p _ => (same p fun z => e z.2).symm
theorem to_next {i : Nat} {cur : List Nat} (T : ToSt n es ls i (headsL (stB n es ls i)) cur) : ToSt n es ls (i + 1) [] cur := by
  refine ⟨T.len, fun t ht => ?_⟩
  rw [T.eq t ht]
  unfold toS
  congr 1
  refine sum_congr _ _ _ fun p _ => ?_
  have e : actB n es ls i (headsL (stB n es ls i)) (t ^^^ 2 ^ p) p = actB n es ls (i + 1) [] (t ^^^ 2 ^ p) p := by
    apply Bool.eq_iff_iff.mpr
    unfold actB hdB
    simp only [Bool.and_eq_true, Bool.or_eq_true, decide_eq_true_eq, List.not_mem_nil, and_false, or_false]
    constructor
    · rintro ⟨a, b | ⟨b, _⟩⟩ <;> exact ⟨a, by omega⟩
    · rintro ⟨a, b⟩
      refine ⟨a, ?_⟩
      by_cases e : t ^^^ 2 ^ p = i
      · exact .inr ⟨e, by rw [← e]; exact a⟩
      · exact .inl (by omega)
  rw [e]
theorem to_end {cur : List Nat} (T : ToSt n es ls (2 ^ n.toNat) [] cur) : ToOk n es ls cur := by
  refine ⟨T.len, fun t ht => ?_⟩
  rw [T.eq t ht]
  unfold toS
  congr 1
  refine sum_congr _ _ _ fun p _ => ?_
  by_cases hb : t.testBit p = true
  · have := xor_lt hb
    have e : actB n es ls (2 ^ n.toNat) [] (t ^^^ 2 ^ p) p = hdB n es ls (t ^^^ 2 ^ p) p := by
      unfold actB
      rw [decide_eq_true (show t ^^^ 2 ^ p < 2 ^ n.toNat by omega)]
      simp
    rw [e]
  · rw [if_neg (by simp [hb]), if_neg (by simp [hb])]
end
end DL
namespace DL
open PySem PySem.Spec PyProof.Rows L2
section
variable {X : Cx}
/-- sum(xs), xs a list or a tuple of ints -/
theorem cr_sum2 (hc : X.calm = true) : CallR X (.builtin "sum") (fun vs H Q => ∃ (a : Addr) (ns : List Int), vs = [V.ref a] ∧ (SqL X.K H a (ns.map V.int) ∨ SqT X.K H a (ns.map V.int)) ∧ Q (.int ns.sum) H) := by
  intro pins s σ H vs us Q I r h
  obtain ⟨a, ns, rfl, hs | hs, q⟩ := h
  · obtain ⟨its, rv, hl, _⟩ := I.list hs
    rw [Vals.ref1 r]
    exact sum_raw (I.ok.hd hc) hl.isList rv.ints fun h' tk t' hk => ⟨.int _, H, I.kept hk, ⟨_, rfl⟩, q⟩
  · obtain ⟨its, rv, hl, _⟩ := I.tuple hs
    rw [Vals.ref1 r]
    have hi : IntsAre its ns := rv.ints
    obtain ⟨xs, e⟩ := hi.allInts.items
    have hn : numsOf (intItems xs).toList = ns := by rw [← e]; exact hi.numsOf
    rw [nums_intItems] at hn
    rw [e] at hl
    refine PySem.W.ktm_sumG (I.ok.hd hc) hl fun h' tk t' hk => ?_
    rw [preSum_eq, List.take_of_length_le (by simp), hn]
    exact ⟨.int _, H, I.kept hk, ⟨_, rfl⟩, q⟩
theorem l1_sum2 : L1 X (fun vs H Q => ∃ (a : Addr) (ns : List Int), vs = [V.ref a] ∧ (SqL X.K H a (ns.map V.int) ∨ SqT X.K H a (ns.map V.int)) ∧ Q (.int ns.sum) H) (fun d q => match d with
    | .list ds => ∃ ns : List Int, ds = List.map PyData.int ns ∧ q (.int ns.sum)
    | .tuple ds => ∃ ns : List Int, ds = List.map PyData.int ns ∧ q (.int ns.sum)
    | _ => False) := by
  intro C σ ρ H v d qd Q E B w k
  cases d with
  | list ds =>
    obtain ⟨a, vs, rfl, s, D⟩ := B.list
    obtain ⟨ns, rfl, w⟩ := w
    cases DpAll.ints D
    exact ⟨a, ns, rfl, .inl s, k _ H _ .rfl (.int _) w⟩
  | tuple ds =>
    obtain ⟨a, vs, rfl, s, D⟩ := B.tup
    obtain ⟨ns, rfl, w⟩ := w
    cases DpAll.ints D
    exact ⟨a, ns, rfl, .inr s, k _ H _ .rfl (.int _) w⟩
  | _ => exact False.elim w
end
end DL
namespace DL
open PySem PySem.Spec PyProof.Rows L2
theorem bits_inj {s t : Nat} (h : bitsOf s = bitsOf t) : s = t := by
  apply Nat.eq_of_testBit_eq
  intro j
  apply Bool.eq_iff_iff.mpr
  have := mem_bitsOf (m := s) (j := (j : Int))
  rw [h, mem_bitsOf, Int.toNat_natCast] at this
  constructor
  · intro z; exact (this.mpr ⟨by omega, z⟩).2
  · intro z; exact (this.mp ⟨by omega, z⟩).2
end DL
namespace DL
open PySem PySem.Spec PyProof.Rows L2
end DL
namespace DL
open PySem PySem.Spec PyProof.Rows L2
theorem bits_st {n : Int} {s : Nat} (h : s < 2 ^ n.toNat) : StOk n (bitsOf s) := ⟨bitsOf_asc s, bits_rng h⟩
theorem sh_tI (x : List Int) : SeqAt.shaped (tI x) = true := sh_lD x
end DL
namespace DL
open PySem PySem.Spec PyProof.Rows L2
end DL
/-! DL: tuples joined; the table of the ways on, filled from its end. -/
namespace DL
open PySem PySem.Spec PyProof.Rows L2
section
variable {X : Cx}
end
/-- the table, filled down to state i -/
structure OnSt (n : Int) (es : List Edge) (ls : List Int) (i : Nat) (cur : List Nat) : Prop where
  len : cur.length = 2 ^ n.toNat
  last : cur[2 ^ n.toNat - 1]? = some 1
  eq : ∀ s, i ≤ s → s + 1 < 2 ^ n.toNat → cur[s]? = some (((headsL (stB n es ls s)).map fun k => cur.getD (s ||| 2 ^ k.toNat) 0).sum)
section
variable {n : Int} {es : List Edge} {ls : List Int}
theorem on_start : OnSt n es ls (2 ^ n.toNat - 1) ((List.replicate (2 ^ n.toNat) 0).set (2 ^ n.toNat - 1) 1) := by
  have hp : 0 < 2 ^ n.toNat := Nat.two_pow_pos _
  refine ⟨by simp, ?_, fun s h1 h2 => by omega⟩
  rw [List.getElem?_set_self (by rw [List.length_replicate]; omega)]
theorem on_step {i : Nat} {cur : List Nat} (O : OnSt n es ls (i + 1) cur) (hi : i + 1 < 2 ^ n.toNat) : OnSt n es ls i (cur.set i (((headsL (stB n es ls i)).map fun k => cur.getD (i ||| 2 ^ k.toNat) 0).sum)) := by
  have hl := O.len
  have key : ∀ s, i ≤ s → (((headsL (stB n es ls s)).map fun k => (cur.set i (((headsL (stB n es ls i)).map fun k => cur.getD (i ||| 2 ^ k.toNat) 0).sum)).getD (s ||| 2 ^ k.toNat) 0).sum) = ((headsL (stB n es ls s)).map fun k => cur.getD (s ||| 2 ^ k.toNat) 0).sum := fun s hs => by
    refine sum_congr _ _ _ fun k hk => ?_
    obtain ⟨_, _, k2, _⟩ := stB_head hk
    have := or_gt k2
    rw [getD_set (by omega), if_neg (by omega)]
  refine ⟨by rw [List.length_set]; exact hl, ?_, fun s h1 h2 => ?_⟩
  · rw [List.getElem?_set_ne (by omega)]; exact O.last
  · rw [key s h1]
    by_cases e : s = i
    · subst e
      rw [List.getElem?_set_self (by omega)]
    · rw [List.getElem?_set_ne (by omega)]
      exact O.eq s (by omega) h2
theorem on_end {cur : List Nat} (O : OnSt n es ls 0 cur) : OnOk n es ls cur := ⟨O.len, O.last, fun s h => O.eq s (by omega) h⟩
theorem heads_len {h : List Int} (L : LayOk n h) : (headsL h).length ≤ n.toNat := by
  unfold headsL
  rw [List.length_map]
  have := List.length_filter_le (fun j => decide (h[j]? = some 1)) (List.range h.length)
  rw [List.length_range] at this
  have := L.len
  omega
end
/-- what the law keeps of a way to take: the places, the laying behind them -/
def rD (r : List Int × List Int) : PyData := .tuple [tI r.1, lD r.2]
end DL
namespace DL
open PySem PySem.Spec PyProof.Rows L2
theorem rev_step {d : PyData} {ds : List PyData} {m j : Nat} (h : d :: ds = (revD m).drop j) : j < m ∧ d = .int ((m : Int) - 1 - (j : Int)) ∧ ds = (revD m).drop (j + 1) := by
  have hl : j < (revD m).length := by
    apply Nat.lt_of_not_le
    intro h'
    rw [List.drop_eq_nil_of_le h'] at h
    cases h
  rw [List.drop_eq_getElem_cons hl] at h
  obtain ⟨h1, h2⟩ := List.cons.inj h
  have hl' := hl
  rw [revD_len] at hl'
  have e : (revD m)[j]? = some (.int ((m : Int) - 1 - (j : Int))) := by unfold revD; rw [List.getElem?_map, List.getElem?_range hl']; rfl
  refine ⟨hl', ?_, h2⟩
  rw [h1]
  exact Option.some.inj ((List.getElem?_eq_getElem hl).symm.trans e)
theorem sum_cast {α : Type} (f : α → Nat) : ∀ l : List α, (l.map fun x => ((f x : Nat) : Int)).sum = (((l.map f).sum : Nat) : Int)
  | [] => rfl
  | x :: l => by rw [List.map_cons, List.map_cons, List.sum_cons, List.sum_cons, sum_cast f l, Int.natCast_add]
end DL
namespace DL
open PySem PySem.Spec PyProof.Rows L2
def nxt (es : List Edge) (r : List Int × List Int) : List (List Int × List Int) := (headsL r.2).map fun k => (r.1 ++ [k], flip es k r.2)
end DL
namespace DL
open PySem PySem.Spec PyProof.Rows L2
/-- all orders that clear, as the law lists them -/
def ords (es : List Edge) (n : Int) (ls : List Int) : List (List Int) := (seqs es n.toNat ls).map (·.1)
end DL
/-! DL: the orders in their row; numbers of orders; ratios. -/
namespace DL
open PySem PySem.Spec PyProof.Rows L2
def oS (es : List Edge) (m : Nat) (h : List Int) : List (List Int) := (seqs es m h).map (·.1)
/-- the number of an order among those that can be taken -/
def numO (es : List Edge) : List Int → List Int → Nat
  | _, [] => 0
  | h, k :: P => (((headsL h).filter fun j => decide (j < k)).map fun j => cnt es P.length (flip es j h)).sum + numO es (flip es k h) P
/-! ### ratios -/
def nrm (a b : Nat) : Nat × Nat := (a / Nat.gcd a b, b / Nat.gcd a b)
def rtD (p : Nat × Nat) : PyData := .tuple [.int (p.1 : Nat), .int (p.2 : Nat)]
end DL
namespace DL
open PySem PySem.Spec PyProof.Rows L2
section
variable {X : Cx} {a b : Expr} {pos : Pos}
end
end DL
namespace DL
open PySem PySem.Spec PyProof.Rows L2
/-- how many of the ways on from a state begin with a place -/
def cAt (n : Int) (es : List Edge) (ls S : List Int) (k : Nat) : Nat := if (k : Int) ∈ headsL (behL n es ls S) then cnt es (n.toNat - S.length - 1) (flip es k (behL n es ls S)) else 0
end DL
namespace DL
open PySem PySem.Spec PyProof.Rows L2
end DL
namespace DL
open PySem PySem.Spec PyProof.Rows L2
def fac : Nat → Nat
  | 0 => 1
  | m + 1 => (m + 1) * fac m
section
variable {n : Int} {es : List Edge} {ls P : List Int}
end
end DL
/-! DL: the next order; tuples beside one another; an item's place in a list. -/
namespace DL
open PySem PySem.Spec PyProof.Rows L2
section
variable {X : Cx} {a b : Expr} {ta tb : TDE}
end
/-! ### the next order -/
def nxO (es : List Edge) (h P : List Int) : Option (List Int) := ((oS es P.length h).filter fun r => decide (P < r)).head?
def grO (es : List Edge) (h : List Int) (p : Int) (m : Nat) : Option (List Int) := ((headsL h).filter fun k => decide (p < k) && decide (0 < cnt es m (flip es k h))).head?.bind fun k => (oS es m (flip es k h)).head?.map fun r => k :: r
def oD : Option (List Int) → PyData
  | none => .none
  | some P => tI P
end DL
namespace DL
end DL
namespace DL
open PySem PySem.Spec PyProof.Rows L2
end DL
/-! DL: what is reached from a place; parts; forests; sides. -/
namespace DL
open PySem PySem.Spec PyProof.Rows L2
/-! ### what is reached -/
inductive Rch (R : Int → Int → Prop) : Int → Int → Prop
  | refl (x : Int) : Rch R x x
  | step {x y z : Int} : Rch R x y → R y z → Rch R x z
section
variable {R R' : Int → Int → Prop}
theorem Rch.trans {x y z : Int} (h : Rch R x y) (h2 : Rch R y z) : Rch R x z := by
  induction h2 with
  | refl => exact h
  | step _ r ih => exact .step ih r
theorem Rch.symm (hs : ∀ x y, R x y → R y x) {x y : Int} (h : Rch R x y) : Rch R y x := by
  induction h with
  | refl => exact .refl _
  | step _ r ih => exact Rch.trans (.step (.refl _) (hs _ _ r)) ih
theorem Rch.mono (hm : ∀ x y, R x y → R' x y) {x y : Int} (h : Rch R x y) : Rch R' x y := by
  induction h with
  | refl => exact .refl _
  | step _ r ih => exact .step ih (hm _ _ r)
end
def Con (es : List Edge) : Int → Int → Prop := Rch fun x y => adj es x y = true
theorem Con.symm {es : List Edge} {x y : Int} (h : Con es x y) : Con es y x := Rch.symm (fun _ _ h => by rw [adj_symm]; exact h) h
theorem Con.sub {es es' : List Edge} (hm : ∀ e ∈ es, e ∈ es') {x y : Int} (h : Con es x y) : Con es' x y := Rch.mono (fun a b h => by
  rcases adj_iff.mp h with h | h
  · exact adj_iff.mpr (.inl (hm _ h))
  · exact adj_iff.mpr (.inr (hm _ h))) h
def plc (n : Int) : List Int := (List.range n.toNat).map fun (k : Nat) => (k : Int)
theorem mem_plc {n x : Int} : x ∈ plc n ↔ 0 ≤ x ∧ x < n := by
  unfold plc
  rw [List.mem_map]
  constructor
  · rintro ⟨k, hk, rfl⟩
    have := List.mem_range.mp hk
    omega
  · rintro ⟨h0, h1⟩
    exact ⟨x.toNat, List.mem_range.mpr (by omega), by omega⟩
theorem plc_asc (n : Int) : (plc n).Pairwise (· < ·) := by
  have := asc_filter (n := n.toNat) fun _ => true
  rwa [filt_true] at this
theorem plc_nd (n : Int) : (plc n).Nodup := (plc_asc n).imp fun {a b} h => by omega
theorem plc_len (n : Int) : (plc n).length = n.toNat := by unfold plc; rw [List.length_map, List.length_range]
open Classical in
noncomputable def dec (P : Prop) : Bool := decide P
theorem dec_iff {P : Prop} : dec P = true ↔ P := by
  unfold dec
  exact @decide_eq_true_iff P (Classical.propDecidable P)
theorem dec_not {P : Prop} (h : ¬ P) : dec P = false := Bool.eq_false_iff.mpr fun z => h (dec_iff.mp z)
def Rep (es : List Edge) (p : Int) : Prop := ∀ r, 0 ≤ r → r < p → ¬ Con es r p
noncomputable def reps (n : Int) (es : List Edge) : List Int := (plc n).filter fun p => dec (Rep es p)
structure FEs (n : Int) (es : List Edge) : Prop where
  nd : es.Nodup
  rng : ∀ e ∈ es, 0 ≤ e.1 ∧ e.1 < e.2 ∧ e.2 < n
  br : ∀ e ∈ es, ¬ Con (es.filter fun z => decide (z ≠ e)) e.1 e.2
theorem ne_self {α : Type} [DecidableEq α] {e : α} {l : List α} (h : e ∉ l) : l.filter (fun z => decide (z ≠ e)) = l :=
  List.filter_eq_self.mpr fun z hz => decide_eq_true (show z ≠ e from fun q => h (by rw [← q]; exact hz))
theorem FEs.sub {n : Int} {es es' : List Edge} (F : FEs n es) (nd : es'.Nodup) (h : ∀ e ∈ es', e ∈ es) : FEs n es' :=
  ⟨nd, fun e he => F.rng e (h e he), fun e he c => F.br e (h e he) (c.sub fun z hz => by
    obtain ⟨z1, z2⟩ := List.mem_filter.mp hz
    exact List.mem_filter.mpr ⟨h z z1, z2⟩)⟩
theorem FEs.tail {n : Int} {e : Edge} {es : List Edge} (F : FEs n (e :: es)) : FEs n es ∧ ¬ Con es e.1 e.2 := by
  obtain ⟨h1, h2⟩ := List.nodup_cons.mp F.nd
  refine ⟨F.sub h2 fun z hz => List.mem_cons_of_mem _ hz, fun c => F.br e List.mem_cons_self ?_⟩
  rw [List.filter_cons_of_neg (by simp), ne_self h1]
  exact c
/-- the places of a set, the edges within -/
noncomputable def setL (n : Int) (S : Int → Prop) : List Int := (plc n).filter fun x => dec (S x)
noncomputable def inE (es : List Edge) (S : Int → Prop) : List Edge := es.filter fun e => dec (S e.1 ∧ S e.2)
end DL
namespace DL
open PySem PySem.Spec PyProof.Rows L2
/-- what is reached from a place, without some -/
def Bar (es : List Edge) (b : Nat) (x y : Int) : Prop := adj es x y = true ∧ b.testBit y.toNat = false
noncomputable def compL (n : Int) (es : List Edge) (p : Int) : List Int := (plc n).filter fun x => dec (Con es p x)
/-- what is fresh -/
def freshN (m f b : Nat) : Nat := (m ^^^ (m &&& f)) ^^^ ((m ^^^ (m &&& f)) &&& b)
end DL
/-! DL: a dict that remembers answers, given from call to call. -/
namespace DL
open PySem PySem.Spec PyProof.Rows L2
theorem keyI_inj : ∀ {a b : List Int}, keyI a = keyI b → a = b
  | [], [], _ => rfl
  | [], _ :: _, h => nomatch h
  | _ :: _, [], h => nomatch h
  | x :: a, y :: b, h => by
    obtain ⟨h1, h2⟩ := List.cons.inj (show Sum.inl x :: keyI a = Sum.inl y :: keyI b from h)
    cases h1
    rw [keyI_inj h2]
theorem keyI_kV (k : List Int) : (keyI k).map kV = k.map V.int := by
  unfold keyI
  rw [List.map_map]
  rfl
def memV (kvs : List (List Int × V × PyData)) : List (List Key × V) := kvs.map fun t => (keyI t.1, t.2.1)
def memPut (kvs : List (List Int × V × PyData)) (k : List Int) (v : V) (d : PyData) : List (List Int × V × PyData) :=
  if k ∈ kvs.map (·.1) then kvs.map fun t => if t.1 = k then (t.1, v, d) else t else kvs ++ [(k, v, d)]
theorem memPut_V (kvs : List (List Int × V × PyData)) (k : List Int) (v : V) (d : PyData) : putK (memV kvs) (keyI k) v = memV (memPut kvs k v d) := by
  have ha : ((memV kvs).any fun kv => decide (kv.1 = keyI k)) = decide (k ∈ kvs.map (·.1)) := by
    apply Bool.eq_iff_iff.mpr
    rw [List.any_eq_true, decide_eq_true_eq, List.mem_map]
    unfold memV
    constructor
    · rintro ⟨x, hx, e⟩
      obtain ⟨t, ht, rfl⟩ := List.mem_map.mp hx
      exact ⟨t, ht, keyI_inj (of_decide_eq_true e)⟩
    · rintro ⟨t, ht, rfl⟩
      exact ⟨_, List.mem_map.mpr ⟨t, ht, rfl⟩, decide_eq_true rfl⟩
  unfold putK memPut
  rw [ha]
  by_cases q : k ∈ kvs.map (·.1)
  · rw [if_pos (decide_eq_true q), if_pos q]
    unfold memV
    rw [List.map_map, List.map_map]
    apply List.map_congr_left
    intro t _
    simp only [Function.comp]
    by_cases e : t.1 = k
    · rw [if_pos (by rw [e]), if_pos e]
    · rw [if_neg (fun z => e (keyI_inj z)), if_neg e]
  · rw [if_neg (by simpa using q), if_neg q]
    unfold memV
    rw [List.map_append]
    rfl
theorem memPut_keys {kvs : List (List Int × V × PyData)} {k : List Int} {v : V} {d : PyData} : (memPut kvs k v d).map (·.1) = if k ∈ kvs.map (·.1) then kvs.map (·.1) else kvs.map (·.1) ++ [k] := by
  unfold memPut
  by_cases q : k ∈ kvs.map (·.1)
  · rw [if_pos q, if_pos q, List.map_map]
    apply List.map_congr_left
    intro t _
    simp only [Function.comp]
    by_cases e : t.1 = k
    · rw [if_pos e]
    · rw [if_neg e]
  · rw [if_neg q, if_neg q, List.map_append]
    rfl
theorem MemOk.put {K : PySem.W.Frag} {hH H : Hp} {a : Addr} {f f' : List Int → PyData → Prop} {ks : List (List Int)} {kvs : List (List Int × V × PyData)} (h2 : ∀ t ∈ kvs, Dp K hH t.2.1 t.2.2 ∧ f t.1 t.2.2) (h3 : ∀ k ∈ ks, ∃ t ∈ kvs, t.1 = k) (h4 : (kvs.map (·.1)).Nodup) {k : List Int} {v : V} {d : PyData} (D : Dp K hH v d) (hff : ∀ k' z, k' ≠ k → f k' z → f' k' z) (hf : f' k d) :
    MemOk K hH (upd H a (.dT (putK (memV kvs) (keyI k) v))) a f' (k :: ks) := by
  refine ⟨memPut kvs k v d, by rw [upd_same, memPut_V kvs k v d]; rfl, fun t ht => ?_, fun k' hk' => ?_, ?_⟩
  · unfold memPut at ht
    by_cases q : k ∈ kvs.map (·.1)
    · rw [if_pos q] at ht
      obtain ⟨u, hu, rfl⟩ := List.mem_map.mp ht
      by_cases e : u.1 = k
      · rw [if_pos e]; exact ⟨D, by rw [e]; exact hf⟩
      · rw [if_neg e]; exact ⟨(h2 u hu).1, hff _ _ e (h2 u hu).2⟩
    · rw [if_neg q] at ht
      rcases List.mem_append.mp ht with z | z
      · exact ⟨(h2 t z).1, hff _ _ (fun e => q (List.mem_map.mpr ⟨t, z, e⟩)) (h2 t z).2⟩
      · rw [List.mem_singleton.mp z]; exact ⟨D, hf⟩
  · have : k' ∈ (memPut kvs k v d).map (·.1) := by
      rw [memPut_keys]
      rcases List.mem_cons.mp hk' with e | e
      · subst e
        by_cases q : k' ∈ kvs.map (·.1)
        · rw [if_pos q]; exact q
        · rw [if_neg q]; simp
      · obtain ⟨t, ht, rfl⟩ := h3 k' e
        have m : t.1 ∈ kvs.map (·.1) := List.mem_map.mpr ⟨t, ht, rfl⟩
        by_cases q : k ∈ kvs.map (·.1)
        · rw [if_pos q]; exact m
        · rw [if_neg q]; exact List.mem_append_left _ m
    obtain ⟨t, ht, e⟩ := List.mem_map.mp this
    exact ⟨t, ht, e⟩
  · rw [memPut_keys]
    by_cases q : k ∈ kvs.map (·.1)
    · rw [if_pos q]; exact h4
    · rw [if_neg q]
      exact List.nodup_append.mpr ⟨h4, by simp, fun x hx y hy e => q (by
        have : y = k := by simpa using hy
        rw [← this, ← e]; exact hx)⟩
section
variable {X : Cx} {e a b c tg iter : Expr} {es : List Expr} {pos : Pos} {t ta tb tc : TDE}
/-- key not in d, d a dict that remembers -/
def tdNotMem (i j : Nat) : TDT := fun ρ q => match ρ[i]?, ρ[j]? with
  | some (.mem a f ks), some (.sh (.tuple ds)) => ∃ k : List Int, ds = k.map PyData.int ∧ q true ρ ∧ q false (ρ.set i (.mem a f (k :: ks)))
  | _, _ => False
/-- d[key] -/
def tdMemGet (i j : Nat) : TDE := fun ρ q => match ρ[i]?, ρ[j]? with
  | some (.mem _ f ks), some (.sh (.tuple ds)) => ∃ k : List Int, ds = k.map PyData.int ∧ k ∈ ks ∧ ∀ z, f k z → q z ρ
  | _, _ => False
/-- d[key] = value -/
def tdMemPut (i j : Nat) (tv : TDE) : TDS := fun q ρ => tv ρ fun z ρ1 => match ρ1[i]?, ρ1[j]? with
  | some (.mem a f ks), some (.sh (.tuple ds)) => ∃ (k : List Int) (f' : List Int → PyData → Prop), ds = k.map PyData.int ∧ (∀ k' z', k' ≠ k → f k' z' → f' k' z') ∧ f' k z ∧ (∃ U : List (List Int), U.length < sizeLine ∧ ∀ k z, f k z → k ∈ U) ∧ q.nx (ρ1.set i (.mem a f' (k :: ks)))
  | _, _ => False
end
end DL
namespace DL
open PySem PySem.Spec PyProof.Rows L2
abbrev SDM := List PyData → (List Int → PyData → Prop) → (PyData → Prop) → Prop
/-- what a def promises that is given data and, last, a dict that remembers -/
def spM (K : PySem.W.Frag) (n : Nat) (sd : SDM) : Sp := fun vs H Q _ => vs.length = n + 1 ∧ ∃ (r : Addr) (ws : List V) (as : List Addr) (ds : List PyData) (f : List Int → PyData → Prop) (ks : List (List Int)) (q0 : PyData → Prop), vs = ws ++ [.ref r] ∧ r ∉ as ∧ (∀ a ∈ as, ∃ o, H a = some o ∧ ∀ xs, o ≠ HO.tup xs) ∧
  MemOk K (hide (as ++ [r]) H) H r f ks ∧ DpAll K (hide (as ++ [r]) H) ws ds ∧ sd ds f q0 ∧
  ∀ d, q0 d → ∀ v H', (∀ b o, b ≠ r → H b = some o → H' b = some o) → MemOk K (hide (as ++ [r]) H') H' r f ks → Dp K (hide (as ++ [r]) H') v d → Q v H'
def envM (N : List Str) (ds : List PyData) (r : Addr) (f : List Int → PyData → Prop) (ks : List (List Int)) : DEnv := ds.map Slot.sh ++ Slot.mem r f ks :: List.replicate (N.length - (ds.length + 1)) Slot.un
section
variable {X : Cx} {e a b c tg iter : Expr} {es : List Expr} {pos : Pos} {t ta tb tc : TDE}
/-- f(e1, e2, d), d a dict that remembers -/
def tdCallM (i : Nat) (sd : SDM) (ta tb : TDE) : TDE := fun ρ q => ta ρ fun d1 ρ1 => tb ρ1 fun d2 ρ2 => match ρ2[i]? with
  | some (.mem _ f _) => sd [d1, d2] f fun d => q d ρ2
  | _ => False
/-- name, name, name = value, value, {} : a dict that is to remember -/
def tdParSSM (i j l : Nat) (ta tb : TDE) : TDS := fun q ρ => ta ρ fun x ρ1 => tb ρ1 fun y ρ2 => ∀ m, m ∉ owns ρ2 → ∃ f, q.nx (((ρ2.set l (.mem m f [])).set i (.sh x)).set j (.sh y))
end
end DL
namespace DL
open PySem PySem.Spec PyProof.Rows L2
/-- how many coins lie -/
def coins (ls : List Int) : Nat := (ls.filter fun x => decide (x ≠ 2)).length
/-- all lists over 0, 1, 2 -/
def allL : Nat → List (List Int)
  | 0 => [[]]
  | n + 1 => (allL n).flatMap fun l => [0 :: l, 1 :: l, 2 :: l]
/-- what the counts of orders are remembered as -/
def cntRel (n : Int) (es : List Edge) : List Int → PyData → Prop := fun k z => LayOk n k ∧ z = .int (cnt es (coins k) k : Nat)
end DL
namespace DL
open PySem PySem.Spec PyProof.Rows L2
section
variable {X : Cx} {e a b c tg iter : Expr} {es : List Expr} {pos : Pos} {t ta tb tc : TDE}
end
end DL
namespace DL
open PySem PySem.Spec PyProof.Rows L2
section
variable {X : Cx}
/-- xs + ys, lists that nobody changes any more: a new one -/
def rCatL (K : PySem.W.Frag) : R2 := fun x y H Q => ∃ a b xs ys, x = V.ref a ∧ y = V.ref b ∧ SqL K H a xs ∧ SqL K H b ys ∧ xs.length + ys.length ≤ sizeLine ∧ ∀ p, H p = none → Q (.ref p) (upd H p (.lst (xs ++ ys)))
theorem op_catL : OpR X (binaryOp .Add) (rCatL X.K) := by
  intro pins s σ H x y v u Q I rx ry h
  obtain ⟨a, b, xs, ys, rfl, rfl, ha, hb, hz, q⟩ := h
  cases rx
  cases ry
  obtain ⟨its, r1, ⟨⟨cls, dd, data, sl⟩, n, ho, hc, _, hd⟩, _⟩ := I.list ha
  obtain ⟨its2, r2, ⟨⟨cls2, dd2, data2, sl2⟩, n2, ho2, hc2, _, hd2⟩, _⟩ := I.list hb
  simp only at hc hd hc2 hd2
  subst hc hd hc2 hd2
  have l1 := r1.length
  have l2 := r2.length
  have e : its.toArray ++ its2.toArray = (its ++ its2).toArray := by simp
  refine concat_meets ⟨_, ho, rfl⟩ ⟨_, ho2, rfl⟩ noFill_list_add seq_list_add PySem.F.slot_list_add PySem.F.entry_list_add (PySem.F.args_list_add_2 _ _) (list_addW a b its.toArray its2.toArray n n2 dd dd2 sl sl2 (by rw [List.size_toArray, List.size_toArray]; omega)) ⟨ho, ho2, ?_⟩
  rw [e]
  exact ⟨.ref _, _, I.lnew (t' := s.toks) (r1.append r2) (by rw [List.length_append]; omega), rfl, q _ I.fresh⟩
theorem l_addL : LOp X (binaryOp .Add) (fun x y q => match x, y with
    | .list ds, .list es => ds.length + es.length ≤ sizeLine ∧ q (.list (ds ++ es))
    | _, _ => False) := by
  refine ⟨rCatL X.K, op_catL, ?_⟩
  intro as H x y dx dy qd Q ex Dx Dy w k
  cases dx with
  | list ds => cases dy with
    | list es =>
      obtain ⟨a, vs, rfl, s, D⟩ := Dp.list_of Dx
      obtain ⟨b, ws, rfl, s', D'⟩ := Dp.list_of Dy
      have l1 := DpAll.length D
      have l2 := DpAll.length D'
      obtain ⟨w1, w2⟩ := w
      refine ⟨a, b, vs, ws, rfl, rfl, SqL.le hide_Le s, SqL.le hide_Le s', by omega, fun p hp => ?_⟩
      have l4 : Le H (upd H p (.lst (vs ++ ws))) := .upd hp
      have np : p ∉ as := fun z => by obtain ⟨o, e, _⟩ := ex p z; rw [hp] at e; cases e
      exact k _ _ _ l4 (.lst (SqL.of (by rw [hide_out np]; exact upd_same)) (DpAll.le (hide_le l4) (DpAll.append D D'))) w2
    | _ => exact False.elim w
  | _ => exact False.elim w
end
end DL
/-! DL: the worth of a laying for two hands; parts beside one another add without carry. -/
namespace DL
open PySem PySem.Spec PyProof.Rows L2
def mexN (l : List Nat) : Nat := ((List.range (l.length + 1)).find? fun x => decide (x ∉ l)).getD 0
/-- the worth of a laying -/
def wor (es : List Edge) : Nat → List Int → Nat
  | 0, _ => 0
  | m + 1, h => mexN ((headsL h).map fun k => wor es m (flip es k h))
def wrt (es : List Edge) (h : List Int) : Nat := wor es (coins h) h
/-- only the coins of some places -/
def resL (S : Int → Bool) (h : List Int) : List Int := h.mapIdx fun j x => if S (j : Int) = true then x else 2
end DL
namespace DL
open PySem PySem.Spec PyProof.Rows L2
/-! ### states of a laying with empty places -/
def behQ (es : List Edge) (ls S : List Int) (p : Nat) : Int := if ls.getD p 0 = 2 then 2 else behP es ls S p
def behG (n : Int) (es : List Edge) (ls S : List Int) : List Int := (List.range n.toNat).map (behQ es ls S)
section
variable {n : Int} {es : List Edge} {ls S : List Int}
end
def stG (n : Int) (es : List Edge) (ls : List Int) (s : Nat) : List Int := behG n es ls (bitsOf s)
end DL
namespace DL
open PySem PySem.Spec PyProof.Rows L2
/-! ### a laying with empty places as one with tails there -/
def noE (ls : List Int) : List Int := ls.map fun x => if x = 2 then 0 else x
def lyL (ls : List Int) : List Int := ((List.range ls.length).filter fun j => decide (ls[j]? ≠ some 2)).map fun (j : Nat) => (j : Int)
end DL
namespace DL
open PySem PySem.Spec PyProof.Rows L2
def WorOk (n : Int) (es : List Edge) (ls : List Int) (i : Nat) (cur : List Nat) : Prop := cur.length = 2 ^ n.toNat ∧ ∀ s : Nat, i ≤ s → s < 2 ^ n.toNat → cur[s]? = some (wrt es (stG n es ls s))
end DL
namespace DL
open PySem PySem.Spec PyProof.Rows L2
def worRel (n : Int) (es : List Edge) : List Int → PyData → Prop := fun k z => LayOk n k ∧ z = .int (wrt es k : Nat)
/-- sums without carry -/
def xorL (xs : List Nat) : Nat := xs.foldr (· ^^^ ·) 0
def apN (xs : List Nat) : Nat → Nat
  | 0 => 0
  | t + 1 => apN xs t + 2 ^ t * ((xs.map fun x => x / 2 ^ t).sum % 2)
def apX (X : Nat) : Nat → Nat
  | 0 => 0
  | t + 1 => apX X t + 2 ^ t * (X / 2 ^ t % 2)
end DL
namespace DL
open PySem PySem.Spec PyProof.Rows L2
section
variable {X : Cx} {e a b c tg iter : Expr} {es : List Expr} {pos : Pos} {t ta tb tc : TDE}
/-- a, b, c = value, value, {}: stored one after another from the tuple -/
def tdAsgSSM (i j l : Nat) (ta tb : TDE) : TDS := fun q ρ => ta ρ fun x ρ1 => tb ρ1 fun y ρ2 => ∀ m, m ∉ owns ρ2 → ∃ f, q.nx (((ρ2.set i (.sh x)).set j (.sh y)).set l (.mem m f []))
end
end DL
/-! DL: dicts as data. -/
namespace DL
open PySem PySem.Spec PyProof.Rows L2
/-- a dict whose keys are ints; one whose keys are tuples of ints -/
def dK (ks : List (Int × PyData)) : PyData := .dict (ks.map fun p => (.int p.1, p.2))
def dT (ks : List (List Int × PyData)) : PyData := .dict ((.none, .none) :: ks.map fun p => (tI p.1, p.2))
abbrev KI (ks : List (Int × PyData)) : List (Key × PyData) := ks.map fun p => (Sum.inl p.1, p.2)
abbrev KL (ks : List (List Int × PyData)) : List (List Key × PyData) := ks.map fun p => (keyI p.1, p.2)
theorem kD_inj {a b : Key} (h : kD a = kD b) : a = b := by
  cases a <;> cases b <;> unfold kD at h <;> first | (injection h with h; rw [h]) | cases h
theorem tD_keyI (k : List Int) : tD (keyI k) = tI k := by
  unfold tD keyI
  rw [List.map_map]; rfl
theorem kDs_inj : ∀ {a b : List Key}, a.map kD = b.map kD → a = b
  | [], [], _ => rfl
  | [], _ :: _, e => nomatch e
  | _ :: _, [], e => nomatch e
  | x :: xs, y :: ys, e => by
    rw [List.map_cons, List.map_cons] at e
    injection e with e1 e2
    rw [kD_inj e1, kDs_inj e2]
theorem tD_inj {a b : List Key} (h : tD a = tD b) : a = b := by
  unfold tD at h
  injection h with h
  exact kDs_inj h
def lk {κ : Type} [DecidableEq κ] (ks : List (κ × PyData)) (k : κ) : Option PyData := (ks.find? fun p => decide (p.1 = k)).map (·.2)
theorem lk_rel {κ κ' : Type} [DecidableEq κ] [DecidableEq κ'] {K : PySem.W.Frag} {H : Hp} (f : κ → κ') (hf : ∀ a b, f a = f b → a = b) (k : κ) : ∀ {kvV : List (κ' × V)} {ks : List (κ × PyData)}, kvV.map (·.1) = ks.map (fun p => f p.1) → DpAll K H (kvV.map (·.2)) (ks.map (·.2)) →
    (∃ v d, valV kvV (f k) = some v ∧ lk ks k = some d ∧ Dp K H v d) ∨ (valV kvV (f k) = none ∧ lk ks k = none)
  | [], [], _, _ => .inr ⟨valV_nil, rfl⟩
  | [], _ :: _, e, _ => nomatch e
  | _ :: _, [], e, _ => nomatch e
  | p :: ps, q :: qs, e, D => by
    rw [List.map_cons, List.map_cons] at e D
    injection e with e1 e2
    cases D with
    | cons d1 d2 =>
      by_cases h : q.1 = k
      · exact .inl ⟨p.2, q.2, valV_pos (by rw [e1, h]), by unfold lk; rw [List.find?_cons_of_pos (by simpa using h)]; rfl, d1⟩
      · have h' : ¬ p.1 = f k := fun z => h (hf _ _ (e1.symm.trans z))
        rw [valV_neg h', show lk (q :: qs) k = lk qs k by unfold lk; rw [List.find?_cons_of_neg (by simpa using h)]]
        exact lk_rel f hf k e2 d2
theorem Dp.dK_of {K : PySem.W.Frag} {H : Hp} {v : V} {ks : List (Int × PyData)} (h : Dp K H v (dK ks)) : ∃ (a : Addr) (o : Obj) (kvV : List (Key × V)), v = .ref a ∧ H a = some (.frz o (.dK kvV)) ∧ kvV.map (·.1) = ks.map (fun p => Sum.inl p.1) ∧ DpAll K H (kvV.map (·.2)) (ks.map (·.2)) := by
  have gen : ∀ d, Dp K H v d → d = dK ks → ∃ (a : Addr) (o : Obj) (kvV : List (Key × V)), v = .ref a ∧ H a = some (.frz o (.dK kvV)) ∧ kvV.map (·.1) = ks.map (fun p => Sum.inl p.1) ∧ DpAll K H (kvV.map (·.2)) (ks.map (·.2)) := by
    intro d h e
    cases h with
    | @dicK a o kvV kvs s hk D =>
      unfold dK at e
      injection e with e
      subst e
      refine ⟨a, o, kvV, rfl, s, ?_, ?_⟩
      · rw [List.map_map] at hk
        have : ∀ (l : List (Key × V)) (m : List (Int × PyData)), m.map ((·.1) ∘ fun p => ((PyData.int p.1, p.2) : PyData × PyData)) = l.map (fun p => kD p.1) → l.map (·.1) = m.map (fun p => Sum.inl p.1) := by
          intro l
          induction l with
          | nil => intro m e; cases m with
            | nil => rfl
            | cons _ _ => cases e
          | cons x l ih => intro m e; cases m with
            | nil => cases e
            | cons y m =>
              rw [List.map_cons, List.map_cons] at e
              injection e with e1 e2
              rw [List.map_cons, List.map_cons, ih m e2, kD_inj (a := x.1) (b := .inl y.1) e1.symm]
        exact this _ _ hk
      · rw [List.map_map] at D; exact D
    | @dicT a o kvV kvs s hk D =>
      unfold dK at e
      injection e with e
      cases ks with
      | nil => cases e
      | cons y m =>
        rw [List.map_cons] at e
        injection e with e1 e2
        injection e1 with e1 _
        cases e1
    | _ => cases e
  exact gen _ h rfl
theorem Dp.dT_of {K : PySem.W.Frag} {H : Hp} {v : V} {ks : List (List Int × PyData)} (h : Dp K H v (dT ks)) : ∃ (a : Addr) (o : Obj) (kvV : List (List Key × V)), v = .ref a ∧ H a = some (.frz o (.dT kvV)) ∧ kvV.map (·.1) = ks.map (fun p => keyI p.1) ∧ DpAll K H (kvV.map (·.2)) (ks.map (·.2)) := by
  have gen : ∀ d, Dp K H v d → d = dT ks → ∃ (a : Addr) (o : Obj) (kvV : List (List Key × V)), v = .ref a ∧ H a = some (.frz o (.dT kvV)) ∧ kvV.map (·.1) = ks.map (fun p => keyI p.1) ∧ DpAll K H (kvV.map (·.2)) (ks.map (·.2)) := by
    intro d h e
    cases h with
    | @dicT a o kvV kvs s hk D =>
      unfold dT at e
      injection e with e
      injection e with _ e
      subst e
      refine ⟨a, o, kvV, rfl, s, ?_, ?_⟩
      · rw [List.map_map] at hk
        have : ∀ (l : List (List Key × V)) (m : List (List Int × PyData)), m.map ((·.1) ∘ fun p => ((tI p.1, p.2) : PyData × PyData)) = l.map (fun p => tD p.1) → l.map (·.1) = m.map (fun p => keyI p.1) := by
          intro l
          induction l with
          | nil => intro m e; cases m with
            | nil => rfl
            | cons _ _ => cases e
          | cons x l ih => intro m e; cases m with
            | nil => cases e
            | cons y m =>
              rw [List.map_cons, List.map_cons] at e
              injection e with e1 e2
              rw [List.map_cons, List.map_cons, ih m e2, tD_inj (a := x.1) (b := keyI y.1) (by rw [tD_keyI]; exact e1.symm)]
        exact this _ _ hk
      · rw [List.map_map] at D; exact D
    | @dicK a o kvV kvs s hk D =>
      unfold dT at e
      injection e with e
      subst e
      cases kvV with
      | nil => cases hk
      | cons y m =>
        rw [List.map_cons, List.map_cons] at hk
        injection hk with e1 e2
        have : kD y.1 = PyData.none := e1.symm
        cases h : y.1 <;> rw [h] at this <;> cases this
    | _ => cases e
  exact gen _ h rfl
/-- the data of a dict that is read -/
inductive DDat where
  | K (ks : List (Int × PyData))
  | T (ks : List (List Int × PyData))
def DDat.d : DDat → PyData
  | .K ks => dK ks
  | .T ks => dT ks
def DDat.c : DDat → DCon
  | .K ks => .K (KI ks)
  | .T ks => .T (KL ks)
def DDat.len : DDat → Nat
  | .K ks => ks.length
  | .T ks => ks.length
/-- a dict that is read: shared, or this def's own -/
def DV (K : PySem.W.Frag) (C : Ctx) (ρ : DEnv) (H : Hp) (v : V) (c : DDat) : Prop := Dp K (hide (hs C ρ) H) v c.d ∨ ∃ (i : Nat) (a : Addr), v = .ref a ∧ ρ[i]? = some (.dic a c.c)
/-- what stands there -/
def DStand (K : PySem.W.Frag) (H : Hp) (hH : Hp) (a : Addr) : DDat → Prop
  | .K ks => ∃ kvV : List (Key × V), Rd H a (.dK kvV) ∧ kvV.map (·.1) = ks.map (fun p => Sum.inl p.1) ∧ DpAll K hH (kvV.map (·.2)) (ks.map (·.2))
  | .T ks => ∃ kvV : List (List Key × V), Rd H a (.dT kvV) ∧ kvV.map (·.1) = ks.map (fun p => keyI p.1) ∧ DpAll K hH (kvV.map (·.2)) (ks.map (·.2))
theorem DV.at {K : PySem.W.Frag} {C : Ctx} {ρ : DEnv} {H : Hp} {σ : L2.St} {v : V} {c : DDat} (E : EnvD C K H σ ρ) (B : DV K C ρ H v c) : ∃ a, v = .ref a ∧ DStand K H (hide (hs C ρ) H) a c := by
  rcases B with B | ⟨i, a, rfl, e⟩
  · cases c with
    | K ks => obtain ⟨a, o, kvV, rfl, h1, h2, h3⟩ := Dp.dK_of B; exact ⟨a, rfl, kvV, .inr ⟨o, (hide_some h1).2⟩, h2, h3⟩
    | T ks => obtain ⟨a, o, kvV, rfl, h1, h2, h3⟩ := Dp.dT_of B; exact ⟨a, rfl, kvV, .inr ⟨o, (hide_some h1).2⟩, h2, h3⟩
  · obtain ⟨_, h⟩ := E.dic_at e
    cases c with
    | K ks =>
      obtain ⟨kvV, h1, h2, h3⟩ := h
      rw [List.map_map] at h2 h3
      exact ⟨a, rfl, kvV, .inl h1, h2, h3⟩
    | T ks =>
      obtain ⟨kvV, h1, h2, h3⟩ := h
      rw [List.map_map] at h2 h3
      exact ⟨a, rfl, kvV, .inl h1, h2, h3⟩
abbrev TDD := DEnv → (DDat → DEnv → Prop) → Prop
structure DD (X : Cx) (e : Expr) (t : TDD) : Prop where
  ex : ∃ te, PE X e te ∧ ∀ C σ H ρ q Q, EnvD C X.K H σ ρ → t ρ q → (∀ v H' c ρ', EnvD C X.K H' σ ρ' → Step C ρ H ρ' H' → DV X.K C ρ' H' v c → q c ρ' → Q v H') → te σ H Q
section
variable {X : Cx} {e a b c tg iter o i : Expr} {es : List Expr} {pos : Pos} {t ta tb tc ti tx : TDE} {td : TDD}
theorem dd_of (h : DE X e t) : DD X e (fun ρ q => t ρ fun d ρ1 => ∃ c : DDat, d = c.d ∧ q c ρ1) := by
  obtain ⟨te, hp, hq⟩ := h.ex
  refine ⟨te, hp, fun C σ H ρ q Q E h k => hq C σ H ρ _ _ E h fun v H1 d ρ1 E1 s1 D1 h1 => ?_⟩
  obtain ⟨c, rfl, h1⟩ := h1
  exact k v H1 c ρ1 E1 s1 (.inl D1) h1
def tdDV (i : Nat) : TDD := fun ρ q => match ρ[i]? with
  | some (.sh d) => ∃ c : DDat, d = c.d ∧ q c ρ
  | some (.dic _ c') => ∃ c : DDat, c' = c.c ∧ q c ρ
  | _ => False
theorem dd_var (i : Nat) {x : Str} (hN : X.N[i]? = some x := by rfl) (hv : Vis X.env.scope x := by first | exact Or.inl rfl | exact Or.inr (Or.inl rfl) | exact Or.inr (Or.inr rfl)) (hd : (x == ("__debug__" : Str)) = false := by decide) (hcd : (x == ("__classdict__" : Str)) = false := by decide) :
    DD X (.Name x pos) (tdDV i) := by
  refine ⟨_, pe_var hN hv hd hcd, fun C σ H ρ q Q E h k => ?_⟩
  unfold tdDV at h
  split at h
  · rename_i d e
    obtain ⟨c, rfl, h⟩ := h
    obtain ⟨v, e1, s⟩ := E.slots i _ e
    cases v with
    | none => cases s
    | some v => exact ⟨v, e1, k v H c ρ E .rfl (.inl s) h⟩
  · rename_i a c' e
    obtain ⟨c, rfl, h⟩ := h
    obtain ⟨w, _⟩ := E.dic_at e
    exact ⟨_, w, k _ H c ρ E .rfl (.inr ⟨i, a, rfl, e⟩) h⟩
  · exact h.elim
/-- the value at a key -/
def lkD (c : DDat) (k : PyData) (r : Option PyData → Prop) : Prop := match c with
  | .K ks => ∃ i, k = .int i ∧ r (lk ks i)
  | .T ks => ∃ i, k = tI i ∧ r (lk ks i)
theorem dget_rel {K : PySem.W.Frag} {C : Ctx} {ρ : DEnv} {H : Hp} {σ : L2.St} {v y : V} {c : DDat} {k : PyData} {r : Option PyData → Prop} (E : EnvD C K H σ ρ) (B : DV K C ρ H v c) (D : Dp K (hide (hs C ρ) H) y k) (h : lkD c k r) :
    ∃ a o, v = .ref a ∧ DGet H a y o ∧ ((∃ w d, o = some w ∧ Dp K (hide (hs C ρ) H) w d ∧ r (some d)) ∨ (o = none ∧ r none)) := by
  obtain ⟨a, rfl, st⟩ := B.at E
  cases c with
  | K ks =>
    obtain ⟨j, rfl, h⟩ := h
    obtain ⟨kvV, h1, h2, h3⟩ := st
    cases D
    refine ⟨a, valV kvV (.inl j), rfl, .inl ⟨kvV, .inl j, h1, rfl, rfl⟩, ?_⟩
    rcases lk_rel (fun i => Sum.inl i) (fun _ _ e => Sum.inl.inj e) j h2 h3 with ⟨w, d, g1, g2, g3⟩ | ⟨g1, g2⟩
    · rw [g2] at h; exact .inl ⟨w, d, g1, g3, h⟩
    · rw [g2] at h; exact .inr ⟨g1, h⟩
  | T ks =>
    obtain ⟨j, rfl, h⟩ := h
    obtain ⟨kvV, h1, h2, h3⟩ := st
    obtain ⟨b, vs, rfl, hb, DA⟩ := Dp.tup_at D
    cases DpAll.ints DA
    refine ⟨a, valV kvV (keyI j), rfl, .inr ⟨kvV, keyI j, b, h1, rfl, by rw [keyI_kV]; exact (hide_some hb).2, rfl⟩, ?_⟩
    rcases lk_rel keyI (fun _ _ e => keyI_inj e) j h2 h3 with ⟨w, d, g1, g2, g3⟩ | ⟨g1, g2⟩
    · rw [g2] at h; exact .inl ⟨w, d, g1, g3, h⟩
    · rw [g2] at h; exact .inr ⟨g1, h⟩
/-- d[k] -/
theorem de_dget (hu : X.A.units + 1 < cLine) (ho : DD X o td) (hi : DE X i ti) (hs' : NoSl i := by exact fun _ _ => rfl) :
    DE X (.Subscript o i pos) (fun ρ q => td ρ fun c ρ1 => ti ρ1 fun k ρ2 => ρ2 = ρ1 ∧ lkD c k fun r => ∃ d, r = some d ∧ q d ρ2) := by
  obtain ⟨te, hp, hq⟩ := ho.ex
  obtain ⟨te2, hp2, hq2⟩ := hi.ex
  refine ⟨_, pe_dget hu hp hp2 hs', fun C σ H ρ q Q E h k => hq C σ H ρ _ _ E h fun v H1 c ρ1 E1 s1 B h1 => hq2 C σ H1 ρ1 _ _ E1 h1 fun y H2 kd ρ2 E2 s2 D2 h2 => ?_⟩
  obtain ⟨rfl, h2⟩ := h2
  have B2 : DV X.K C ρ2 H2 v c := by
    rcases B with B | B
    · exact .inl (BV.step B s2)
    · exact .inr B
  obtain ⟨a, ov, rfl, g, r⟩ := dget_rel E2 B2 D2 h2
  rcases r with ⟨w, d, rfl, Dw, d', e, hq'⟩ | ⟨_, d', e, _⟩
  · cases e
    exact ⟨a, w, rfl, g, k w H2 d ρ2 E2 (s1.trans s2) Dw hq'⟩
  · cases e
theorem DV.isD {K : PySem.W.Frag} {C : Ctx} {ρ : DEnv} {H : Hp} {σ : L2.St} {v : V} {c : DDat} (E : EnvD C K H σ ρ) (B : DV K C ρ H v c) : ∃ a, v = .ref a ∧ IsD H a := by
  obtain ⟨a, rfl, st⟩ := B.at E
  cases c with
  | K ks => obtain ⟨kvV, h1, _⟩ := st; exact ⟨a, rfl, .inl ⟨_, h1⟩⟩
  | T ks => obtain ⟨kvV, h1, _⟩ := st; exact ⟨a, rfl, .inr ⟨_, h1⟩⟩
theorem de_get1 {apos cpos : Pos} (hu : X.A.units + 1 < cLine) (ho : DD X o td) (hi : DE X i ti) (m : M1 X o "get" apos i cpos) :
    DE X (.Call (.Attribute o "get" apos) [i] [] cpos) (fun ρ q => td ρ fun c ρ1 => ti ρ1 fun k ρ2 => ρ2 = ρ1 ∧ lkD c k fun r => q (r.getD .none) ρ2) := by
  obtain ⟨te, hp, hq⟩ := ho.ex
  obtain ⟨te2, hp2, hq2⟩ := hi.ex
  refine ⟨_, pe_dget1 hu hp hp2 m, fun C σ H ρ q Q E h k => hq C σ H ρ _ _ E h fun v H1 c ρ1 E1 s1 B h1 => ?_⟩
  obtain ⟨a, rfl, isd⟩ := B.isD E1
  refine ⟨a, rfl, isd, hq2 C σ H1 ρ1 _ _ E1 h1 fun y H2 kd ρ2 E2 s2 D2 h2 => ?_⟩
  obtain ⟨rfl, h2⟩ := h2
  have B2 : DV X.K C ρ2 H2 (.ref a) c := by
    rcases B with B | B
    · exact .inl (BV.step B s2)
    · exact .inr B
  obtain ⟨a', ov, ea, g, r⟩ := dget_rel E2 B2 D2 h2
  cases ea
  rcases r with ⟨w, d, rfl, Dw, hq'⟩ | ⟨rfl, hq'⟩
  · exact ⟨_, g, k w H2 d ρ2 E2 (s1.trans s2) Dw hq'⟩
  · exact ⟨_, g, k .non H2 .none ρ2 E2 (s1.trans s2) .non hq'⟩
theorem dt_dnotin (hu : X.A.units + 1 < cLine) (hi : DE X i ti) (ho : DD X o td) (hm : behindInMarks .NotIn o = false := by rfl) : DT X (.Compare i [.NotIn] [o] pos) (fun ρ q => ti ρ fun k ρ1 => td ρ1 fun c ρ2 => lkD c k fun r => q (!r.isSome) ρ2) := by
  obtain ⟨te, hp, hq⟩ := ho.ex
  obtain ⟨te2, hp2, hq2⟩ := hi.ex
  refine ⟨_, pt_cmp (pc_dnotin hu hp2 hp) hm, fun C σ H ρ q Q E h k => hq2 C σ H ρ _ _ E h fun y H1 kd ρ1 E1 s1 D1 h1 => hq C σ H1 ρ1 _ _ E1 h1 fun v H2 c ρ2 E2 s2 B h2 => ?_⟩
  obtain ⟨a, ov, rfl, g, r⟩ := dget_rel E2 B (BV.step D1 s2) h2
  rcases r with ⟨w, d, rfl, Dw, hq'⟩ | ⟨rfl, hq'⟩
  · exact ⟨a, _, rfl, g, false, rfl, k false H2 ρ2 E2 (s1.trans s2) hq'⟩
  · exact ⟨a, _, rfl, g, true, rfl, k true H2 ρ2 E2 (s1.trans s2) hq'⟩
end
end DL
/-! DL: dicts as data: changed, locked, walked. -/
namespace DL
open PySem PySem.Spec PyProof.Rows L2
section
variable {X : Cx} {e a b c tg iter o i : Expr} {es : List Expr} {pos : Pos} {t ta tb tc ti tx : TDE} {td : TDD}
/-! ### locked for good -/
def tFrz (t : TE) : TE := fun σ H Q => t σ H fun v H1 => ∃ d u, v = .ref d ∧ H1 d = some u ∧ Mut (some u) ∧ ∀ od, Q v (upd H1 d (.frz od u))
theorem pe_frz {e : Expr} {t : TE} (h : PE X e t) : PE X e (tFrz t) := by
  refine ⟨fun pins s σ H Q I hw => thn (h.run pins s σ H _ I hw) fun u s1 ⟨x, H1, I1, r, q⟩ => ?_⟩
  obtain ⟨d, u, rfl, hd, mu, q⟩ := q
  obtain ⟨od, I2⟩ := I1.lock hd mu
  exact ⟨_, _, I2, r, q od⟩
theorem pe_or {e : Expr} {t u : TE} (h1 : PE X e t) (h2 : PE X e u) : PE X e (fun σ H Q => t σ H Q ∨ u σ H Q) :=
  ⟨fun pins s σ H Q I hw => hw.elim (h1.run pins s σ H Q I) (h2.run pins s σ H Q I)⟩
/-- an own dict is locked for good: data from now on -/
theorem EnvD.lockD {C : Ctx} {K : PySem.W.Frag} {H : Hp} {σ : L2.St} {ρ : DEnv} (E : EnvD C K H σ ρ) {i : Nat} {a : Addr} {c : DDat} (h : ρ[i]? = some (.dic a c.c)) (od : Obj) :
    ∃ u, H a = some u ∧ Mut (some u) ∧ EnvD C K (upd H a (.frz od u)) σ (ρ.set i (.sh c.d)) ∧ Step C ρ H (ρ.set i (.sh c.d)) (upd H a (.frz od u)) ∧ σ[i]? = some (some (.ref a)) ∧ Dp K (hide (hs C (ρ.set i (.sh c.d))) (upd H a (.frz od u))) (.ref a) c.d := by
  obtain ⟨w, st⟩ := E.dic_at h
  have ha := E.dj a (mem_owns.mpr ⟨i, _, h, rfl⟩)
  have h0 : C.H0 a = none := by
    obtain ⟨v, e, s⟩ := E.slots i _ h
    cases v with
    | none => cases s
    | some v => exact s.2.2
  have sub : ∀ b, b ∈ owns (ρ.set i (.sh c.d)) → b ∈ owns ρ := fun b z => owns_set_sub rfl z
  have na : a ∉ owns (ρ.set i (.sh c.d)) := by
    intro z
    obtain ⟨j, y, q, hy⟩ := mem_owns.mp z
    by_cases ij : i = j
    · subst ij
      rw [List.getElem?_set] at q
      split at q
      · split at q
        · cases q; cases hy
        · cases q
      · rename_i z; exact z rfl
    · rw [List.getElem?_set_ne ij] at q
      exact nodup_two E.nd ij h rfl q hy
  have vis : a ∉ hs C (ρ.set i (.sh c.d)) := fun z => by
    rcases List.mem_append.mp z with z | z
    · exact ha.1 z
    · rcases List.mem_append.mp z with z | z
      · exact ha.2 z
      · exact na z
  have hin : a ∈ hs C ρ := List.mem_append_right _ (List.mem_append_right _ (mem_owns.mpr ⟨i, _, h, rfl⟩))
  have key : ∀ u, H a = some u → Mut (some u) → (∀ od' : Obj, Dp K (hide (hs C (ρ.set i (.sh c.d))) (upd H a (.frz od' u))) (.ref a) c.d) → EnvD C K (upd H a (.frz od u)) σ (ρ.set i (.sh c.d)) ∧ Step C ρ H (ρ.set i (.sh c.d)) (upd H a (.frz od u)) := by
    intro u hu mu D
    have l : Le (hide (hs C ρ) H) (hide (hs C (ρ.set i (.sh c.d))) (upd H a (.frz od u))) := fun b ob e => by
      obtain ⟨n, e⟩ := hide_some e
      have nb : b ≠ a := fun z => n (z ▸ hin)
      rw [hide_out (fun z => n (hs_sub sub b z)), upd_ne nb]; exact e
    have kp : ∀ b, b ≠ a → (upd H a (.frz od u)) b = H b := fun b z => upd_ne z
    refine ⟨⟨by simp [E.len], fun j y e => ?_, (filterMap_set_sub rfl ρ i).nodup E.nd, fun b z => E.dj b (sub b z), E.dr, fun b z => ?_, fun b z => ?_, fun b ob z n => ?_⟩, ⟨fun b ob n e => ?_, fun b ob e => ?_, fun b z => .inl (sub b z)⟩⟩
    · rw [List.getElem?_set] at e
      by_cases ij : i = j
      · subst ij
        rw [if_pos rfl] at e
        split at e
        · cases e
          exact ⟨_, w, D od⟩
        · cases e
      · rw [if_neg ij] at e
        obtain ⟨v, e1, s⟩ := E.slots j y e
        refine ⟨v, e1, s.move l (fun b hb ob e2 => ?_) rfl rfl⟩
        rw [kp b (fun z => nodup_two E.nd ij h rfl e (by rw [hb, z]))]; exact e2
    · obtain ⟨ob, e, n⟩ := E.exd b z
      exact ⟨ob, by rw [kp b (fun q => ha.1 (q ▸ z))]; exact e, n⟩
    · obtain ⟨sc, ns, i', s', b', e, q, r⟩ := E.row b z
      exact ⟨sc, ns, i', s', b', by rw [kp b (fun q => ha.2 (q ▸ z))]; exact e, SqL.le l q, r⟩
    · have nb : b ≠ a := fun q => by rw [q, h0] at z; cases z
      rw [kp b nb]; exact E.keep b ob z n
    · have nb : b ≠ a := fun q => n (List.mem_append_right _ (q ▸ mem_owns.mpr ⟨i, _, h, rfl⟩))
      rw [kp b nb]; exact e
    · by_cases q : b = a
      · exact ⟨_, by rw [q]; exact upd_same⟩
      · exact ⟨ob, by rw [kp b q]; exact e⟩
  have lv : ∀ (u : HO) (od' : Obj), Le (hide (hs C ρ) H) (hide (hs C (ρ.set i (.sh c.d))) (upd H a (.frz od' u))) := fun u od' b ob e => by
    obtain ⟨n, e⟩ := hide_some e
    have nb : b ≠ a := fun z => n (z ▸ hin)
    rw [hide_out (fun z => n (hs_sub sub b z)), upd_ne nb]; exact e
  cases c with
  | K ks =>
    obtain ⟨kvV, h1, h2, h3⟩ := st
    have D : ∀ od' : Obj, Dp K (hide (hs C (ρ.set i (.sh (DDat.K ks).d))) (upd H a (.frz od' (.dK kvV)))) (.ref a) (DDat.K ks).d := fun od' => by
      refine .dicK (o := od') (kvV := kvV) (by rw [hide_out vis]; exact upd_same) ?_ (DpAll.le (lv _ od') ?_)
      · rw [List.map_map]
        have e := congrArg (List.map kD) h2
        rw [List.map_map, List.map_map, List.map_map] at e
        exact e.symm
      · rw [List.map_map] at h3 ⊢; exact h3
    obtain ⟨g1, g2⟩ := key _ h1 trivial D
    exact ⟨_, h1, trivial, g1, g2, w, D od⟩
  | T ks =>
    obtain ⟨kvV, h1, h2, h3⟩ := st
    have D : ∀ od' : Obj, Dp K (hide (hs C (ρ.set i (.sh (DDat.T ks).d))) (upd H a (.frz od' (.dT kvV)))) (.ref a) (DDat.T ks).d := fun od' => by
      refine .dicT (o := od') (kvV := kvV) (by rw [hide_out vis]; exact upd_same) ?_ (DpAll.le (lv _ od') ?_)
      · rw [List.map_map]
        have e := congrArg (List.map tD) h2
        rw [List.map_map, List.map_map, List.map_map] at e
        rw [show (fun p : List Key × V => tD p.1) = tD ∘ (·.1) from rfl, e]
        exact List.map_congr_left fun p _ => (tD_keyI p.1).symm
      · rw [List.map_map] at h3 ⊢; exact h3
    obtain ⟨g1, g2⟩ := key _ h1 trivial D
    exact ⟨_, h1, trivial, g1, g2, w, D od⟩
/-- a name that stands for a dict, as data -/
def tdShD (i : Nat) : TDE := fun ρ q => match ρ[i]? with
  | some (.sh d) => q d ρ
  | some (.dic _ c') => ∃ c : DDat, c' = c.c ∧ q c.d (ρ.set i (.sh c.d))
  | _ => False
theorem de_dvar (i : Nat) {x : Str} (hN : X.N[i]? = some x := by rfl) (hv : Vis X.env.scope x := by first | exact Or.inl rfl | exact Or.inr (Or.inl rfl) | exact Or.inr (Or.inr rfl)) (hd : (x == ("__debug__" : Str)) = false := by decide) (hcd : (x == ("__classdict__" : Str)) = false := by decide) :
    DE X (.Name x pos) (tdShD i) := by
  refine ⟨_, pe_or (pe_var hN hv hd hcd) (pe_frz (pe_var hN hv hd hcd)), fun C σ H ρ q Q E h k => ?_⟩
  unfold tdShD at h
  split at h
  · rename_i d e
    obtain ⟨v, e1, s⟩ := E.slots i _ e
    cases v with
    | none => cases s
    | some v => exact .inl ⟨v, e1, k v H d ρ E .rfl s h⟩
  · rename_i a c' e
    obtain ⟨c, rfl, h⟩ := h
    obtain ⟨w, _⟩ := E.dic_at e
    obtain ⟨u, hu, mu, _⟩ := E.lockD e { cls := .none, data := .fields #[] }
    refine .inr ⟨_, w, a, u, rfl, hu, mu, fun od => ?_⟩
    obtain ⟨u', hu', _, E', s', _, D⟩ := E.lockD e od
    rw [hu] at hu'
    cases hu'
    exact k _ _ _ _ E' s' D h
  · exact h.elim
/-! ### changed -/
/-- name = {} -/
def tdNewD (i : Nat) : TDS := fun q ρ => (∀ m, m ∉ owns ρ → q.nx (ρ.set i (.dic m (.K [])))) ∨ (∀ m, m ∉ owns ρ → q.nx (ρ.set i (.dic m (.T []))))
theorem EnvD.newD {C : Ctx} {K : PySem.W.Frag} {H : Hp} {σ : L2.St} {ρ : DEnv} (E : EnvD C K H σ ρ) {i : Nat} {p : Addr} {o : HO} {c : DCon} (hp : H p = none) (ho : ∀ xs, o ≠ HO.tup xs) (hc : ∀ hH, DicOk K hH (upd H p o) p c) :
    p ∉ owns ρ ∧ EnvD C K (upd H p o) (σ.set i (some (.ref p))) (ρ.set i (.dic p c)) ∧ Step C ρ H (ρ.set i (.dic p c)) (upd H p o) := by
  have nin := E.notin hp
  have hcx : p ∉ C.ex := fun z => nin (List.mem_append_left _ z)
  have hno : p ∉ owns ρ := fun z => nin (List.mem_append_right _ (List.mem_append_right _ z))
  have E1 : EnvD (C.with p) K (upd H p o) σ ρ := E.with_fresh hp ho
  refine ⟨hno, E1.ownX rfl hcx ⟨rfl, hc _, E.fresh0 hp⟩, ⟨fun b ob _ e => by rw [upd_ne (ne_of_none e hp)]; exact e, fun b ob e => ⟨ob, by rw [upd_ne (ne_of_none e hp)]; exact e⟩, fun b z => ?_⟩⟩
  rcases owns_set_any rfl z with rfl | z
  · exact .inr hp
  · exact .inl z

theorem ds_newD (i : Nat) {x : Str} {px dpos : Pos} (hN : X.N.Nodup) (hi : X.N[i]? = some x := by rfl) (hx : Loc X.env.scope x := by first | exact Or.inl rfl | exact Or.inr rfl) (hs' : swapsWith (.Dict [] [] dpos) (some (.Name x px)) pos.line X.env = pure false := by rfl) (hf : X.fn x = true ∨ X.env.scope.names.lookup x = some .local := by first | exact .inl rfl | exact .inr rfl) :
    DS X (.Assign [.Name x px] (.Dict [] [] dpos) pos) (tdNewD i) := by
  refine ⟨_, ps_set hN hi hx (pe_or pe_dnewK pe_dnewT) hs' hf, fun C σ H ρ q Q E h k => ?_⟩
  rcases h with h | h
  · refine .inl fun p hp => ?_
    obtain ⟨a1, a2, a3⟩ := E.newD (i := i) (c := .K []) hp (by intro xs z; cases z) (fun hH => ⟨[], upd_same, rfl, .nil⟩)
    exact k.nx _ _ _ a2 a3 (h p a1)
  · refine .inr fun p hp => ?_
    obtain ⟨a1, a2, a3⟩ := E.newD (i := i) (c := .T []) hp (by intro xs z; cases z) (fun hH => ⟨[], upd_same, rfl, .nil⟩)
    exact k.nx _ _ _ a2 a3 (h p a1)
/-- d[k] = value -/
def tdDPut (i : Nat) (tk tv : TDE) : TDS := fun q ρ => tv ρ fun d ρ1 => match ρ1[i]? with
  | some (.dic _ (.K _)) => tk ρ1 fun k ρ2 => match ρ2[i]? with
    | some (.dic a (.K kvs)) => ∃ j : Int, k = .int j ∧ kvs.length < sizeLine ∧ q.nx (ρ2.set i (.dic a (.K (putD kvs (.inl j) d))))
    | _ => False
  | some (.dic _ (.T _)) => tk ρ1 fun k ρ2 => match ρ2[i]? with
    | some (.dic a (.T kvs)) => ∃ j : List Int, k = tI j ∧ kvs.length < sizeLine ∧ q.nx (ρ2.set i (.dic a (.T (putD kvs (keyI j) d))))
    | _ => False
  | _ => False
theorem ds_dput (i : Nat) {x : Str} {px pos' : Pos} {key value : Expr} {tk tv : TDE} (hu : X.A.units + 1 < cLine) (hk : DE X key tk) (hval : DE X value tv) (hN : X.N[i]? = some x := by rfl) (hv : Vis X.env.scope x := by first | exact Or.inl rfl | exact Or.inr (Or.inl rfl) | exact Or.inr (Or.inr rfl)) (hd : (x == ("__debug__" : Str)) = false := by decide) (hcd : (x == ("__classdict__" : Str)) = false := by decide)
    (hs' : swapsWith value (some (.Subscript (.Name x px) key pos')) pos.line X.env = pure false := by rfl) :
    DS X (.Assign [.Subscript (.Name x px) key pos'] value pos) (tdDPut i tk tv) := by
  obtain ⟨pk', hk, qk⟩ := hk.ex
  obtain ⟨pv', hval, qv⟩ := hval.ex
  refine ⟨_, ps_dput hu (pe_var hN hv hd hcd) hk hval hs', fun C σ H ρ q Q E h k => ?_⟩
  refine qv C σ H ρ _ _ E h fun v H1 d ρ1 E1 s1 D1 h1 => ?_
  split at h1
  · rename_i a0 c0 e0
    obtain ⟨hw, _⟩ := E1.dic_at e0
    refine ⟨_, hw, qk C σ H1 ρ1 _ _ E1 h1 fun y H2 kd ρ2 E2 s2 D2 h2 => ?_⟩
    split at h2
    · rename_i a1 kvs e1
      obtain ⟨j, rfl, hlt, h2⟩ := h2
      obtain ⟨e2, kvV, e3, e4, e5⟩ := E2.dic_at e1
      rw [hw] at e2
      cases e2
      cases D2
      have hl : kvV.length = kvs.length := by have := congrArg List.length e4; simpa using this
      refine ⟨a0, _, rfl, DPut.k (k := .inl j) e3 (by omega), ?_⟩
      obtain ⟨r1, r2⟩ := putD_rel e4 e5 (.inl j) (BV.step D1 s2)
      obtain ⟨E4, s4⟩ := E2.wrX (o := .dK (putK kvV (.inl j) v)) (y := .dic a0 (.K (putD kvs (.inl j) d))) e1 rfl rfl fun w s => by
        cases w with
        | none => cases s
        | some w => obtain ⟨z1, _, z3⟩ := s; exact ⟨z1, ⟨_, upd_same, r1, r2⟩, z3⟩
      exact k.nx σ _ _ E4 ((s1.trans s2).trans s4) h2
    · exact h2.elim
  · rename_i a0 c0 e0
    obtain ⟨hw, _⟩ := E1.dic_at e0
    refine ⟨_, hw, qk C σ H1 ρ1 _ _ E1 h1 fun y H2 kd ρ2 E2 s2 D2 h2 => ?_⟩
    split at h2
    · rename_i a1 kvs e1
      obtain ⟨j, rfl, hlt, h2⟩ := h2
      obtain ⟨e2, kvV, e3, e4, e5⟩ := E2.dic_at e1
      rw [hw] at e2
      cases e2
      obtain ⟨b, vs, rfl, hb, DA⟩ := Dp.tup_at D2
      cases DpAll.ints DA
      have hl : kvV.length = kvs.length := by have := congrArg List.length e4; simpa using this
      refine ⟨a0, _, rfl, DPut.t (k := keyI j) e3 (by rw [keyI_kV]; exact (hide_some hb).2) (by omega), ?_⟩
      obtain ⟨r1, r2⟩ := putD_rel e4 e5 (keyI j) (BV.step D1 s2)
      obtain ⟨E4, s4⟩ := E2.wrX (o := .dT (putK kvV (keyI j) v)) (y := .dic a0 (.T (putD kvs (keyI j) d))) e1 rfl rfl fun w s => by
        cases w with
        | none => cases s
        | some w => obtain ⟨z1, _, z3⟩ := s; exact ⟨z1, ⟨_, upd_same, r1, r2⟩, z3⟩
      exact k.nx σ _ _ E4 ((s1.trans s2).trans s4) h2
    · exact h2.elim
  · exact h1.elim
/-- what is stored, by data -/
theorem putD_map {κ κ' : Type} [DecidableEq κ] [DecidableEq κ'] (f : κ → κ') (hf : ∀ a b, f a = f b → a = b) (ks : List (κ × PyData)) (k : κ) (d : PyData) :
    putD (ks.map fun p => (f p.1, p.2)) (f k) d = (putD ks k d).map fun p => (f p.1, p.2) := by
  have e : ((ks.map fun p => (f p.1, p.2)).any fun kv => decide (kv.1 = f k)) = ks.any fun kv => decide (kv.1 = k) := by
    rw [List.any_map]
    congr 1
    funext p
    show decide (f p.1 = f k) = decide (p.1 = k)
    by_cases h : p.1 = k
    · rw [h]; simp
    · rw [decide_eq_false h, decide_eq_false (fun z => h (hf _ _ z))]
  unfold putD
  rw [e]
  split
  · rw [List.map_map, List.map_map]
    apply List.map_congr_left
    intro p _
    show (if f p.1 = f k then (f p.1, d) else (f p.1, p.2)) = _
    by_cases h : p.1 = k
    · rw [if_pos (by rw [h])]
      show _ = (fun p : κ × PyData => (f p.1, p.2)) (if p.1 = k then (p.1, d) else p)
      rw [if_pos h]
    · rw [if_neg (fun z => h (hf _ _ z))]
      show _ = (fun p : κ × PyData => (f p.1, p.2)) (if p.1 = k then (p.1, d) else p)
      rw [if_neg h]
  · rw [List.map_append]; rfl
theorem putD_KI (ks : List (Int × PyData)) (j : Int) (d : PyData) : putD (KI ks) (.inl j) d = KI (putD ks j d) := putD_map (fun i => Sum.inl i) (fun _ _ e => Sum.inl.inj e) ks j d
theorem lk_nil {κ : Type} [DecidableEq κ] (k : κ) : lk ([] : List (κ × PyData)) k = none := rfl
theorem lk_cons {κ : Type} [DecidableEq κ] (p : κ × PyData) (ks : List (κ × PyData)) (k : κ) : lk (p :: ks) k = if p.1 = k then some p.2 else lk ks k := by
  unfold lk
  by_cases h : p.1 = k
  · rw [List.find?_cons_of_pos (by simpa using h), if_pos h]; rfl
  · rw [List.find?_cons_of_neg (by simpa using h), if_neg h]
theorem lk_app {κ : Type} [DecidableEq κ] (k : κ) (qs : List (κ × PyData)) : ∀ ps : List (κ × PyData), lk (ps ++ qs) k = (lk ps k).or (lk qs k)
  | [] => rfl
  | p :: ps => by
    rw [List.cons_append, lk_cons, lk_cons, lk_app k qs ps]
    split <;> rfl
theorem lk_none {κ : Type} [DecidableEq κ] {k : κ} : ∀ {ks : List (κ × PyData)}, lk ks k = none ↔ k ∉ ks.map (·.1)
  | [] => by simp [lk_nil]
  | p :: ks => by
    rw [lk_cons, List.map_cons, List.mem_cons]
    by_cases h : p.1 = k
    · rw [if_pos h]; simp [h.symm]
    · rw [if_neg h, lk_none (ks := ks)]
      exact ⟨fun z => by rintro (q | q); exact h q.symm; exact z q, fun z q => z (.inr q)⟩
theorem lk_put {κ : Type} [DecidableEq κ] (ks : List (κ × PyData)) (k j : κ) (d : PyData) : lk (putD ks k d) j = if j = k then some d else lk ks j := by
  unfold putD
  split
  · rename_i h
    have gen : ∀ l : List (κ × PyData), lk (l.map fun kv => if kv.1 = k then (kv.1, d) else kv) j = if j = k then (if k ∈ l.map (·.1) then some d else none) else lk l j := by
      intro l
      induction l with
      | nil => simp [lk_nil]
      | cons p l ih =>
        rw [List.map_cons, lk_cons, ih, lk_cons, List.map_cons]
        by_cases h1 : p.1 = k
        · rw [if_pos h1]
          by_cases h2 : j = k
          · simp [h1, h2]
          · have h3 : ¬ p.1 = j := fun z => h2 (z.symm.trans h1)
            rw [if_neg h2, if_neg h2, if_neg h3, if_neg h3]
        · rw [if_neg h1]
          by_cases h2 : j = k
          · subst h2
            rw [if_neg h1, if_pos rfl, if_pos rfl]
            by_cases h3 : j ∈ l.map (·.1)
            · rw [if_pos h3, if_pos (List.mem_cons_of_mem _ h3)]
            · rw [if_neg h3, if_neg (by rw [List.mem_cons]; rintro (q | q); exact h1 q.symm; exact h3 q)]
          · rw [if_neg h2, if_neg h2]
    rw [gen]
    by_cases h2 : j = k
    · rw [if_pos h2, if_pos h2, if_pos]
      obtain ⟨p, hp, e⟩ := List.any_eq_true.mp h
      exact List.mem_map.mpr ⟨p, hp, of_decide_eq_true e⟩
    · rw [if_neg h2, if_neg h2]
  · rename_i h
    rw [lk_app, lk_cons, lk_nil]
    by_cases h2 : j = k
    · subst h2
      rw [if_pos rfl, if_pos rfl, lk_none.mpr (fun z => h (by
        obtain ⟨p, hp, e⟩ := List.mem_map.mp z
        exact List.any_eq_true.mpr ⟨p, hp, decide_eq_true e⟩))]
      rfl
    · rw [if_neg (fun z => h2 z.symm), if_neg h2, Option.or_none]
theorem put_keys {κ : Type} [DecidableEq κ] (ks : List (κ × PyData)) (k : κ) (d : PyData) : (putD ks k d).map (·.1) = if k ∈ ks.map (·.1) then ks.map (·.1) else ks.map (·.1) ++ [k] := by
  have e : (ks.any fun kv => decide (kv.1 = k)) = true ↔ k ∈ ks.map (·.1) := by
    rw [List.any_eq_true, List.mem_map]
    exact ⟨fun ⟨p, hp, h⟩ => ⟨p, hp, of_decide_eq_true h⟩, fun ⟨p, hp, h⟩ => ⟨p, hp, decide_eq_true h⟩⟩
  unfold putD
  by_cases h : k ∈ ks.map (·.1)
  · rw [if_pos (e.mpr h), if_pos h, List.map_map]
    apply List.map_congr_left
    intro p _
    show (if p.1 = k then (p.1, d) else p).1 = p.1
    split <;> rfl
  · rw [if_neg (fun z => h (e.mp z)), if_neg h, List.map_append]; rfl
/-! ### walked -/
def iKeysMT (td : TE) : TI := fun σ H R => td σ H fun x H1 => ∃ d o kvs, x = .ref d ∧ H1 d = some (.frz o (.dT kvs)) ∧ R (Itkt d o kvs) H1
theorem frz_stay {C : Ctx} {ρ1 : DEnv} {H1 H' : Hp} {a : Addr} {u : HO} (ke : ∀ b o, b ∉ hs C ρ1 → H1 b = some o → H' b = some o) (h : hide (hs C ρ1) H1 a = some u) : H' a = some u := by
  obtain ⟨n, e⟩ := hide_some h
  exact ke _ _ n e
theorem get_key {α β : Type} {l : List α} {f : α → β} {i : Nat} {x : α} (h : l[i]? = some x) : (l.map f)[i]? = some (f x) := by rw [List.getElem?_map, h]; rfl
/-- for k in d.keys() -/
def tiKeys (t : TDE) : TDA := fun ρ q => t ρ fun d ρ1 => (∃ ks : List (Int × PyData), d = dK ks ∧ q (ks.map fun p => .int p.1) ρ1) ∨ ∃ ks : List (List Int × PyData), d = dT ks ∧ q (ks.map fun p => tI p.1) ρ1
/-- for k, v in d.items(), the keys ints -/
def tiItems (t : TDE) : TDA := fun ρ q => t ρ fun d ρ1 => ∃ ks : List (Int × PyData), d = dK ks ∧ q (ks.map fun p => .tuple [.int p.1, p.2]) ρ1
theorem di_items {apos cpos tpos : Pos} {elts : List Expr} {kk : Nat} (h : DE X e t) (hbase : attributeBase e "items" X.env (eval e X.env) = eval e X.env := by rfl) (hline : (apos.endLine == cpos.line) = true := by rfl) : DI X (.Tuple elts kk tpos) (.Call (.Attribute e "items" apos) [] [] cpos) (tiItems t) := by
  obtain ⟨te, hp, hq⟩ := h.ex
  refine ⟨_, pi_items hp hbase hline, fun C σ H ρ q R E w k => hq C σ H ρ _ _ E w fun v H1 d ρ1 E1 s1 D1 h1 => ?_⟩
  obtain ⟨ks, rfl, h1⟩ := h1
  obtain ⟨a, o, kvV, rfl, g1, g2, g3⟩ := Dp.dK_of D1
  refine ⟨a, o, kvV, rfl, (hide_some g1).2, k _ H1 _ ρ1 E1 s1 ?_ h1⟩
  intro i H' ke
  have hl : kvV.length = ks.length := by have := congrArg List.length g2; simpa using this
  have e := frz_stay ke g1
  refine ⟨fun hi => ⟨⟨e, by rw [hl]; simpa using hi⟩, fun x H'' y => ?_⟩, fun hi => ⟨e, by rw [hl]; simpa using hi⟩⟩
  obtain ⟨T, k2, v2, g, rfl, hT, rfl⟩ := y
  refine ⟨.upd hT, fun as ha => ?_⟩
  have nT : T ∉ as := fun z => by
    obtain ⟨⟨ob, e2, _⟩, _⟩ := ha T z
    rw [hT] at e2; cases e2
  have g4 := get_key (f := (·.1)) g
  rw [g2, List.getElem?_map] at g4
  obtain ⟨p, hp, ek⟩ := Option.map_eq_some_iff.mp g4
  have : k2 = .inl p.1 := ek.symm
  subst this
  obtain ⟨d2, e3, D3⟩ := DpAll.getV g3 (get_key (f := (·.2)) g)
  rw [List.getElem?_map, hp] at e3
  cases e3
  refine ⟨.tuple [.int p.1, p.2], get_key hp, .tup (by rw [hide_out nT]; exact upd_same) (.cons (.int _) (.cons (Dp.le (vis_as ke (.upd hT) ha) D3) .nil))⟩
end
end DL
/-! DL: sorted(d.keys()), sorted(d). -/
namespace DL
open PySem PySem.Spec PyProof.Rows L2
/-- the keys as they stand -/
def KeysAre (H : Hp) (a : Addr) (xs : List V) : Prop := (∃ kvV : List (Key × V), Rd H a (.dK kvV) ∧ xs = kvV.map fun q => kV q.1) ∨ ∃ (kvV : List (List Key × V)) (bs : List Addr), Rd H a (.dT kvV) ∧ IsKeys H kvV bs ∧ xs = bs.map V.ref
section
variable {X : Cx} {pins : List (Addr × Obj)} {σ : L2.St} {H : Hp} {s : Shared}
end
section
variable {X : Cx} {e a b c tg iter o i : Expr} {es : List Expr} {pos : Pos} {t ta tb tc ti tx : TDE} {td : TDD}
def tKeysD (te : TE) : TE := fun σ H Q => te σ H fun x H1 => ∃ a, x = .ref a ∧ IsD H1 a ∧ ∀ p, H1 p = none → Q (.ref p) (upd H1 p (keysO p a))
/-- sorted(view of keys) -/
def rSortView (K : PySem.W.Frag) (u : Nat) : List V → Hp → VK → Prop := fun vs H Q => ∃ (p a : Addr), vs = [.ref p] ∧ H p = some (keysO p a) ∧ IsD H a ∧ ∀ xs, KeysAre H a xs → ∃ ds : List PyData, L2.DpAll K H xs ds ∧ PySem.W.AllAlike ds ∧
  (PySem.W.Sortable ds ∨ ((ds.length ≤ 1 ∨ FirstNil ds) ∧ ∀ d ∈ ds, d ≠ .none)) ∧ (∀ d ∈ ds, u + 2 + d.depth < cLine) ∧ ∀ (zs : List (V × PyData)) (l : Addr), zs = (xs.zip ds).mergeSort (PySem.W.dataLe false (·.2)) → H l = none → Q (.ref l) (upd H l (.lst (zs.map (·.1))))
/-- sorted(dict) -/
def rSortDict (K : PySem.W.Frag) (u : Nat) : List V → Hp → VK → Prop := fun vs H Q => ∃ (a : Addr), vs = [.ref a] ∧ IsD H a ∧ ∀ xs, KeysAre H a xs → ∃ ds : List PyData, L2.DpAll K H xs ds ∧ PySem.W.AllAlike ds ∧
  (PySem.W.Sortable ds ∨ ((ds.length ≤ 1 ∨ FirstNil ds) ∧ ∀ d ∈ ds, d ≠ .none)) ∧ (∀ d ∈ ds, u + 2 + d.depth < cLine) ∧ ∀ (zs : List (V × PyData)) (l : Addr), zs = (xs.zip ds).mergeSort (PySem.W.dataLe false (·.2)) → H l = none → Q (.ref l) (upd H l (.lst (zs.map (·.1))))
/-- what a sort gives, by data -/
theorem sort_out {K : PySem.W.Frag} {H : Hp} {xs : List V} {ds : List PyData} (D : DpAll K H xs ds) {zs : List (V × PyData)} (hz : zs = (xs.zip ds).mergeSort (PySem.W.dataLe false (·.2))) :
    DpAll K H (zs.map (·.1)) (zs.map (·.2)) ∧ (zs.map (·.2)).Perm ds ∧ (zs.map (·.2)).Pairwise (fun x y => PySem.W.dataLe false id x y = true) := by
  have hlen := DpAll.length D
  have hperm : zs.Perm (xs.zip ds) := by rw [hz]; exact List.mergeSort_perm _ _
  have mem : ∀ {vs : List V} {ds : List PyData}, DpAll K H vs ds → ∀ z ∈ vs.zip ds, Dp K H z.1 z.2 := by
    intro vs
    induction vs with
    | nil => intro ds _ z hz; cases hz
    | cons x vs ih =>
      intro ds D z hz
      cases D with
      | cons d1 d2 =>
        rcases List.mem_cons.mp hz with rfl | hz
        · exact d1
        · exact ih d2 z hz
  have all : ∀ zs : List (V × PyData), (∀ z ∈ zs, Dp K H z.1 z.2) → DpAll K H (zs.map (·.1)) (zs.map (·.2)) := by
    intro zs
    induction zs with
    | nil => intro _; exact .nil
    | cons z zs ih => intro h; exact .cons (h z List.mem_cons_self) (ih fun y hy => h y (List.mem_cons_of_mem _ hy))
  refine ⟨all zs fun z hz' => mem D z (hperm.mem_iff.mp hz'), ?_, ?_⟩
  · have := hperm.map (·.2)
    rwa [List.map_snd_zip (by omega)] at this
  · rw [List.pairwise_map, hz]
    have O := PySem.W.sortLe_total (PyProof.Rows.listOrd PyProof.Rows.itemOrd) false fun (b : V × PyData) => PySem.W.keyToks b.2
    exact List.pairwise_mergeSort (fun a b c => O.trans a b c) (fun a b => by have := O.total a b; rw [Bool.or_eq_true]; exact this) _
def tdSortKD (t : TDE) : TDA := fun ρ q => t ρ fun d ρ1 => (∃ ks : List (Int × PyData), d = dK ks ∧ ∀ ns : List Int, ns.Perm (ks.map (·.1)) → ns.Pairwise (· ≤ ·) → q (ns.map .int) ρ1) ∨
  ∃ ks : List (List Int × PyData), d = dT ks ∧ ((∀ p ∈ ks, p.1 ≠ []) ∨ (ks.length ≤ 1 ∨ ∃ p r, ks = p :: r ∧ p.1 = [])) ∧ ∀ ts : List (List Int), ts.Perm (ks.map (·.1)) → ts.Pairwise (fun x y => x ≤ y) → q (ts.map tI) ρ1
end
end DL
/-! DL: min and max of data, with a default; dict displays. -/
namespace DL
open PySem PySem.Spec PyProof.Rows L2
/-! ### the least of data -/
def leD (x y : PyData) : Prop := PySem.W.dataLt y x = false
/-- a number, and a tuple behind it -/
def ntD (p : Int × List Int) : PyData := .tuple [.int p.1, tI p.2]
section
variable {X : Cx} {e a b c tg iter o i : Expr} {es : List Expr} {pos : Pos} {t ta tb tc ti tx : TDE} {td : TDD}
/-- min(xs), xs a list of data -/
def rMinL (K : PySem.W.Frag) (u : Nat) : List V → Hp → VK → Prop := fun vs H Q => ∃ (a : Addr) (xs : List V) (y : PyData) (ys : List PyData), vs = [V.ref a] ∧ SqL K H a xs ∧ L2.DpAll K H xs (y :: ys) ∧ PySem.W.AlikeAll (y :: ys) ∧ u + 1 + PyData.depthAll (y :: ys) < cLine ∧
  ∀ (j : Nat) (x : V), xs[j]? = some x → (y :: ys)[j]? = some (PySem.W.minD y ys) → Q x H
/-- min(xs, default=x) -/
def rMinDef (K : PySem.W.Frag) (u : Nat) : List V → List V → Hp → VK → Prop := fun vs zs H Q => ∃ (a : Addr) (xs : List V) (ds : List PyData) (z : V), vs = [V.ref a] ∧ zs = [z] ∧ SqL K H a xs ∧ L2.DpAll K H xs ds ∧ PySem.W.AlikeAll ds ∧ u + 1 + PyData.depthAll ds < cLine ∧ (ds = [] → Q z H) ∧
  ∀ (y : PyData) (ys : List PyData) (j : Nat) (x : V), ds = y :: ys → xs[j]? = some x → ds[j]? = some (PySem.W.minD y ys) → Q x H
/-! ### displays -/
end
end DL
/-! DL: all layings that can be cleared, by the sets of heads. -/
namespace DL
open PySem PySem.Spec PyProof.Rows L2
/-- the coins that are left lie with heads h -/
def onL (n : Int) (left h : Nat) : List Int := (List.range n.toNat).map fun p => if left.testBit p = true then (if h.testBit p = true then 1 else 0) else 2
def layB (n : Int) (h : Nat) : List Int := (List.range n.toNat).map fun p => if h.testBit p = true then 1 else 0
/-- in how many orders a laying of what is left can be cleared -/
def clrF (es : List Edge) (n : Int) (left h : Nat) : Nat := if h &&& left = h then cnt es (bitsOf left).length (onL n left h) else 0
def clrC (es : List Edge) (n : Int) (left k m h : Nat) : Nat := if h.testBit k = true then clrF es n (left ^^^ 2 ^ k) ((h ^^^ 2 ^ k) ^^^ (m &&& left)) else 0
theorem tb_pow (k j : Nat) : (2 ^ k : Nat).testBit j = decide (k = j) := Nat.testBit_two_pow
theorem bits_len_xor {left k : Nat} (h : left.testBit k = true) : (bitsOf left).length = (bitsOf (left ^^^ 2 ^ k)).length + 1 := by
  have h1 : (left ^^^ 2 ^ k).testBit k = false := by rw [Nat.testBit_xor, h, tb_pow]; simp
  rw [← bits_len_or h1, or_xor h]
/-! ### a dict of numbers -/
def dN (kc : List (Nat × Nat)) : List (Int × PyData) := kc.map fun p => ((p.1 : Int), .int (p.2 : Nat))
def valN (kc : List (Nat × Nat)) (h : Nat) : Nat := ((kc.find? fun p => decide (p.1 = h)).map (·.2)).getD 0
structure NOk (kc : List (Nat × Nat)) : Prop where
  nd : (kc.map (·.1)).Nodup
  pos : ∀ p ∈ kc, 0 < p.2 ∧ p.1 < 2 ^ 9
theorem NOk.len {kc : List (Nat × Nat)} (N : NOk kc) : kc.length ≤ 512 := by
  have := List.Nodup.length_le_of_subset N.nd (l₂ := List.range 512) fun x hx => by
    obtain ⟨p, hp, rfl⟩ := List.mem_map.mp hx
    exact List.mem_range.mpr (N.pos p hp).2
  rw [List.length_map, List.length_range] at this
  exact this
end DL
namespace DL
open PySem PySem.Spec PyProof.Rows L2
theorem xor_nat (m k : Nat) : Builtin.bitXor (m : Int) (k : Int) = ((m ^^^ k : Nat) : Int) := by
  rw [Bits.bitXor_pp (Int.natCast_nonneg _) (Int.natCast_nonneg _), Int.toNat_natCast, Int.toNat_natCast]
/-- the tables up to a set of places -/
def ClrTab (es : List Edge) (n : Int) (fs : List (List (Nat × Nat))) : Prop := ∀ (left : Nat) (kc : List (Nat × Nat)), fs[left]? = some kc → NOk kc ∧ ∀ h, valN kc h = clrF es n left h
end DL
namespace DL
open PySem PySem.Spec PyProof.Rows L2
end DL
/-! DL: layings that can be cleared, those near another one, those that fit. -/
namespace DL
open PySem PySem.Spec PyProof.Rows L2
def cleB (es : List Edge) (n : Int) (h : Nat) : Bool := decide (0 < cnt es n.toNat (layB n h))
def clrM (es : List Edge) (n : Int) : List Nat := (List.range (2 ^ n.toNat)).filter (cleB es n)
/-- the places at which two layings differ -/
def difL (ls ts : List Int) : List Int := ((List.range ls.length).filter fun j => decide (ls[j]? ≠ ts[j]?)).map fun (j : Nat) => (j : Int)
def costL (ps ls ts : List Int) : Int := ((difL ls ts).map fun k => ps.getD k.toNat 0).sum
/-- the least pair -/
def LeastC (es : List Edge) (n : Int) (ps ls : List Int) (h : Nat) : Prop := h ∈ clrM es n ∧ ∀ h' ∈ clrM es n, costL ps ls (layB n h) < costL ps ls (layB n h') ∨ (costL ps ls (layB n h) = costL ps ls (layB n h') ∧ layB n h ≤ layB n h')
def tcs (es : List Edge) (n : Int) (ps ls : List Int) : List PyData := (clrM es n).map fun h => ntD (costL ps ls (layB n h), layB n h)
/-- the layings that fit what is told -/
def sfitB (n : Int) (ss : List Int) (h : Nat) : Bool := decide (∀ p, p < n.toNat → ss[p]? ≠ some 2 → ss[p]? = (layB n h)[p]?)
def fitM (es : List Edge) (n : Int) (ss : List Int) : List Nat := (clrM es n).filter (sfitB n ss)
end DL
namespace DL
open PySem PySem.Spec PyProof.Rows L2
end DL
namespace DL
open PySem PySem.Spec PyProof.Rows L2
/-- what is told of a laying, and what a turn costs -/
structure ToldP (n : Int) (ls ss ps : List Int) : Prop where
  hl : (ls.length : Int) = n
  hsl : (ss.length : Int) = n
  hpl : (ps.length : Int) = n
  at' : ∀ j : Nat, j < n.toNat → (ss[j]? = some 2 ∧ ps[j]? = some 0) ∨ (ss[j]? ≠ some 2 ∧ ss[j]? = ls[j]? ∧ ∃ p, ps[j]? = some p ∧ 1 ≤ p)
end DL
/-! DL: costs of orders; what flows through the states. -/
namespace DL
open PySem PySem.Spec PyProof.Rows L2
def prc (ps : List Nat) (k : Int) : Nat := ps.getD k.toNat 0
/-- what an order costs from a time on -/
def costT (ps : List Nat) : Nat → List Int → Nat
  | _, [] => 0
  | t, k :: r => prc ps k * (t + 1) + costT ps (t + 1) r
/-- the least of some numbers -/
def minO : List Nat → Option Nat
  | [] => none
  | x :: xs => some (xs.foldl min x)
/-- the least cost of the ways on -/
def mcost (es : List Edge) (ps : List Nat) : Nat → List Int → Nat → Option Nat
  | 0, _, _ => some 0
  | m + 1, h, t => minO ((headsL h).filterMap fun k => (mcost es ps m (flip es k h) (t + 1)).map fun c => prc ps k * (t + 1) + c)
/-- the least order of the least cost -/
def BestO (es : List Edge) (ps : List Nat) (m : Nat) (h : List Int) (t : Nat) (P : List Int) : Prop := P ∈ oS es m h ∧ ∀ r ∈ oS es m h, costT ps t P < costT ps t r ∨ (costT ps t P = costT ps t r ∧ P ≤ r)
/-! ### what flows through the states -/
/-- what all the ways on cost, from a state on -/
def fw (g : Nat → Nat → Nat) (es : List Edge) : Nat → List Int → Nat → Nat
  | 0, _, _ => 0
  | m + 1, h, s => ((headsL h).map fun k => g s k.toNat * cnt es m (flip es k h) + fw g es m (flip es k h) (s ||| 2 ^ k.toNat)).sum
end DL
namespace DL
open PySem PySem.Spec PyProof.Rows L2
/-- what an order weighs from a state on -/
def gT (g : Nat → Nat → Nat) : Nat → List Int → Nat
  | _, [] => 0
  | s, k :: r => g s k.toNat + gT g (s ||| 2 ^ k.toNat) r
theorem sum_const {α : Type} (c : Nat) : ∀ l : List α, (l.map fun _ => c).sum = c * l.length
  | [] => by simp
  | x :: l => by rw [List.map_cons, List.sum_cons, sum_const c l, List.length_cons, Nat.mul_add]; omega
/-- the rows of the takes -/
def rowT (to on : List Nat) (p : Nat × Nat) : Nat := to.getD p.1 0 * on.getD (p.1 ||| 2 ^ p.2) 0
def rowD3 (to on : List Nat) (p : Nat × Nat) : PyData := .tuple [.int (p.1 : Nat), .int (p.2 : Nat), .int (rowT to on p : Nat)]
def rowsOf (n : Int) (es : List Edge) (ls : List Int) (s : Nat) : List (Nat × Nat) := (headsL (stB n es ls s)).map fun k => (s, k.toNat)
def rowsL (n : Int) (es : List Edge) (ls : List Int) : List (Nat × Nat) := (List.range (2 ^ n.toNat)).flatMap (rowsOf n es ls)
end DL
namespace DL
open PySem PySem.Spec PyProof.Rows L2
def pI (ps : List Nat) : List Int := ps.map fun (x : Nat) => (x : Int)
def oN : Option Nat → PyData
  | none => .none
  | some c => .int (c : Nat)
structure CostSt (n : Int) (es : List Edge) (ls : List Int) (ps : List Nat) (i : Nat) (cur : List (Option Nat)) : Prop where
  len : cur.length = 2 ^ n.toNat
  at' : ∀ s, i ≤ s → s < 2 ^ n.toNat → cur[s]? = some (mcost es ps (n.toNat - (bitsOf s).length) (stB n es ls s) (bitsOf s).length)
end DL
namespace DL
open PySem PySem.Spec PyProof.Rows L2
end DL
/-! DL: a call with a new dict that is to remember; a list of one's own and a new one; orders of forests. -/
namespace DL
open PySem PySem.Spec PyProof.Rows L2
section
variable {X : Cx} {a b : Expr} {ta tb : TDE} {pos : Pos}
/-- f(e1, e2, {}) -/
def tdCallM0 (sd : SDM) (ta tb : TDE) : TDE := fun ρ q => ta ρ fun d1 ρ1 => tb ρ1 fun d2 ρ2 => ∃ f, sd [d1, d2] f fun d => q d ρ2
/-- xs + [..], xs a list of one's own -/
def tdCatO (i : Nat) (tb : TDA) : TDA := fun ρ q => match ρ[i]? with
  | some (.own _ ds) => tb ρ fun es ρ2 => ρ2 = ρ ∧ ds.length + es.length ≤ sizeLine ∧ q (ds ++ es) ρ2
  | _ => False
end
end DL
namespace DL
open PySem PySem.Spec PyProof.Rows L2
/-! ### webs without rings, edge by edge -/
def Fo : List Edge → Prop
  | [] => True
  | e :: es => ¬ Con es e.1 e.2 ∧ Fo es
abbrev ERng (n : Int) (es : List Edge) : Prop := ∀ e ∈ es, 0 ≤ e.1 ∧ e.1 < e.2 ∧ e.2 < n
/-! ### what goes first -/
theorem bef_sub {ks : List Int} {p x : Int} (nd : ks.Nodup) (hp : p ∈ ks) : x ∈ ks.take (ks.idxOf p) ↔ [x, p].Sublist ks := by
  induction ks with
  | nil => cases hp
  | cons y t ih =>
    obtain ⟨n1, n2⟩ := List.nodup_cons.mp nd
    by_cases e : y = p
    · subst e
      rw [List.idxOf_cons_self, List.take_zero]
      constructor
      · intro h; cases h
      · intro h
        cases h with
        | cons _ h => exact absurd (h.subset (List.mem_cons_of_mem _ List.mem_cons_self)) n1
        | cons_cons _ h => exact absurd (h.subset List.mem_cons_self) n1
    · have hp' : p ∈ t := by
        rcases List.mem_cons.mp hp with h | h
        · exact absurd h.symm e
        · exact h
      rw [List.idxOf_cons, show (y == p) = false by simpa using e, cond_false, List.take_succ_cons, List.mem_cons, ih n2 hp']
      constructor
      · rintro (rfl | h)
        · exact .cons_cons _ (List.singleton_sublist.mpr hp')
        · exact .cons _ h
      · intro h
        cases h with
        | cons _ h => exact .inr h
        | cons_cons _ h => exact .inl rfl
/-- the members of a set first, all in the order they stood in -/
noncomputable def splitA (A : Int → Prop) (ks : List Int) : List Int := (ks.filter fun x => dec (A x)) ++ ks.filter fun x => !dec (A x)
theorem split_perm (A : Int → Prop) (ks : List Int) : (splitA A ks).Perm ks := List.filter_append_perm _ _
theorem split_sub {A : Int → Prop} {ks : List Int} {x p : Int} (h : A x ↔ A p) : [x, p].Sublist (splitA A ks) ↔ [x, p].Sublist ks := by
  unfold splitA
  by_cases hp : A p
  · have hx := h.mpr hp
    have e : [x, p].filter (fun x => dec (A x)) = [x, p] := by simp [dec_iff.mpr hx, dec_iff.mpr hp]
    constructor
    · intro s
      have := s.filter fun x => dec (A x)
      rw [e, List.filter_append, List.filter_filter, List.filter_filter] at this
      have e2 : ks.filter (fun a => dec (A a) && !dec (A a)) = [] := List.filter_eq_nil_iff.mpr fun z _ => by cases dec (A z) <;> simp
      rw [e2, List.append_nil] at this
      exact this.trans List.filter_sublist
    · intro s
      have := s.filter fun x => dec (A x)
      rw [e] at this
      exact this.trans (List.sublist_append_left _ _)
  · have hx : ¬ A x := fun z => hp (h.mp z)
    have e : [x, p].filter (fun x => !dec (A x)) = [x, p] := by simp [dec_not hx, dec_not hp]
    constructor
    · intro s
      have := s.filter fun x => !dec (A x)
      rw [e, List.filter_append, List.filter_filter, List.filter_filter] at this
      have e2 : ks.filter (fun a => (!dec (A a)) && dec (A a)) = [] := List.filter_eq_nil_iff.mpr fun z _ => by cases dec (A z) <;> simp
      rw [e2, List.nil_append] at this
      exact this.trans List.filter_sublist
    · intro s
      have := s.filter fun x => !dec (A x)
      rw [e] at this
      exact this.trans (List.sublist_append_right _ _)
theorem split_first {A : Int → Prop} {ks : List Int} {u v : Int} (hu : u ∈ ks) (hv : v ∈ ks) (au : A u) (av : ¬ A v) : [u, v].Sublist (splitA A ks) ∧ ¬ [v, u].Sublist (splitA A ks) := by
  have m1 : u ∈ ks.filter fun x => dec (A x) := List.mem_filter.mpr ⟨hu, dec_iff.mpr au⟩
  have m2 : v ∈ ks.filter fun x => !dec (A x) := List.mem_filter.mpr ⟨hv, by rw [dec_not av]; rfl⟩
  refine ⟨(List.singleton_sublist.mpr m1).append (List.singleton_sublist.mpr m2), fun s => ?_⟩
  obtain ⟨l1, l2, e, s1, s2⟩ := List.sublist_append_iff.mp s
  cases l1 with
  | nil =>
    rw [List.nil_append] at e
    have := s2.subset (show u ∈ l2 by rw [← e]; simp)
    have := (List.mem_filter.mp this).2
    rw [dec_iff.mpr au] at this; cases this
  | cons y l1 =>
    have hy : y = v := by rw [List.cons_append] at e; exact (List.cons.inj e).1.symm
    subst hy
    have := s1.subset (List.mem_cons_self (a := y) (l := l1))
    have := (List.mem_filter.mp this).2
    exact av (dec_iff.mp this)
end DL
namespace DL
open PySem PySem.Spec PyProof.Rows L2
/-! ### layings of webs without rings -/
def gl (ls : List Int) (x : Int) : Int := ls.getD x.toNat 0
noncomputable def cS (n : Int) (es : List Edge) (ls : List Int) (r : Int) : Int := ((setL n (Con es r)).map (gl ls)).sum
end DL
namespace DL
open PySem PySem.Spec PyProof.Rows L2
/-- all layings, in the order of the texts -/
def lays : Nat → List (List Int)
  | 0 => [[]]
  | m + 1 => (lays m).flatMap fun l => [l ++ [0], l ++ [1]]
end DL
namespace DL
open PySem PySem.Spec PyProof.Rows L2
/-! ### trees: an odd number of heads -/
def IsTreeP (n : Int) (es : List Edge) : Prop := (reps n es).length + es.length = n.toNat ∧ (reps n es).length = 1
/-- the least of the rows of layings -/
def rowsD (es : List Edge) (n : Int) (ps ls : List Int) (L : List (List Int)) : List PyData := (L.filter fun t => decide (0 < cnt es n.toNat t)).map fun t => ntD (costL ps ls t, t)
end DL
/-! DL: tables of ways on, of what is ready; layings told in part. -/
namespace DL
open PySem PySem.Spec PyProof.Rows L2
structure RG (n : Int) (rs : List Nat) : Prop where
  len : rs.length = 2 ^ n.toNat
  ok : ∀ s m : Nat, rs[s]? = some m → m < 2 ^ n.toNat ∧ ∀ j, m.testBit j = true → s.testBit j = false
def onS (rs cur : List Nat) (s : Nat) : Nat := ((bitsOf (rs.getD s 0)).map fun k => cur.getD (s ||| 2 ^ k.toNat) 0).sum
structure OnG (n : Int) (rs : List Nat) (i : Nat) (cur : List Nat) : Prop where
  len : cur.length = 2 ^ n.toNat
  last : cur[2 ^ n.toNat - 1]? = some 1
  eq : ∀ s, i ≤ s → s + 1 < 2 ^ n.toNat → cur[s]? = some (onS rs cur s)
/-! ### layings told in part -/
def fitS (n : Int) (ss : List Int) (s h : Nat) : Bool := (List.range n.toNat).all fun p => if ss.getD p 0 = 2 then !(s.testBit p && h.testBit p) else decide (ss.getD p 0 = if h.testBit p = true then 1 else 0)
def seenC (es : List Edge) (n : Int) (h s : Nat) : Nat := cnt es (n.toNat - (bitsOf s).length) (stB n es (layB n h) s)
def seenA (es : List Edge) (n : Int) (ss : List Int) (s : Nat) : Nat := ((List.range (2 ^ n.toNat)).map fun h => if fitS n ss s h = true then seenC es n h s else 0).sum
def rdyG (n : Int) (es : List Edge) (ss : List Int) (s p : Nat) : Bool := (rdyB n es (noE ss) s p || decide (p < n.toNat ∧ ss.getD p 0 = 2)) && !s.testBit p
end DL
namespace DL
open PySem PySem.Spec PyProof.Rows L2
/-- what is ready, as a table -/
def RdyG (n : Int) (es : List Edge) (ss : List Int) (rs : List Nat) : Prop := rs.length = 2 ^ n.toNat ∧ ∀ s m : Nat, rs[s]? = some m → ∀ j, m.testBit j = rdyG n es ss s j
/-! ### the layings as a list, as masks -/
/-- told in part, and it fits -/
def fitL (n : Int) (ss l : List Int) : Bool := decide (∀ p, p < n.toNat → ss[p]? ≠ some 2 → ss[p]? = l[p]?)
def fitsL (es : List Edge) (n : Int) (ss : List Int) (L : List (List Int)) : List (List Int) := L.filter fun l => decide (0 < cnt es n.toNat l) && fitL n ss l
end DL
namespace DL
open PySem PySem.Spec PyProof.Rows L2
/-- how many heads at a place; what is shown of the places that are not told -/
def upL (L : List (List Int)) (k : Nat) : Nat := (L.filter fun l => decide (l[k]? = some 1)).length
def pairsD (n : Int) (ss : List Int) (L : List (List Int)) : List PyData := ((List.range n.toNat).filter fun k => decide (ss[k]? = some 2)).map fun (k : Nat) => .tuple [.int ((max (upL L k) (L.length - upL L k) : Nat) : Int), .int (k : Int)]
def nextD : List PyData → PyData
  | [] => .none
  | y :: ys => match PySem.W.minD y ys with
    | .tuple [_, b] => b
    | _ => .none
/-- the coin that all of them show -/
noncomputable def sureL (L : List (List Int)) (j : Nat) : PyData := if dec (∀ l ∈ L, l[j]? = some 1) = true then .int 1 else if dec (∀ l ∈ L, l[j]? = some 0) = true then .int 0 else .none
end DL
namespace DL
open PySem PySem.Spec PyProof.Rows L2
end DL
namespace DL
open PySem PySem.Spec PyProof.Rows L2
/-- the pairs of the first places -/
def pairsJ (j : Nat) (ss : List Int) (L : List (List Int)) : List PyData := ((List.range j).filter fun k => decide (ss[k]? = some 2)).map fun (k : Nat) => .tuple [.int ((max (upL L k) (L.length - upL L k) : Nat) : Int), .int (k : Int)]
end DL
namespace DL
open PySem PySem.Spec PyProof.Rows L2
section
variable {X : Cx} {b c : Expr} {tc : TDE} {pos : Pos}
/-- a, b = new list of one's own, value: stored one after another from the tuple -/
def tdAsgOS (i j : Nat) (tb : TDA) (tc : TDE) : TDS := fun q ρ => tb ρ fun ds ρ1 => tc ρ1 fun z ρ2 => ∀ m, m ∉ owns ρ2 → q.nx ((ρ2.set i (.own m ds)).set j (.sh z))
end
end DL
namespace DL
open PySem PySem.Spec PyProof.Rows L2
end DL
/-! DL: last states; trees with one coin left. -/
namespace DL
open PySem PySem.Spec PyProof.Rows L2
/-- a state that is met and where no head is left -/
def LastS (n : Int) (es : List Edge) (ls : List Int) (t : List Int) : Prop := ∃ (to : List Nat) (s : Nat), ToOk n es ls to ∧ s < 2 ^ n.toNat ∧ 0 < to.getD s 0 ∧ headsL (stB n es ls s) = [] ∧ t = bitsOf s
/-- the places of which one alone can be left -/
def OnlyK (n : Int) (es : List Edge) (ls : List Int) (k : Int) : Prop := (0 ≤ k ∧ k < n) ∧ ∃ t, LastS n es ls t ∧ t.length + 1 = n.toNat ∧ k ∉ t
noncomputable def onlyL (n : Int) (es : List Edge) (ls : List Int) : List Int := (plc n).filter fun k => dec (OnlyK n es ls k)
end DL
namespace DL
open PySem PySem.Spec PyProof.Rows L2
theorem bits_lenn {n : Int} {s : Nat} (hs : s < 2 ^ n.toNat) : (bitsOf s).length ≤ n.toNat := by
  have nd : (bitsOf s).Nodup := (bitsOf_asc s).imp fun {a b} h => by omega
  have sub : bitsOf s ⊆ (List.range n.toNat).map fun (k : Nat) => (k : Int) := fun x hx => by
    have := bits_rng (n := n) hs x hx
    exact List.mem_map.mpr ⟨x.toNat, List.mem_range.mpr (by omega), by omega⟩
  have := List.Nodup.length_le_of_subset nd sub
  rwa [List.length_map, List.length_range] at this
end DL
namespace DL
open PySem PySem.Spec PyProof.Rows L2
/-! ### a tree that grows -/
structure TreeE (n : Int) (ks : List Int) (j : Nat) (E : List Edge) : Prop where
  len : E.length = j
  nd : E.Nodup
  rng : ERng n E
  inn : ∀ e ∈ E, e.1 ∈ ks.take (j + 1) ∧ e.2 ∈ ks.take (j + 1)
  con : ∀ (i : Nat) (x y : Int), i ≤ j → ks[0]? = some x → ks[i]? = some y → Con E x y
end DL
namespace DL
open PySem PySem.Spec PyProof.Rows L2
def cutE (es : List Edge) (e : Edge) : List Edge := es.filter fun z => decide (z ≠ e)
noncomputable def sideD (n : Int) (es : List Edge) (ls : List Int) (e : Edge) : PyData := .tuple [.int (cS n (cutE es e) ls e.1), .int (cS n es ls e.1 - cS n (cutE es e) ls e.1)]
end DL
namespace DL
open PySem PySem.Spec PyProof.Rows L2
section
variable {X : Cx} {b : Expr} {tb : TDE} {pos : Pos}
/-- xs != .., xs a list of one's own that stays so -/
def tdNeO (i : Nat) (tb : TDE) : TDE := fun ρ q => match ρ[i]? with
  | some (.own _ ds) => tb ρ fun dy ρ2 => ρ2 = ρ ∧ SeqAt.shaped (.list ds) = true ∧ SeqAt.shaped dy = true ∧ q (.bool (!PyData.eqv (.list ds) dy)) ρ2
  | _ => False
end
end DL
namespace DL
open PySem PySem.Spec PyProof.Rows L2
section
variable {X : Cx} {a b : Expr} {ta tb : TDE} {pos : Pos}
theorem BV.top {K : PySem.W.Frag} {C : Ctx} {ρ : DEnv} {H : Hp} {v : V} {d : PyData} (B : BV K C ρ H v d) : Dp K H v d := by
  rcases B with D | ⟨a, vs, ds, rfl, rfl, h, D, _⟩
  · exact Dp.le hide_Le D
  · exact .lst (.inl (.inl h)) (DpAll.le hide_Le D)
theorem BV.keep {K : PySem.W.Frag} {C : Ctx} {ρ : DEnv} {H H' : Hp} {σ : L2.St} {v : V} {d : PyData} (B : BV K C ρ H v d) (E' : EnvD C K H' σ ρ) (s : Step C ρ H ρ H') (E : EnvD C K H σ ρ) : BV K C ρ H' v d := by
  rcases B with D | ⟨a, vs, ds, rfl, rfl, h, D, i, e⟩
  · exact .inl (Dp.le s.vis D)
  · obtain ⟨_, vs', g, D'⟩ := E'.own_at e
    exact .inr ⟨a, vs', ds, rfl, rfl, g, D', i, e⟩
/-- a comparison of values that may be lists of one's own: they stay so -/
def tdCmpO (rd : RD2) (ta tb : TDE) : TDE := fun ρ q => ta ρ fun x ρ1 => tb ρ1 fun y ρ2 => ρ2 = ρ1 ∧ rd x y fun z => match z with
  | .bool c => q (.bool c) ρ2
  | _ => False
end
end DL
namespace DL
open PySem PySem.Spec PyProof.Rows L2
/-! ### a search with a list of what is found and one of what waits -/
structure Bfs (n : Int) (R : Int → Int → Prop) (a : Int) (S Wl : List Int) (h : Int) (D : List Int) : Prop where
  nd : S.Nodup
  rng : ∀ x ∈ S, 0 ≤ x ∧ x < n
  st : a ∈ S
  rch : ∀ x ∈ S, Rch R a x
  wl : ∀ x ∈ Wl, x ∈ S
  cl : ∀ x ∈ S, x ∈ Wl ∨ (x = h ∧ ∀ y ∈ D, R h y → y ∈ S) ∨ ∀ y, R x y → y ∈ S
end DL
/-! DL: trees with one coin left. -/
namespace DL
open PySem PySem.Spec PyProof.Rows L2
/-! ### without one place -/
def starE (es : List Edge) (k : Int) : List Edge := es.filter fun z => decide (z.1 ≠ k ∧ z.2 ≠ k)
end DL
namespace DL
open PySem PySem.Spec PyProof.Rows L2
end DL
namespace DL
open PySem PySem.Spec PyProof.Rows L2
def toF (n : Int) (es : List Edge) (ls : List Int) (t : Nat) : Nat := (if t = 0 then 1 else 0) + ((List.range n.toNat).map fun p => if h : (t.testBit p && hdB n es ls (t ^^^ 2 ^ p) p) = true then toF n es ls (t ^^^ 2 ^ p) else 0).sum
termination_by t
decreasing_by exact xor_lt (Bool.and_eq_true_iff.mp h).1
end DL
namespace DL
open PySem PySem.Spec PyProof.Rows L2
/-- the sums of the far sides -/
noncomputable def farL (n : Int) (es : List Edge) (ls : List Int) (k : Int) : List Int := (nbr es k).map fun v => cS n (starE es k) ls v
def dueP (n : Int) (es : List Edge) (ls : List Int) (k : Int) : Prop := ((farL n es ls k).sum + gl ls k) % 2 = 0 ∧ ∀ x ∈ farL n es ls k, ¬ x % 2 = 0
noncomputable def dueL (n : Int) (es : List Edge) (ls : List Int) : List Int := (plc n).filter fun k => dec (dueP n es ls k)
def es4 : List Edge := [(0, 1), (1, 2), (2, 3)]
end DL
namespace DL
open PySem PySem.Spec PyProof.Rows L2
noncomputable def dueJ (n : Int) (es : List Edge) (ls : List Int) (j : Nat) : List Int := ((List.range j).filter fun (k : Nat) => dec (dueP n es ls (k : Int))).map fun (k : Nat) => (k : Int)
end DL
namespace DL
open PySem PySem.Spec PyProof.Rows L2
end DL
/-! DL: zip of two tuples, of two lists. -/
namespace DL
open PySem PySem.Spec PyProof.Rows L2
section
variable {X : Cx} {a b : Expr} {ta tb : TDE} {pos : Pos}
def zipD (ds es : List PyData) : List PyData := List.zipWith (fun x y => PyData.tuple [x, y]) ds es
/-- zip(t, u) -/
def tiZip (ta tb : TDE) : TDA := fun ρ q => ta ρ fun d ρ1 => tb ρ1 fun e ρ2 => match d, e with
  | .tuple ds, .tuple es => q (zipD ds es) ρ2
  | .list ds, .list es => q (zipD ds es) ρ2
  | _, _ => False
end
end DL
namespace DL
open PySem PySem.Spec PyProof.Rows L2
/-! ### sides of edges, by masks -/
def IsForestP (n : Int) (es : List Edge) : Prop := (reps n es).length + es.length = n.toNat
noncomputable def lowS (n : Int) (es : List Edge) (ls : List Int) (e : Edge) : Int := cS n (cutE es e) ls e.1
noncomputable def wayL (n : Int) (es : List Edge) (ls : List Int) : List Int := es.map fun e => 1 - lowS n es ls e % 2
/-- the places that no edge has first -/
def metE (e : Edge) (w : Int) : Int := if w = 0 then e.1 else e.2
noncomputable def lastL (n : Int) (es : List Edge) (ls : List Int) : List Int := (plc n).filter fun p => dec (∀ e ∈ es, metE e (1 - lowS n es ls e % 2) ≠ p)
end DL
namespace DL
open PySem PySem.Spec PyProof.Rows L2
end DL
namespace DL
open PySem PySem.Spec PyProof.Rows L2
noncomputable def onlyJ (n : Int) (es : List Edge) (ls : List Int) (j : Nat) : List Int := ((List.range j).filter fun (k : Nat) => dec (OnlyK n es ls (k : Int))).map fun (k : Nat) => (k : Int)
end DL
/-! DL: ways of forests: which end of each edge goes first. -/
namespace DL
open PySem PySem.Spec PyProof.Rows L2
def bef (ks : List Int) (x y : Int) : Prop := x ∈ ks.take (ks.idxOf y)
/-- the later ends, counted -/
def lateN (es : List Edge) (late : Edge → Int) (p : Int) : Nat := (es.filter fun e => decide (late e = p)).length
end DL
namespace DL
open PySem PySem.Spec PyProof.Rows L2
def laterP (p : Edge × Int) : Int := if p.2 = 0 then p.1.2 else p.1.1
def layWL (n : Int) (L : List (Edge × Int)) : List Int := (List.range n.toNat).map fun (p : Nat) => parC ((L.filter fun z => decide (laterP z = (p : Int))).length) 1
def AllOdd (n : Int) (es : List Edge) (ls : List Int) : Prop := ∀ r, 0 ≤ r → r < n → cS n es ls r % 2 = 1
end DL
namespace DL
open PySem PySem.Spec PyProof.Rows L2
end DL
/-! DL: a display of one pair whose key is a tuple; one statement at a time. -/
namespace DL
open PySem PySem.Spec PyProof.Rows L2
theorem seqG {u v : TDS} {q : DEnds} {ρ : DEnv} (h : ∀ K : DEnv → Prop, K = v q → u { q with nx := K } ρ) : tdSeq u v q ρ := h _ rfl
section
variable {X : Cx} {e a b c tg iter kx vx : Expr} {es : List Expr} {pos : Pos} {t ta tb tc tk tv : TDE}
/-! ### {k: v}, k a tuple -/
def tDispT (tk tv : TE) : TE := fun σ H Q => ∀ p, H p = none → tk σ (upd H p (.dT [])) fun x H1 => tv σ H1 fun y H2 => H2 p = some (.dT []) ∧ ∃ (k : List Key) (b : Addr), x = .ref b ∧ H2 b = some (.tup (k.map kV)) ∧ Q (.ref p) (upd H2 p (.dT [(k, y)]))
/-- .. a dict of one's own -/
structure DFT (X : Cx) (e : Expr) (t : DEnv → (List (List Key × PyData) → DEnv → Prop) → Prop) : Prop where
  ex : ∃ te, PE X e te ∧ ∀ C σ H ρ q Q, EnvD C X.K H σ ρ → t ρ q → (∀ a kvV H' kvs ρ', EnvD (C.with a) X.K H' σ ρ' → Step C ρ H ρ' H' → H a = none → H' a = some (.dT kvV) → kvV.map (·.1) = kvs.map (·.1) → DpAll X.K (hide (hs (C.with a) ρ') H') (kvV.map (·.2)) (kvs.map (·.2)) → q kvs ρ' → Q (.ref a) H') → te σ H Q
def tdDisT (tk tv : TDE) : DEnv → (List (List Key × PyData) → DEnv → Prop) → Prop := fun ρ q => tk ρ fun kd ρ1 => tv ρ1 fun d ρ2 => ∃ k : List Int, kd = tI k ∧ q [(keyI k, d)] ρ2
/-- name, name, name = value, new dict of one's own (keys tuples), value -/
def tdParSDS (i j l : Nat) (ta : TDE) (tb : DEnv → (List (List Key × PyData) → DEnv → Prop) → Prop) (tc : TDE) : TDS := fun q ρ => ta ρ fun x ρ1 => tb ρ1 fun kvs ρ2 => tc ρ2 fun z ρ3 => ∀ m, m ∉ owns ρ3 → q.nx (((ρ3.set i (.sh x)).set j (.dic m (.T kvs))).set l (.sh z))
end
end DL
/-! DL: dicts whose keys are states; what is met, turn by turn. -/
namespace DL
open PySem PySem.Spec PyProof.Rows L2
def dB (kc : List (Nat × Nat)) : List (List Int × PyData) := kc.map fun p => (bitsOf p.1, .int (p.2 : Nat))
section
variable {n : Int} {es : List Edge} {ls : List Int} {to : List Nat}
/-- which steps count: those from the rows that are done, and some of those from one more -/
def stepB (L : List Nat) (c : Nat) (D : List Int) (s p : Nat) : Bool := decide (s ∈ L) || (decide (s = c) && decide ((p : Int) ∈ D))
def partT (n : Int) (es : List Edge) (ls : List Int) (to : List Nat) (L : List Nat) (c : Nat) (D : List Int) (t : Nat) : Nat :=
  ((List.range n.toNat).map fun p => if (t.testBit p && (hdB n es ls (t ^^^ 2 ^ p) p && stepB L c D (t ^^^ 2 ^ p) p)) = true then to.getD (t ^^^ 2 ^ p) 0 else 0).sum
/-- the rows of one size -/
def RowsOk (n : Int) (to : List Nat) (m : Nat) (L : List Nat) : Prop := L.Nodup ∧ ∀ s, s ∈ L ↔ s < 2 ^ n.toNat ∧ (bitsOf s).length = m ∧ 0 < to.getD s 0
/-- what is met up to a size -/
def FoundOk (n : Int) (to : List Nat) (m : Nat) (kc : List (Nat × Nat)) : Prop := NOk kc ∧ (∃ v r, kc = (0, v) :: r) ∧ ∀ t, valN kc t = if t < 2 ^ n.toNat ∧ (bitsOf t).length ≤ m then to.getD t 0 else 0
def MoreOk (n : Int) (es : List Edge) (ls : List Int) (to L : List Nat) (c : Nat) (D : List Int) (kc : List (Nat × Nat)) : Prop := NOk kc ∧ ∀ t, valN kc t = if t < 2 ^ n.toNat then partT n es ls to L c D t else 0
/-- all that is met -/
def MetOk (n : Int) (es : List Edge) (ls : List Int) (kc : List (Nat × Nat)) : Prop := NOk kc ∧ (∃ v r, kc = (0, v) :: r) ∧ ∃ to, ToOk n es ls to ∧ ∀ t, valN kc t = if t < 2 ^ n.toNat then to.getD t 0 else 0
/-- .. and the new ones are put to them, one by one -/
def JoinOk (n : Int) (to : List Nat) (m : Nat) (ks : List Nat) (kc : List (Nat × Nat)) : Prop := NOk kc ∧ (∃ v r, kc = (0, v) :: r) ∧ ∀ t, valN kc t = if t < 2 ^ n.toNat ∧ ((bitsOf t).length ≤ m ∨ t ∈ ks) then to.getD t 0 else 0
/-- the heads below a place -/
def hdJ (h : List Int) (j : Nat) : List Int := ((List.range j).filter fun p => decide (h[p]? = some 1)).map fun (p : Nat) => (p : Int)
end
end DL
/-! DL: all ways go through states of each size. -/
namespace DL
open PySem PySem.Spec PyProof.Rows L2
theorem st_mask {n : Int} {S : List Int} (h9 : n ≤ 9) (SO : StOk n S) : ∃ m, m < 2 ^ n.toNat ∧ bitsOf m = S := by
  have gen : ∀ l : List Int, (∀ k ∈ l, 0 ≤ k ∧ k < n) → ∃ m, MaskOk l m := by
    intro l
    induction l with
    | nil => intro _; exact ⟨0, mask_zero⟩
    | cons k l ih =>
      intro h
      obtain ⟨m, hm⟩ := ih fun x hx => h x (List.mem_cons_of_mem _ hx)
      obtain ⟨k0, k1⟩ := h k List.mem_cons_self
      have := mask_step hm (k := k.toNat) (by omega)
      refine ⟨_, this.1, fun j => ?_⟩
      rw [this.2 j]
      apply decide_eq_decide.mpr
      rw [List.mem_append, List.mem_singleton, List.mem_cons]
      constructor
      · rintro (a | a)
        · exact .inr a
        · exact .inl (by omega)
      · rintro (a | a)
        · exact .inr (by omega)
        · exact .inl a
  obtain ⟨m, M⟩ := gen S SO.rng
  exact ⟨m, mask_lt M SO.rng, asc_eq (bitsOf_asc m) SO.asc (mem_bits_mask M SO.rng)⟩
section
variable {n : Int} {es : List Edge} {ls : List Int} {to : List Nat}
def onC (n : Int) (es : List Edge) (ls : List Int) (t : Nat) : Nat := cnt es (n.toNat - (bitsOf t).length) (stB n es ls t)
def levS (n : Int) (es : List Edge) (ls : List Int) (to : List Nat) (m : Nat) : Nat := ((List.range (2 ^ n.toNat)).map fun t => if (bitsOf t).length = m then to.getD t 0 * onC n es ls t else 0).sum
end
end DL
/-! DL: sorted(set(xs)), xs a list of ints. -/
namespace DL
open PySem PySem.Spec PyProof.Rows L2
section
variable {P : Program} {w : World} {A : Around} {E : Value → Shared → Prop} {s : Shared}
end
section
variable {X : Cx} {e a b c tg iter : Expr} {es : List Expr} {pos : Pos} {t ta tb tc : TDE}
def rSetL (K : PySem.W.Frag) (w : World) : List V → Hp → VK → Prop := fun xs H Q => ∃ (l : Addr) (ns U : List Int), xs = [V.ref l] ∧ (SqL K H l (ns.map V.int) ∨ SqT K H l (ns.map V.int)) ∧ ns.length ≤ 4000 ∧ (∀ k ∈ ns, k ∈ U) ∧ U.length < 64 ∧ ∀ (p : Addr) (c : Nat), H p = none → c < 64 → Q (.ref p) (upd H p (SetO w p (fun j => decide (j ∈ ns)) c))
/-- sorted(set(xs)), xs a list or tuple of ints -/
def tdSortSet (ta : TDE) : TDA := fun ρ q => ta ρ fun d ρ1 => ∃ ns U : List Int, (d = .list (ns.map .int) ∨ d = .tuple (ns.map .int)) ∧ ns.length ≤ 4000 ∧ (∀ k ∈ ns, k ∈ U) ∧ U.length < 64 ∧ ∀ m : List Int, m.Pairwise (· < ·) → (∀ k, k ∈ m ↔ k ∈ ns) → q (m.map .int) ρ1
end
end DL
/-! DL: which places can go first, which can go last (webs without rings). -/
namespace DL
open PySem PySem.Spec PyProof.Rows L2
section
variable {n : Int} {es : List Edge} {ls ks : List Int}
noncomputable def wayE (n : Int) (es : List Edge) (ls : List Int) (e : Edge) : Int := 1 - lowS n es ls e % 2
/-- the places that no edge has on its side s -/
def metS (s : Int) (e : Edge) (w : Int) : Int := if s = 0 then metE e w else metE e (1 - w)
noncomputable def endL (s : Int) (n : Int) (es : List Edge) (ls : List Int) : List Int := (plc n).filter fun p => dec (∀ e ∈ es, metS s e (wayE n es ls e) ≠ p)
/-- the far sides of the edges at a place -/
noncomputable def farF (n : Int) (es : List Edge) (ls : List Int) (k : Int) : List Int := (es.filter fun e => decide (k = e.1 ∨ k = e.2)).map fun e => if e.1 = k then cS n es ls e.1 - cS n (cutE es e) ls e.1 else cS n (cutE es e) ls e.1
def dueF (n : Int) (es : List Edge) (ls : List Int) (k : Int) : Prop := gl ls k = 1 ∧ ∀ x ∈ farF n es ls k, ¬ x % 2 = 1
noncomputable def dueFJ (n : Int) (es : List Edge) (ls : List Int) (j : Nat) : List Int := ((List.range j).filter fun (k : Nat) => dec (dueF n es ls (k : Int))).map fun (k : Nat) => (k : Int)
end
end DL
/-! DL: names that go along the edges end as the least place of each part; a web without a place. -/
namespace DL
open PySem PySem.Spec PyProof.Rows L2
section
variable {n : Int} {es : List Edge}
structure LabOk (n : Int) (es : List Edge) (ls : List Int) : Prop where
  len : (ls.length : Int) = n
  val : ∀ x, 0 ≤ x → x < n → 0 ≤ gl ls x ∧ gl ls x ≤ x ∧ Con es (gl ls x) x
/-- one turn over all edges -/
structure Rnd (n : Int) (es : List Edge) (done : List Edge) (a b : List Int) : Prop where
  ok : LabOk n es b
  le : ∀ x, 0 ≤ x → x < n → gl b x ≤ gl a x
  ed : ∀ e ∈ done, gl b e.1 ≤ gl a e.2 ∧ gl b e.2 ≤ gl a e.1
def Closed (n : Int) (es : List Edge) (ls : List Int) (r : Int) : Prop := ∀ x, 0 ≤ x → x < n → Con es r x → gl ls x = r
def LabAt (n : Int) (es : List Edge) (t : Nat) (ls : List Int) : Prop := LabOk n es ls ∧ ∀ r, 0 ≤ r → r < n → Rep es r → Closed n es ls r ∨ t + 1 ≤ (setL n fun x => gl ls x = r).length
/-! ### a web without a place -/
def shP (p x : Int) : Int := x - if p < x then 1 else 0
def woE (p : Int) (es : List Edge) : List Edge := (es.filter fun e => decide (e.1 ≠ p ∧ e.2 ≠ p)).map fun e => (shP p e.1, shP p e.2)
end
end DL
/-! DL: the way an order goes in a forest; what the first take leaves. -/
namespace DL
open PySem PySem.Spec PyProof.Rows L2
variable {n : Int} {es : List Edge} {ks ts : List Int}
theorem bef_idx (O : OrdOk n ks) {x y : Int} (hx : 0 ≤ x ∧ x < n) (hy : 0 ≤ y ∧ y < n) : bef ks x y ↔ ks.idxOf x < ks.idxOf y := by
  have m1 := O.all hx.1 hx.2
  have i1 := List.idxOf_lt_length_of_mem m1
  have g1 : ks[ks.idxOf x]'i1 = x := List.getElem_idxOf i1
  unfold bef
  constructor
  · intro z
    obtain ⟨i, h1, h2⟩ := List.mem_take_iff_getElem.mp z
    have q := idx_at O.nd (i := i) (by omega)
    rw [h2] at q
    omega
  · intro z
    have hy : ks.idxOf y ≤ ks.length := List.idxOf_le_length
    exact List.mem_take_iff_getElem.mpr ⟨ks.idxOf x, by omega, g1⟩
/-- which end of an edge goes first -/
def wvE (ks : List Int) (e : Edge) : Int := if ks.idxOf e.2 < ks.idxOf e.1 then 1 else 0
/-! ### without the place that is taken first -/
def unP (p x : Int) : Int := if p ≤ x then x + 1 else x
end DL
/-! DL: trees: what fits a laying told in part. -/
namespace DL
open PySem PySem.Spec PyProof.Rows L2
variable {n : Int} {es : List Edge} {ss ls : List Int}
/-! ### every place open -/
theorem filt_both {α : Type} (p : α → Bool) : ∀ l : List α, l.length = (l.filter p).length + (l.filter fun x => !p x).length
  | [] => rfl
  | x :: l => by
    have := filt_both p l
    rw [List.filter_cons, List.filter_cons, List.length_cons]
    cases p x with
    | true => simp; omega
    | false => simp; omega
/-! ### one place set either way -/
/-! ### how many fit -/
def parN (m : Nat) (ss : List Int) (b : Int) : Nat := ((lays m).filter fun l => decide (l.sum % 2 = b) && fitL (m : Int) ss l).length
end DL
/-! DL: orders that keep a way: which end of each edge goes first, and which later. -/
namespace DL
open PySem PySem.Spec PyProof.Rows L2
/-- the end of an edge that goes first -/
def firP (z : Edge × Int) : Int := if z.2 = 0 then z.1.1 else z.1.2
/-- the masks, place by place: the other ends -/
def mkM (lo hi : Edge × Int → Int) (Z : List (Edge × Int)) (p : Int) : Nat := Z.foldl (fun m z => if lo z = p then m ||| 2 ^ (hi z).toNat else m) 0
/-- the places that stand ahead of p -/
abbrev earM (Z : List (Edge × Int)) (p : Int) : Nat := mkM laterP firP Z p
def rdyW (Z : List (Edge × Int)) (s p : Nat) : Bool := !s.testBit p && decide (earM Z p &&& s = earM Z p)
def cntW (n : Nat) (Z : List (Edge × Int)) : Nat → Nat → Nat
  | 0, _ => 1
  | m + 1, s => ((List.range n).map fun p => if rdyW Z s p = true then cntW n Z m (s ||| 2 ^ p) else 0).sum
def oW (n : Nat) (Z : List (Edge × Int)) : Nat → Nat → List (List Int)
  | 0, _ => [[]]
  | m + 1, s => (List.range n).flatMap fun p => if rdyW Z s p = true then (oW n Z m (s ||| 2 ^ p)).map fun r => (p : Int) :: r else []
structure OkW (n : Nat) (Z : List (Edge × Int)) (m s : Nat) (ks : List Int) : Prop where
  len : ks.length = m
  nd : ks.Nodup
  rng : ∀ k ∈ ks, 0 ≤ k ∧ k < n ∧ s.testBit k.toNat = false
  way : ∀ i, ∀ h : i < ks.length, ∀ z ∈ Z, laterP z = ks[i] → s.testBit (firP z).toNat = true ∨ firP z ∈ ks.take i
/-- the orders that keep the way -/
def KeepW (n : Int) (Z : List (Edge × Int)) (ks : List Int) : Prop := OrdOk n ks ∧ ∀ z ∈ Z, bef ks (firP z) (laterP z)
/-- turned round -/
def bckZ (Z : List (Edge × Int)) : List (Edge × Int) := Z.map fun z => (z.1, 1 - z.2)
/-- the table of the ways on -/
def RdyT (n : Int) (Z : List (Edge × Int)) (rs : List Nat) : Prop := rs.length = 2 ^ n.toNat ∧ ∀ s m : Nat, rs[s]? = some m → ∀ j, m.testBit j = (decide (j < n.toNat) && rdyW Z s j)
/-- the table of the later ends, as it is built -/
def mkD (n : Int) (L : List (Edge × Int)) : List PyData := (List.range n.toNat).map fun (p : Nat) => .int (mkM firP laterP L (p : Int) : Nat)
theorem xor_zero {x y : Nat} (h : x ^^^ y = 0) : x = y := by
  apply Nat.eq_of_testBit_eq
  intro j
  have := congrArg (fun z => Nat.testBit z j) h
  simp only [Nat.testBit_xor, Nat.zero_testBit] at this
  cases hx : x.testBit j <;> cases hy : y.testBit j <;> rw [hx, hy] at this <;> first | rfl | cases this
/-! ### two ways compared -/
def cnt3 (P : Edge → Int → Int → Bool) : List Edge → List Int → List Int → Nat
  | e :: es, w :: ws, v :: vs => (if P e w v = true then 1 else 0) + cnt3 P es ws vs
  | _, _, _ => 0
def latN (es : List Edge) (ws : List Int) (x : Int) : Nat := ((es.zip ws).filter fun z => decide (laterP z = x)).length
def tchP (x : Int) (e : Edge) (w v : Int) : Bool := decide (w ≠ v) && decide (x = e.1 ∨ x = e.2)
end DL
/-! DL: {} as data; values that claim to be the cheapest turn. -/
namespace DL
open PySem PySem.Spec PyProof.Rows L2
section
variable {X : Cx} {pos : Pos}
end
/-! ### values that claim to be a turn -/
def bitsV (d : PyData) (n : Int) : Bool := match d with
  | .tuple xs => decide ((xs.length : Int) = n) && xs.all fun x => betw x 0 1
  | _ => false
def vecV (d : PyData) (n : Int) : Bool := match d with
  | .tuple xs => decide ((xs.length : Int) = n) && xs.all isIntD
  | _ => false
def HdV (x : PyData) : Prop := (∃ i, x = .int i) ∨ (∃ b, x = .bool b) ∨ ∃ ts, x = tI ts
inductive TlV (n : Int) : PyData → Prop
  | int (i : Int) : TlV n (.int i)
  | lst (ts : List Int) : TlV n (.list (ts.map .int))
  | full (ts : List Int) : Full n ts → TlV n (tI ts)
  | odd (ts : List Int) : (ts.length : Int) ≠ n → ts.length ≤ 100 → TlV n (tI ts)
  | bad (d : PyData) (ts : List Int) : (d = .none ∨ ∃ b, d = .bool b) → ts.length ≤ 100 → TlV n (.tuple (d :: ts.map .int))
inductive VOk (n : Int) : PyData → Prop
  | non : VOk n .none
  | int (i : Int) : VOk n (.int i)
  | dct : VOk n (.dict [])
  | lst (xs : List PyData) : VOk n (.list xs)
  | tup (xs : List PyData) : xs.length ≠ 2 → xs.length ≤ 100 → VOk n (.tuple xs)
  | pair (x y : PyData) : HdV x → TlV n y → VOk n (.tuple [x, y])
def TurnV (n c : Int) (es : List Edge) (ps ls : List Int) (v : PyData) : Prop := ∃ ts, v = .tuple [.int c, tI ts] ∧ Full n ts ∧ 0 < cnt es n.toNat ts ∧ costL ps ls ts = c
noncomputable def turnV (n c : Int) (es : List Edge) (ps ls : List Int) (v : PyData) : Bool := dec (TurnV n c es ps ls v)
def VItem (x : PyData) : Prop := (∃ i, x = .int i) ∨ (∃ b, x = .bool b) ∨ x = .none ∨ ∃ ts, x = tI ts
theorem VItem.sh {x : PyData} (h : VItem x) : SeqAt.shaped x = true := by
  rcases h with ⟨i, rfl⟩ | ⟨b, rfl⟩ | rfl | ⟨ts, rfl⟩
  · rfl
  · rfl
  · rfl
  · exact sh_tI ts
end DL
/-! DL: sorted(set(xs)), xs a list or tuple of tuples of ints, all of one length. -/
namespace DL
open PySem PySem.Spec PyProof.Rows L2
section
variable {X : Cx} {a : Expr} {pos : Pos} {ta : TDE}
def tdSortSetT (ta : TDE) : TDA := fun ρ q => ta ρ fun d ρ1 => ∃ (ts : List (List Int)) (n : Nat) (B : Int), d = .list (ts.map tI) ∧ ts.length < 64 ∧ 1 ≤ n ∧ (∀ t ∈ ts, t.length = n ∧ TS.Bd B t) ∧ ∀ ms : List (List Int), ms.Pairwise (· < ·) → (∀ t, t ∈ ms ↔ t ∈ ts) → q (ms.map tI) ρ1
end
section
variable {X : Cx}
end
section
variable {X : Cx}
end
/-- all of it places -/
def plsV (d : PyData) (n : Int) : Bool := match d with
  | .tuple xs => xs.all fun x => betw x 0 (n - 1)
  | _ => false
noncomputable def ordV (n : Int) (d : PyData) : Bool := dec (∃ ks, d = tI ks ∧ OrdOk n ks)
section
variable {X : Cx} {a b c : Expr} {pos : Pos} {ta tb tc : TDE}
/-- a < b < c as a test -/
def tdChainT (rd rd' : RD2) (ta tb tc : TDE) : TDT := fun ρ q => tdChain rd rd' ta tb tc ρ fun z ρ' => ∃ k, z = .bool k ∧ q k ρ'
end
/-- another order clears the laying of those that were told -/
def FitsX (n : Int) (es : List Edge) (t : List Int) (ts : List (List Int)) : Prop := (∀ u ∈ ts, layOf n es u = layOf n es t) ∧ ∃ o, o ∈ ords es n (layOf n es t) ∧ o ∉ t :: ts
def ThirdX (n : Int) (es : List Edge) (t : List Int) (ts : List (List Int)) (v : PyData) : Prop := ∃ ks, v = tI ks ∧ OrdOk n ks ∧ ks ∉ t :: ts ∧ layOf n es ks = layOf n es t
noncomputable def thirdV (n : Int) (es : List Edge) (t : List Int) (ts : List (List Int)) (v : PyData) : Bool := if dec (FitsX n es t ts) = true then dec (ThirdX n es t ts v) else isNoneD v
inductive VT : PyData → Prop
  | non : VT .none
  | int (i : Int) : VT (.int i)
  | dct : VT (.dict [])
  | str (x : Str) : VT (.str x)
  | lst (xs : List PyData) : VT (.list xs)
  | tup (us : List Int) : us.length ≤ 100 → VT (tI us)
  | bad (us : List Int) : us.length ≤ 100 → VT (.tuple (.bool true :: us.map .int))
end DL
/-! DL: name, name = value, {k: v}; groups of places (the sets in a set), signs of groups, rounds of takes. -/
namespace DL
open PySem PySem.Spec PyProof.Rows L2
section
variable {X : Cx} {a b : Expr} {pos : Pos} {ta : TDE}
def tdParSDi (i j : Nat) (ta : TDE) (tb : DEnv → (List (List Key × PyData) → DEnv → Prop) → Prop) : TDS := fun q ρ => ta ρ fun x ρ1 => tb ρ1 fun kvs ρ2 => ∀ m, m ∉ owns ρ2 → q.nx ((ρ2.set i (.sh x)).set j (.dic m (.T kvs)))
end
/-! ### sets in a set -/
theorem sub_step : ∀ (g h m : Nat), g &&& m = g → h &&& m = h → h < g → h ≤ (g - 1) &&& m := by
  intro g
  induction g using Nat.strongRecOn with
  | ind g ih =>
    intro h m hg hh hlt
    have g2 : g / 2 &&& m / 2 = g / 2 := by rw [← Nat.and_div_two, hg]
    have h2 : h / 2 &&& m / 2 = h / 2 := by rw [← Nat.and_div_two, hh]
    have x2 : ((g - 1) &&& m) / 2 = (g - 1) / 2 &&& m / 2 := Nat.and_div_two
    by_cases o : g % 2 = 1
    · rw [show (g - 1) / 2 = g / 2 by omega, g2] at x2
      omega
    · have e := ih (g / 2) (by omega) (h / 2) (m / 2) g2 h2 (by omega)
      rw [show g / 2 - 1 = (g - 1) / 2 by omega, ← x2] at e
      by_cases p : h % 2 = 1
      · have m1 : m % 2 = 1 := (Nat.and_mod_two_eq_one.mp (by rw [hh]; exact p)).2
        have : ((g - 1) &&& m) % 2 = 1 := Nat.and_mod_two_eq_one.mpr ⟨by omega, m1⟩
        omega
      · omega
structure Grp (m : Nat) (gs : List Nat) : Prop where
  nd : gs.Nodup
  mem : ∀ g, g ∈ gs ↔ g ≠ 0 ∧ g &&& m = g
structure GrpTo (m g : Nat) (gs : List Nat) : Prop where
  sub : g &&& m = g
  nd : gs.Nodup
  mem : ∀ h, h ∈ gs ↔ g < h ∧ h &&& m = h
theorem and_le_of {g m : Nat} (h : g &&& m = g) : g ≤ m := by rw [← h]; exact Nat.and_le_right
theorem GrpTo.start (m : Nat) : GrpTo m m [] := ⟨Nat.and_self m, List.nodup_nil, fun h => ⟨fun z => (nomatch z), fun ⟨a, b⟩ => by have := and_le_of b; omega⟩⟩
theorem GrpTo.step {m g : Nat} {gs : List Nat} (G : GrpTo m g gs) (h0 : 0 < g) : GrpTo m ((g - 1) &&& m) (gs ++ [g]) := by
  have lt : (g - 1) &&& m < g := Nat.lt_of_le_of_lt Nat.and_le_left (by omega)
  refine ⟨by rw [Nat.and_assoc, Nat.and_self], List.nodup_append.mpr ⟨G.nd, by simp, fun a ha b hb e => ?_⟩, fun h => ?_⟩
  · have := ((G.mem a).mp ha).1
    have : b = g := by simpa using hb
    omega
  · rw [List.mem_append, List.mem_singleton, G.mem]
    constructor
    · rintro (⟨a, b⟩ | rfl)
      · exact ⟨by omega, b⟩
      · exact ⟨lt, G.sub⟩
    · rintro ⟨a, b⟩
      by_cases q : g < h
      · exact .inl ⟨q, b⟩
      · refine .inr (Nat.le_antisymm (by omega) ?_)
        refine Nat.le_of_not_lt fun z => ?_
        have := sub_step g h m G.sub b z
        omega
theorem GrpTo.fin {m : Nat} {gs : List Nat} (G : GrpTo m 0 gs) : Grp m gs := ⟨G.nd, fun g => by rw [G.mem]; exact ⟨fun ⟨a, b⟩ => ⟨by omega, b⟩, fun ⟨a, b⟩ => ⟨by omega, b⟩⟩⟩
/-! ### signs of groups -/
def LowB (g k : Nat) : Prop := g.testBit k = true ∧ ∀ j, (g &&& (g - 1)).testBit j = (g.testBit j && !decide (j = k))
def IndM (es : List Edge) (g : Nat) : Prop := ∀ a b : Nat, g.testBit a = true → g.testBit b = true → adj es a b = false
structure SgTo (es : List Edge) (sg : List Int) : Prop where
  zero : sg[0]? = some (-1)
  eq : ∀ g, 0 < g → g < sg.length → ∃ k, LowB g k ∧ ((∃ j : Nat, g.testBit j = true ∧ adj es k j = true) → sg.getD g 0 = 0) ∧ ((¬ ∃ j : Nat, g.testBit j = true ∧ adj es k j = true) → sg.getD g 0 = - sg.getD (g ^^^ 2 ^ k) 0)
def SgOk (n : Int) (es : List Edge) (sg : List Int) : Prop := SgTo es sg ∧ sg.length = 2 ^ n.toNat
theorem SgTo.start (es : List Edge) : SgTo es [-1] := ⟨rfl, fun g h1 h2 => by simp at h2; omega⟩
theorem SgTo.step {es : List Edge} {sg : List Int} {k : Nat} {v : Int} (S : SgTo es sg) (L : LowB sg.length k) (h1 : (∃ j : Nat, sg.length.testBit j = true ∧ adj es k j = true) → v = 0) (h2 : (¬ ∃ j : Nat, sg.length.testBit j = true ∧ adj es k j = true) → v = - sg.getD (sg.length ^^^ 2 ^ k) 0) : SgTo es (sg ++ [v]) := by
  have l0 : 0 < sg.length := by
    have := S.zero
    rcases Nat.eq_zero_or_pos sg.length with z | z
    · rw [List.getElem?_eq_none (by omega)] at this; cases this
    · exact z
  refine ⟨by rw [List.getElem?_append_left l0]; exact S.zero, fun g g1 g2 => ?_⟩
  rw [List.length_append, List.length_singleton] at g2
  have old : ∀ j, j < sg.length → (sg ++ [v]).getD j 0 = sg.getD j 0 := fun j hj => by rw [List.getD_eq_getElem?_getD, List.getElem?_append_left hj, List.getD_eq_getElem?_getD]
  by_cases q : g < sg.length
  · obtain ⟨k', a, b, c⟩ := S.eq g g1 q
    refine ⟨k', a, fun z => by rw [old g q]; exact b z, fun z => ?_⟩
    rw [old g q, old _ (Nat.lt_trans (xor_lt a.1) q)]
    exact c z
  · have e : g = sg.length := by omega
    subst e
    have new : (sg ++ [v]).getD sg.length 0 = v := by rw [List.getD_eq_getElem?_getD, List.getElem?_append_right (Nat.le_refl _), Nat.sub_self]; rfl
    refine ⟨k, L, fun z => by rw [new]; exact h1 z, fun z => ?_⟩
    rw [new, old _ (xor_lt L.1)]
    exact h2 z
theorem xor_bitk {g k j : Nat} (h : g.testBit k = true) : (g ^^^ 2 ^ k).testBit j = (g.testBit j && !decide (j = k)) := by
  rw [Nat.testBit_xor, Nat.testBit_two_pow]
  by_cases e : j = k
  · subst e; rw [h]; simp
  · have : ¬ k = j := fun z => e z.symm
    simp [e, this]
end DL
/-! DL: rounds of takes. -/
namespace DL
open PySem PySem.Spec PyProof.Rows L2
def Grp1 (n : Int) (es : List Edge) (ls : List Int) (s g : Nat) : Prop := g ≠ 0 ∧ IndM es g ∧ ∀ j : Nat, g.testBit j = true → (j : Int) ∈ headsL (stB n es ls s)
def Rou (n : Int) (es : List Edge) (ls : List Int) : Nat → Nat → Prop
  | 0, s => s = 2 ^ n.toNat - 1
  | k + 1, s => ∃ g, Grp1 n es ls s g ∧ Rou n es ls k (s ||| g)
def Fw (n : Int) (es : List Edge) (ls : List Int) : Nat → Nat → Prop
  | 0, s => s = 0
  | t + 1, s => ∃ r g, Fw n es ls t r ∧ Grp1 n es ls r g ∧ s = r ||| g
def IsL (P : Nat → Prop) : Option Nat → Prop
  | none => ∀ k, ¬ P k
  | some k => P k ∧ ∀ j, P j → k ≤ j
theorem IsL.uniq {P : Nat → Prop} : ∀ {o o' : Option Nat}, IsL P o → IsL P o' → o = o'
  | none, none, _, _ => rfl
  | none, some k, h, h' => absurd h'.1 (h k)
  | some k, none, h, h' => absurd h.1 (h' k)
  | some k, some k', h, h' => by have a := h.2 _ h'.1; have b := h'.2 _ h.1; congr 1; omega
theorem IsL.congr {P Q : Nat → Prop} (e : ∀ k, P k ↔ Q k) : ∀ {o : Option Nat}, IsL P o → IsL Q o
  | none, h => fun k z => h k ((e k).mpr z)
  | some k, h => ⟨(e k).mp h.1, fun j z => h.2 j ((e j).mpr z)⟩
section
variable {n : Int} {es : List Edge} {ls : List Int}
theorem Grp1.bit {s g j : Nat} (G : Grp1 n es ls s g) (h : g.testBit j = true) : (j : Int) < n ∧ s.testBit j = false := by
  obtain ⟨a, b, c, d⟩ := stB_head (G.2.2 j h)
  exact ⟨b, by simpa using c⟩
theorem Grp1.lt {s g : Nat} (G : Grp1 n es ls s g) : g < 2 ^ n.toNat := by
  apply Nat.lt_pow_two_of_testBit
  intro j hj
  refine Bool.eq_false_iff.mpr fun z => ?_
  have := (G.bit z).1
  omega
theorem Grp1.or_lt {s g : Nat} (G : Grp1 n es ls s g) (h : s < 2 ^ n.toNat) : s ||| g < 2 ^ n.toNat := Nat.or_lt_two_pow h G.lt
theorem bit_ex {g : Nat} (h : g ≠ 0) : ∃ j : Nat, g.testBit j = true := by
  obtain ⟨k, a, _⟩ := low_bit g (by omega)
  exact ⟨k, a⟩
theorem Grp1.gt {s g : Nat} (G : Grp1 n es ls s g) : s < s ||| g := by
  obtain ⟨j, hj⟩ := bit_ex G.1
  have le : s ≤ s ||| g := Nat.left_le_or
  refine Nat.lt_of_le_of_ne le fun e => ?_
  have := (G.bit hj).2
  rw [e, Nat.testBit_or, hj] at this
  simp at this
theorem Grp1.more {s g : Nat} (G : Grp1 n es ls s g) : (bitsOf s).length < (bitsOf (s ||| g)).length := by
  obtain ⟨j, hj⟩ := bit_ex G.1
  have nd : ∀ m, (bitsOf m).Nodup := fun m => (bitsOf_asc m).imp fun {a b} h => by omega
  have : ((j : Int) :: bitsOf s).Nodup := List.nodup_cons.mpr ⟨fun z => absurd (mem_bitsOf.mp z).2 (by rw [Int.toNat_natCast, (G.bit hj).2]; decide), nd s⟩
  have := this.length_le_of_subset (l₂ := bitsOf (s ||| g)) fun x hx => by
    rcases List.mem_cons.mp hx with rfl | hx
    · exact mem_bitsOf.mpr ⟨by omega, by rw [Int.toNat_natCast, Nat.testBit_or, hj, Bool.or_true]⟩
    · obtain ⟨a, b⟩ := mem_bitsOf.mp hx
      exact mem_bitsOf.mpr ⟨a, by rw [Nat.testBit_or, b, Bool.true_or]⟩
  rw [List.length_cons] at this
  exact this
theorem fw_rnd : ∀ (t k s : Nat), Fw n es ls t s → Rou n es ls k s → Rou n es ls (t + k) 0
  | 0, k, s, h, h' => by
    have : s = 0 := h
    subst this
    rw [Nat.zero_add]; exact h'
  | t + 1, k, s, ⟨r, g, a, b, e⟩, h' => by
    subst e
    have := fw_rnd t (k + 1) r a ⟨g, b, h'⟩
    rw [show t + 1 + k = t + (k + 1) by omega]; exact this
theorem rnd_fw : ∀ (k t s : Nat), Rou n es ls k s → Fw n es ls t s → Fw n es ls (t + k) (2 ^ n.toNat - 1)
  | 0, t, s, h, h' => by
    have : s = 2 ^ n.toNat - 1 := h
    subst this
    exact h'
  | k + 1, t, s, ⟨g, a, b⟩, h' => by
    have := rnd_fw k (t + 1) _ b ⟨s, g, h', a, rfl⟩
    rw [show t + (k + 1) = t + 1 + k by omega]; exact this
theorem fw_iff (k : Nat) : Fw n es ls k (2 ^ n.toNat - 1) ↔ Rou n es ls k 0 := ⟨fun h => fw_rnd k 0 _ h rfl, fun h => by have := rnd_fw k 0 0 h rfl; rwa [Nat.zero_add] at this⟩
theorem fw_len : ∀ (t s : Nat), Fw n es ls t s → s < 2 ^ n.toNat ∧ t ≤ (bitsOf s).length
  | 0, s, h => by
    have : s = 0 := h
    subst this
    exact ⟨Nat.two_pow_pos _, Nat.zero_le _⟩
  | t + 1, s, ⟨r, g, a, b, e⟩ => by
    subst e
    obtain ⟨h1, h2⟩ := fw_len t r a
    have := b.more
    exact ⟨b.or_lt h1, by omega⟩
/-! the table -/
structure RdSt (n : Int) (es : List Edge) (ls : List Int) (i : Nat) (R : List (Option Nat)) : Prop where
  len : R.length = 2 ^ n.toNat
  eq : ∀ s, i ≤ s → s < 2 ^ n.toNat → IsL (fun k => Rou n es ls k s) (R.getD s none)
def MinOf (R : List (Option Nat)) (i : Nat) (gs : List Nat) : Option Nat → Prop
  | none => ∀ g ∈ gs, R.getD (i ||| g) none = none
  | some m => (∃ g ∈ gs, ∃ k, R.getD (i ||| g) none = some k ∧ m = k + 1) ∧ ∀ g ∈ gs, ∀ k, R.getD (i ||| g) none = some k → m ≤ k + 1
/-! breadth first -/
structure Bf (n : Int) (es : List Edge) (ls : List Int) (t : Nat) (K M : List Nat) : Prop where
  sub : ∀ s ∈ M, s ∈ K
  lt : ∀ s ∈ K, s < 2 ^ n.toNat
  here : ∀ s ∈ M, Fw n es ls t s
  old : ∀ j, j < t → ¬ Fw n es ls j (2 ^ n.toNat - 1)
  cl : ∀ r ∈ K, r ∉ M → r ≠ 2 ^ n.toNat - 1 ∧ ∀ g, Grp1 n es ls r g → r ||| g ∈ K
  all : ∀ j, j ≤ t → ∀ s, Fw n es ls j s → s ∈ K
structure Bm (n : Int) (es : List Edge) (ls : List Int) (t : Nat) (K D m : List Nat) : Prop where
  new : ∀ s ∈ m, Fw n es ls (t + 1) s
  done : ∀ r ∈ D, r ≠ 2 ^ n.toNat - 1 ∧ ∀ g, Grp1 n es ls r g → r ||| g ∈ K ++ m
theorem Bf.start : Bf n es ls 0 [0] [0] := ⟨fun s h => h, fun s h => by rw [List.mem_singleton.mp h]; exact Nat.two_pow_pos _, fun s h => List.mem_singleton.mp h, fun j h => absurd h (Nat.not_lt_zero j), fun r h h' => absurd h h', fun j h s hs => by
  obtain rfl : j = 0 := by omega
  exact List.mem_singleton.mpr hs⟩
theorem Bf.next {t : Nat} {K M m : List Nat} (B : Bf n es ls t K M) (C : Bm n es ls t K M m) : Bf n es ls (t + 1) (K ++ m) m := by
  have cl' : ∀ r ∈ K, r ≠ 2 ^ n.toNat - 1 ∧ ∀ g, Grp1 n es ls r g → r ||| g ∈ K ++ m := fun r hr => by
    by_cases q : r ∈ M
    · exact C.done r q
    · obtain ⟨a, b⟩ := B.cl r hr q
      exact ⟨a, fun g G => List.mem_append_left _ (b g G)⟩
  refine ⟨fun s h => List.mem_append_right _ h, fun s h => ?_, C.new, fun j hj z => ?_, fun r hr h => ?_, fun j hj s hs => ?_⟩
  · rcases List.mem_append.mp h with h | h
    · exact B.lt s h
    · exact (fw_len _ _ (C.new s h)).1
  · by_cases q : j < t
    · exact B.old j q z
    · obtain rfl : j = t := by omega
      exact (cl' _ (B.all j (Nat.le_refl _) _ z)).1 rfl
  · rcases List.mem_append.mp hr with hr | hr
    · exact cl' r hr
    · exact absurd hr h
  · by_cases q : j ≤ t
    · exact List.mem_append_left _ (B.all j q s hs)
    · obtain rfl : j = t + 1 := by omega
      obtain ⟨r, g, a, b, e⟩ := hs
      rw [e]
      exact (cl' r (B.all t (Nat.le_refl _) r a)).2 g b
theorem Bf.hit {t : Nat} {K M : List Nat} (B : Bf n es ls t K M) (h : 2 ^ n.toNat - 1 ∈ M) : IsL (fun k => Rou n es ls k 0) (some t) :=
  ⟨(fw_iff t).mp (B.here _ h), fun j hj => Nat.le_of_not_lt fun z => B.old j z ((fw_iff j).mpr hj)⟩
/-! the lots -/
def LotOk (n : Int) (es : List Edge) (ls : List Int) (s : Nat) (ks : List Int) (G : List Nat) : Prop := ∀ g, g ∈ G ↔ (g = 0 ∨ Grp1 n es ls s g) ∧ ∀ j : Nat, g.testBit j = true → (j : Int) ∈ ks
noncomputable def freeB (es : List Edge) (k g : Nat) : Bool := dec (∀ j : Nat, g.testBit j = true → adj es k j = false)
end
end DL
/-! DL: what can be cleared can be cleared in rounds. -/
namespace DL
open PySem PySem.Spec PyProof.Rows L2
section
variable {n : Int} {es : List Edge} {ls : List Int}
theorem sum_ex {α : Type} (f : α → Nat) : ∀ l : List α, 0 < (l.map f).sum ↔ ∃ x ∈ l, 0 < f x
  | [] => ⟨fun h => absurd h (by simp), fun ⟨x, h, _⟩ => nomatch h⟩
  | a :: l => by
    rw [List.map_cons, List.sum_cons]
    constructor
    · intro h
      by_cases q : 0 < f a
      · exact ⟨a, List.mem_cons_self, q⟩
      · obtain ⟨x, h1, h2⟩ := (sum_ex f l).mp (by omega)
        exact ⟨x, List.mem_cons_of_mem _ h1, h2⟩
    · rintro ⟨x, h1, h2⟩
      rcases List.mem_cons.mp h1 with rfl | h1
      · omega
      · have := (sum_ex f l).mpr ⟨x, h1, h2⟩
        omega
theorem head_stay (W : WebOk n es) (F : Full n ls) {s a b : Nat} (ha : (a : Int) ∈ headsL (stB n es ls s)) (hb : (b : Int) ∈ headsL (stB n es ls s)) (ne : a ≠ b) (na : adj es b a = false) : (a : Int) ∈ headsL (stB n es ls (s ||| 2 ^ b)) := by
  obtain ⟨_, b1, b2, b3⟩ := stB_head hb
  rw [Int.toNat_natCast] at b2
  obtain ⟨_, a1, a2, a3⟩ := stB_head ha
  rw [Int.toNat_natCast] at a3
  rw [← stB_step W F b1 b2]
  have al : a < (stB n es ls s).length := by
    rcases Nat.lt_or_ge a (stB n es ls s).length with z | z
    · exact z
    · rw [List.getElem?_eq_none z] at a3; cases a3
  have g1 := flip_gc (es := es) (k := b) al
  rw [if_neg ne, na, gc_of a3] at g1
  refine mem_headsL.mpr ⟨by omega, ?_⟩
  rw [Int.toNat_natCast]
  have g2 : gc (flip es (b : Int) (stB n es ls s)) a = 1 := by simpa using g1
  unfold gc at g2
  rw [List.getD_eq_getElem?_getD] at g2
  cases q : (flip es (b : Int) (stB n es ls s))[a]? with
  | none => rw [q] at g2; cases g2
  | some v => rw [q] at g2; exact congrArg some g2
def Clr (n : Int) (es : List Edge) (ls : List Int) (s : Nat) : Prop := ∃ m, (bitsOf s).length + m = n.toNat ∧ 0 < cnt es m (stB n es ls s)
theorem Grp1.cut (W : WebOk n es) (F : Full n ls) {s g k : Nat} (G : Grp1 n es ls s g) (hk : g.testBit k = true) : g ^^^ 2 ^ k = 0 ∨ Grp1 n es ls (s ||| 2 ^ k) (g ^^^ 2 ^ k) := by
  by_cases z : g ^^^ 2 ^ k = 0
  · exact .inl z
  · refine .inr ⟨z, fun x y hx hy => ?_, fun j hj => ?_⟩
    · rw [xor_bitk hk, Bool.and_eq_true] at hx hy
      exact G.2.1 x y hx.1 hy.1
    · rw [xor_bitk hk, Bool.and_eq_true] at hj
      have ne : j ≠ k := by simpa using hj.2
      exact head_stay W F (G.2.2 j hj.1) (G.2.2 k hk) ne (G.2.1 k j hk hj.1)
/-! ### tables of groups -/
def GTab (n : Int) (es : List Edge) (ls : List Int) (gt : List (List Nat)) : Prop := gt.length = 2 ^ n.toNat ∧ ∀ (s : Nat) (gs : List Nat), gt[s]? = some gs → gs.length ≤ 512 ∧ ∀ g, g ∈ gs ↔ Grp1 n es ls s g
/-- a plan: groups one after another -/
def Chain (n : Int) (es : List Edge) (ls : List Int) : Nat → List Nat → Prop
  | s, [] => s = 2 ^ n.toNat - 1
  | s, g :: gs => Grp1 n es ls s g ∧ Chain n es ls (s ||| g) gs
def PlanD (n : Int) (es : List Edge) (ls : List Int) (d : PyData) : Prop := (d = .none ∧ IsL (fun k => Rou n es ls k 0) none) ∨ ∃ gs : List Nat, d = .tuple (gs.map fun g => tI (bitsOf g)) ∧ Chain n es ls 0 gs ∧ IsL (fun k => Rou n es ls k 0) (some gs.length)
def knL (n : Int) (es : List Edge) (ls : List Int) (K : List Nat) : List (List Int × PyData) := K.map fun s => (stB n es ls s, PyData.bool true)
def lotD (n : Int) (es : List Edge) (ls : List Int) (s g : Nat) : PyData := .tuple [lD (stB n es ls (s ||| g)), .list ((bitsOf g).map .int)]
end
end DL
/-! DL: t[::-1], t a tuple. -/
namespace HT
open PySem PySem.Spec PyProof.Rows
section
variable {prog : Program} {w : World} {A : Around} {E : Value → Shared → Prop} {s : Shared}
end
end HT
namespace DL
open PySem PySem.Spec PyProof.Rows L2
section
variable {X : Cx} {e st : Expr} {te ts : TE} {p2 pos : Pos}
def tBack (K : PySem.W.Frag) (te ts : TE) : TE := fun σ H Q => te σ H fun x H1 => ts σ H1 fun y H2 => y = .int (-1) ∧ ∃ a xs, x = .ref a ∧ SqT K H2 a xs ∧ ∀ p, H2 p = none → Q (.ref p) (upd H2 p (.tup xs.reverse))
end
section
variable {X : Cx} {a st : Expr} {pos p2 : Pos} {ta tb : TDE}
/-- t[::-1] -/
def tdBack (ta tb : TDE) : TDE := fun ρ q => ta ρ fun d ρ1 => tb ρ1 fun z ρ2 => match d, z with
  | .tuple ds, .int i => i = -1 ∧ q (.tuple ds.reverse) ρ2
  | _, _ => False
end
end DL
/-! DL: values that claim to be rounds. -/
namespace DL
open PySem PySem.Spec PyProof.Rows L2
inductive VL : PyData → Prop
  | lst (xs : List PyData) : VL (.list xs)
  | tup (ys : List PyData) : ys.length ≤ 30 → (∀ y ∈ ys, VItem y) → VL (.tuple ys)
inductive VR : PyData → Prop
  | non : VR .none
  | int (i : Int) : VR (.int i)
  | dct : VR (.dict [])
  | lst (xs : List PyData) : VR (.list xs)
  | tup (xs : List PyData) : xs.length ≤ 30 → (∀ x ∈ xs, VL x) → VR (.tuple xs)
/-- an ascending tuple of places, as a value -/
def RisV (n : Int) (d : PyData) : Prop := ∃ S : List Int, d = tI S ∧ StOk n S
/-- a value is what is asked for: none where there is none, else so many groups that clear -/
def RdsV (n : Int) (es : List Edge) (ls : List Int) (o : Option Nat) (d : PyData) : Prop := match o with
  | none => d = .none
  | some k => ∃ gs : List Nat, d = .tuple (gs.map fun g => tI (bitsOf g)) ∧ gs.length = k ∧ Chain n es ls 0 gs
/-- what is left of the value from a state on -/
def RestV (n : Int) (es : List Edge) (ls : List Int) (s : Nat) (xs : List PyData) : Prop := ∃ gs : List Nat, xs = gs.map (fun g => tI (bitsOf g)) ∧ Chain n es ls s gs
theorem VL.sh {d : PyData} (h : ∃ ys, d = .tuple ys ∧ ∀ y ∈ ys, VItem y) : True := trivial
section
variable {X : Cx} {b : Expr} {pos : Pos}
/-- xs + .., xs a list of one's own: other names may be lent meanwhile -/
def tdCatP (i : Nat) (tb : TDA) : TDA := fun ρ q => match ρ[i]? with
  | some (.own a ds) => tb ρ fun es ρ2 => ρ2[i]? = some (.own a ds) ∧ ds.length + es.length ≤ sizeLine ∧ q (ds ++ es) ρ2
  | _ => False
end
end DL
/-! DL: ways of a web, counted by the sets of their first places, with signs. -/
namespace DL
open PySem PySem.Spec PyProof.Rows L2
/-! the lowest bit -/
/-! the signs of the sets in a set sum up to one -/
end DL
/-! DL: ways from a state on: those of the orders whose takes are allowed; their number by first places. -/
namespace DL
open PySem PySem.Spec PyProof.Rows L2
/-- which end of an edge an order has first (1: the second end) -/
def dirN : List Nat → Edge → Int
  | [], _ => 0
  | p :: o, e => if p = e.1.toNat then 0 else if p = e.2.toNat then 1 else dirN o e
section
variable (n : Int) (es : List Edge) (F : Nat → Nat → Bool)
/-- an order of what a state leaves, each take allowed -/
def Val : List Nat → Nat → Prop
  | [], s => s = 2 ^ n.toNat - 1
  | p :: o, s => (p < n.toNat ∧ s.testBit p = false ∧ F s p = true) ∧ Val o (s ||| 2 ^ p)
/-- what is allowed rests on the place and its neighbours -/
def FNear : Prop := ∀ (s t p : Nat), (∀ q : Nat, (q = p ∨ adj es p q = true) → s.testBit q = t.testBit q) → F s p = F t p
def inS (s : Nat) (e : Edge) : Bool := !s.testBit e.1.toNat && !s.testBit e.2.toNat
def wvS (s : Nat) (o : List Nat) (e : Edge) : Int := if inS s e = true then dirN o e else 0
def fnW (w : List Int) (e : Edge) : Int := w.getD (es.idxOf e) 0
/-- a place all of whose edges leave it -/
def Src (s : Nat) (f : Edge → Int) (p : Nat) : Prop := ∀ e ∈ es, inS s e = true → (e.1.toNat = p → f e = 0) ∧ (e.2.toNat = p → f e = 1)
noncomputable def waysS (s : Nat) : List (List Int) := (lays es.length).filter fun w => dec (∃ o, Val n F o s ∧ w = es.map (wvS s o))
end
section
variable {n : Int} {es : List Edge} {F : Nat → Nat → Bool}
end
end DL
/-! DL: the number of ways from a state on is a signed sum over the groups that can go first. -/
namespace DL
open PySem PySem.Spec PyProof.Rows L2
def phiS (es : List Edge) (s S : Nat) (w : List Int) : List Int := es.map fun e => if inS s e = true then (if S.testBit e.1.toNat = true then 0 else if S.testBit e.2.toNat = true then 1 else fnW es w e) else 0
section
variable {n : Int} {es : List Edge} {F : Nat → Nat → Bool}
structure CtSt (n : Int) (es : List Edge) (F : Nat → Nat → Bool) (i : Nat) (cur : List Int) : Prop where
  len : cur.length = 2 ^ n.toNat
  eq : ∀ s, i ≤ s → s < 2 ^ n.toNat → cur.getD s 0 = ((waysS n es F s).length : Int)
end
/-- tables of allowed places -/
def FsOk (n : Int) (F : Nat → Nat → Bool) (fs : List Nat) : Prop := fs.length = 2 ^ n.toNat ∧ ∀ (s m : Nat), fs[s]? = some m → m < 2 ^ 9 ∧ ∀ j, m.testBit j = F s j
end DL
/-! DL: ways and layings of whole webs. -/
namespace DL
open PySem PySem.Spec PyProof.Rows L2
def FAll (n : Int) (s p : Nat) : Bool := decide (p < n.toNat) && !s.testBit p
section
variable {n : Int} {es : List Edge}
end
end DL
/-! DL: max with a default; the longest way along edges. -/
namespace DL
open PySem PySem.Spec PyProof.Rows L2
section
variable {X : Cx} {a : Expr} {pos : Pos} {ta tx : TDE}
def rMaxDef (K : PySem.W.Frag) (u : Nat) : List V → List V → Hp → VK → Prop := fun vs zs H Q => ∃ (a : Addr) (xs : List V) (ds : List PyData) (z : V), vs = [V.ref a] ∧ zs = [z] ∧ SqL K H a xs ∧ L2.DpAll K H xs ds ∧ PySem.W.AlikeAll ds ∧ u + 1 + PyData.depthAll ds < cLine ∧ (ds = [] → Q z H) ∧
  ∀ (y : PyData) (ys : List PyData) (j : Nat) (x : V), ds = y :: ys → xs[j]? = some x → ds[j]? = some (PySem.W.maxD y ys) → Q x H
end
/-! ### greatest numbers with a property -/
def MxP (P : Nat → Prop) (m : Nat) : Prop := P m ∧ ∀ j, P j → j ≤ m
open Classical in
noncomputable def mxN (P : Nat → Prop) : Nat := if h : ∃ m, MxP P m then h.choose else 0
theorem MxP.uniq {P : Nat → Prop} {m k : Nat} (h : MxP P m) (h' : MxP P k) : m = k := by
  have a := h.2 _ h'.1
  have b := h'.2 _ h.1
  omega
/-! ### ways along directed edges -/
def Lp (Z : List (Edge × Int)) : Nat → Int → Prop
  | 0, _ => True
  | m + 1, p => ∃ z ∈ Z, firP z = p ∧ Lp Z m (laterP z)
noncomputable def mxL (Z : List (Edge × Int)) (p : Int) : Nat := mxN fun m => Lp Z m p
end DL
/-! DL: the rounds of a forest are one more than the edges of its longest way. -/
namespace DL
open PySem PySem.Spec PyProof.Rows L2
def Pth (Z : List (Edge × Int)) : Nat → Int → Int → Prop
  | 0, x, y => x = y
  | m + 1, x, y => ∃ z ∈ Z, firP z = x ∧ Pth Z m (laterP z) y
/-- some way has so many edges -/
def PathLen (n : Int) (Z : List (Edge × Int)) (m : Nat) : Prop := ∃ x y, (0 ≤ x ∧ x < n) ∧ Pth Z m x y
section
variable {n : Int} {es : List Edge} {ls : List Int} {Z : List (Edge × Int)}
def RngZ (n : Int) (Z : List (Edge × Int)) : Prop := ∀ z ∈ Z, (0 ≤ firP z ∧ firP z < n) ∧ 0 ≤ laterP z ∧ laterP z < n
/-- how many edges the longest way to a place has -/
noncomputable def depZ (Z : List (Edge × Int)) (p : Int) : Nat := mxN fun m => ∃ x, Pth Z m x p
/-! the takes of rounds, one by one -/
/-! all places of one rank at once -/
end
end DL
/-! DL: longest ways by relaxation. -/
namespace DL
open PySem PySem.Spec PyProof.Rows L2
section
variable {n : Int} {Z : List (Edge × Int)}
/-- lengths of ways that are known so far, t rounds done, the edges of Y done again -/
structure Rlx (n : Int) (Z : List (Edge × Int)) (t : Nat) (Y : List (Edge × Int)) (d : Nat → Nat) : Prop where
  up : ∀ v : Nat, (v : Int) < n → ∃ x, Pth Z (d v) x v
  lo : ∀ v : Nat, (v : Int) < n → ∀ m x, m ≤ t → Pth Z m x v → m ≤ d v
  ed : ∀ z ∈ Y, ∀ m x, m ≤ t → Pth Z m x (firP z) → m + 1 ≤ d (laterP z).toNat
end
end DL
/-! DL: who must stand ahead of whom in the orders that keep a way. -/
namespace DL
open PySem PySem.Spec PyProof.Rows L2
variable {n : Int} {Z : List (Edge × Int)}
def BarR (rl : Int → Int → Bool) (b : Nat) (x y : Int) : Prop := rl x y = true ∧ b.testBit y.toNat = false
def stepW (Z : List (Edge × Int)) (x y : Int) : Prop := ∃ z ∈ Z, firP z = x ∧ laterP z = y
abbrev PathW (Z : List (Edge × Int)) : Int → Int → Prop := Rch (stepW Z)
noncomputable def rlW (Z : List (Edge × Int)) (x y : Int) : Bool := dec (stepW Z x y)
theorem keep_path {l : List Int} (K : KeepW n Z l) (hZ : ∀ z ∈ Z, (0 ≤ firP z ∧ firP z < n) ∧ 0 ≤ laterP z ∧ laterP z < n) {x y : Int} (h : PathW Z x y) : x = y ∨ l.idxOf x < l.idxOf y := by
  induction h with
  | refl => exact .inl rfl
  | @step v w _ r ih =>
    obtain ⟨z, hz, e1, e2⟩ := r
    have b := K.2 z hz
    rw [bef_idx K.1 (hZ z hz).1 (hZ z hz).2, e1, e2] at b
    rcases ih with rfl | ih
    · exact .inr b
    · exact .inr (by omega)
/-- what is closed backwards may go first -/
theorem split_keep {l : List Int} (K : KeepW n Z l) (hZ : ∀ z ∈ Z, (0 ≤ firP z ∧ firP z < n) ∧ 0 ≤ laterP z ∧ laterP z < n) (A : Int → Prop) (hA : ∀ z ∈ Z, A (laterP z) → A (firP z)) : KeepW n Z (splitA A l) := by
  have pm := split_perm A l
  have O : OrdOk n (splitA A l) := ⟨pm.nodup_iff.mpr K.1.nd, by rw [pm.length_eq]; exact K.1.len, fun k hk => K.1.rng k (pm.mem_iff.mp hk)⟩
  refine ⟨O, fun z hz => ?_⟩
  have r := hZ z hz
  have b := K.2 z hz
  have mf := K.1.all r.1.1 r.1.2
  have ml := K.1.all r.2.1 r.2.2
  unfold bef at b ⊢
  rw [bef_sub K.1.nd ml] at b
  rw [bef_sub O.nd (O.all r.2.1 r.2.2)]
  by_cases h1 : A (firP z)
  · by_cases h2 : A (laterP z)
    · exact (split_sub ⟨fun _ => h2, fun _ => h1⟩).mpr b
    · exact (split_first mf ml h1 h2).1
  · have h2 : ¬ A (laterP z) := fun h => h1 (hA z hz h)
    exact (split_sub ⟨fun h => absurd h h1, fun h => absurd h h2⟩).mpr b
theorem split_idx {l : List Int} (O : OrdOk n l) (A : Int → Prop) {x y : Int} (hx : 0 ≤ x ∧ x < n) (hy : 0 ≤ y ∧ y < n) (ax : A x) (ay : ¬ A y) : (splitA A l).idxOf x < (splitA A l).idxOf y := by
  have pm := split_perm A l
  have O' : OrdOk n (splitA A l) := ⟨pm.nodup_iff.mpr O.nd, by rw [pm.length_eq]; exact O.len, fun k hk => O.rng k (pm.mem_iff.mp hk)⟩
  have := (split_first (O.all hx.1 hx.2) (O.all hy.1 hy.2) ax ay).1
  rw [← bef_sub O'.nd (O'.all hy.1 hy.2)] at this
  exact (bef_idx O' hx hy).mp this
noncomputable def ancN (n : Int) (Z : List (Edge × Int)) (p : Int) : Nat := ((plc n).filter fun x => dec (PathW Z x p)).length
noncomputable def desN (n : Int) (Z : List (Edge × Int)) (p : Int) : Nat := ((plc n).filter fun x => dec (PathW Z p x)).length
/-- places counted by where they stand -/
theorem idx_count {l : List Int} (O : OrdOk n l) {p : Int} (hp : 0 ≤ p ∧ p < n) : ((plc n).filter fun x => decide (l.idxOf x < l.idxOf p)).length = l.idxOf p := by
  have hi := List.idxOf_lt_length_of_mem (O.all hp.1 hp.2)
  have pm : (((plc n).filter fun x => decide (l.idxOf x < l.idxOf p))).Perm (l.take (l.idxOf p)) := by
    refine (List.perm_ext_iff_of_nodup ((plc_nd n).filter _) (O.nd.sublist (List.take_sublist _ _))).mpr fun x => ?_
    rw [List.mem_filter, mem_plc, decide_eq_true_iff]
    constructor
    · rintro ⟨hx, h⟩; exact (bef_idx O hx hp).mpr h
    · intro h
      have hx := O.rng x (List.mem_of_mem_take h)
      exact ⟨hx, (bef_idx O hx hp).mp h⟩
  rw [pm.length_eq, List.length_take]
  omega
theorem filt_le {P Q : Int → Bool} : ∀ {L : List Int}, (∀ x ∈ L, P x = true → Q x = true) → (L.filter P).length ≤ (L.filter Q).length
  | [], _ => Nat.le_refl _
  | x :: L, h => by
    have ih := filt_le (P := P) (Q := Q) (L := L) fun y hy => h y (List.mem_cons_of_mem _ hy)
    have hx := h x List.mem_cons_self
    rw [List.filter_cons, List.filter_cons]
    by_cases a : P x = true
    · rw [if_pos a, if_pos (hx a), List.length_cons, List.length_cons]; omega
    · rw [if_neg a]
      split
      · rw [List.length_cons]; omega
      · exact ih
theorem filt_one {P : Int → Bool} {p : Int} : ∀ {L : List Int}, L.Nodup → p ∈ L → P p = true → (L.filter P).length = (L.filter fun x => P x && decide (x ≠ p)).length + 1
  | [], _, h, _ => nomatch h
  | x :: L, nd, h, hp => by
    obtain ⟨n1, n2⟩ := List.nodup_cons.mp nd
    rw [List.filter_cons, List.filter_cons]
    by_cases q : x = p
    · subst q
      have : (L.filter fun y => P y && decide (y ≠ x)) = L.filter P := by
        apply List.filter_congr
        intro y hy
        have : y ≠ x := fun z => n1 (by rw [← z]; exact hy)
        rw [decide_eq_true this, Bool.and_true]
      rw [if_pos hp, this, decide_eq_false (fun z => z rfl), Bool.and_false, if_neg Bool.false_ne_true, List.length_cons]
    · have hL : p ∈ L := by
        rcases List.mem_cons.mp h with h | h
        · exact absurd h.symm q
        · exact h
      have ih := filt_one (P := P) n2 hL hp
      rw [decide_eq_true (show x ≠ p from q), Bool.and_true]
      split
      · rw [List.length_cons, List.length_cons, ih]
      · exact ih
theorem early {Kl : List (List Int)} (hZ : ∀ z ∈ Z, (0 ≤ firP z ∧ firP z < n) ∧ 0 ≤ laterP z ∧ laterP z < n) (hK : ∀ l, l ∈ Kl ↔ KeepW n Z l) {l0 : List Int} (h0 : KeepW n Z l0) {p : Int} (hp : 0 ≤ p ∧ p < n) :
    (∀ l ∈ Kl, ancN n Z p ≤ l.idxOf p + 1) ∧ ∃ l ∈ Kl, l.idxOf p + 1 = ancN n Z p := by
  have e1 := filt_one (P := fun x => dec (PathW Z x p)) (plc_nd n) (mem_plc.mpr hp) (dec_iff.mpr (.refl _))
  have low : ∀ l ∈ Kl, ancN n Z p ≤ l.idxOf p + 1 := fun l hl => by
    have K := (hK l).mp hl
    unfold ancN
    rw [e1, ← idx_count K.1 hp]
    refine Nat.succ_le_succ (filt_le fun x hx h => ?_)
    rw [Bool.and_eq_true, dec_iff, decide_eq_true_iff] at h
    rcases keep_path K hZ h.1 with q | q
    · exact absurd q h.2
    · exact decide_eq_true q
  refine ⟨low, ?_⟩
  have K1 := split_keep h0 hZ (fun x => PathW Z x p) fun z hz h => Rch.trans (.step (.refl _) ⟨z, hz, rfl, rfl⟩) h
  refine ⟨_, (hK _).mpr K1, ?_⟩
  have a := low _ ((hK _).mpr K1)
  have b : (splitA (fun x => PathW Z x p) l0).idxOf p + 1 ≤ ancN n Z p := by
    unfold ancN
    rw [e1]
    refine Nat.succ_le_succ ?_
    conv => lhs; rw [← idx_count K1.1 hp]
    refine filt_le fun x hx h => ?_
    have hx' := mem_plc.mp hx
    have h := of_decide_eq_true h
    rw [Bool.and_eq_true, dec_iff, decide_eq_true_iff]
    refine ⟨Classical.byContradiction fun q => ?_, fun z => by rw [z] at h; omega⟩
    have := split_idx h0.1 (fun x => PathW Z x p) hp hx' (.refl _) q
    omega
  omega
theorem late {Kl : List (List Int)} (hZ : ∀ z ∈ Z, (0 ≤ firP z ∧ firP z < n) ∧ 0 ≤ laterP z ∧ laterP z < n) (hK : ∀ l, l ∈ Kl ↔ KeepW n Z l) {l0 : List Int} (h0 : KeepW n Z l0) {p : Int} (hp : 0 ≤ p ∧ p < n) :
    (∀ l ∈ Kl, l.idxOf p + desN n Z p ≤ n.toNat) ∧ ∃ l ∈ Kl, l.idxOf p + desN n Z p = n.toNat := by
  have both : ∀ P : Int → Bool, n.toNat = ((plc n).filter P).length + ((plc n).filter fun x => !P x).length := fun P => by
    have := filt_both P (plc n)
    rw [plc_len] at this
    exact this
  have eb := both fun x => dec (PathW Z p x)
  have up : ∀ l ∈ Kl, l.idxOf p + desN n Z p ≤ n.toNat := fun l hl => by
    have K := (hK l).mp hl
    unfold desN
    have : l.idxOf p ≤ ((plc n).filter fun x => !dec (PathW Z p x)).length := by
      conv => lhs; rw [← idx_count K.1 hp]
      refine filt_le fun x hx h => ?_
      have h := of_decide_eq_true h
      rw [dec_not (fun q => ?_)]; rfl
      rcases keep_path K hZ q with z | z
      · rw [z] at h; omega
      · omega
    omega
  refine ⟨up, ?_⟩
  have K1 := split_keep h0 hZ (fun x => ¬ PathW Z p x) fun z hz h q => h (.step q ⟨z, hz, rfl, rfl⟩)
  refine ⟨_, (hK _).mpr K1, ?_⟩
  have a := up _ ((hK _).mpr K1)
  have b : ((plc n).filter fun x => !dec (PathW Z p x)).length ≤ (splitA (fun x => ¬ PathW Z p x) l0).idxOf p := by
    conv => rhs; rw [← idx_count K1.1 hp]
    refine filt_le fun x hx h => ?_
    have hx' := mem_plc.mp hx
    rw [Bool.not_eq_true'] at h
    have hn : ¬ PathW Z p x := fun q => by rw [dec_iff.mpr q] at h; cases h
    exact decide_eq_true (split_idx h0.1 (fun x => ¬ PathW Z p x) hx' hp hn (fun q => q (.refl _)))
  unfold desN at a ⊢
  omega
end DL
/-! DL: longest ways by steps; ways without a ring have an order; who stands behind, by closure. -/
namespace DL
open PySem PySem.Spec PyProof.Rows L2
section
variable {n : Int} {Z : List (Edge × Int)}
/-- the longest way to a place with at most t edges, step by step -/
def gDep (Z : List (Edge × Int)) : Nat → Int → Nat
  | 0, _ => 0
  | t + 1, k => ((Z.filter fun z => decide (laterP z = k)).map fun z => gDep Z t (firP z) + 1).foldl max 0
/-- all ways are shorter than N -/
def Bnd (n : Int) (Z : List (Edge × Int)) (N : Nat) : Prop := ∀ m x y, (0 ≤ x ∧ x < n) → Pth Z m x y → m < N
/-! who stands behind -/
/-- lists that hold what stands ahead: at least by few edges, nothing else -/
structure Bef (n : Int) (Z : List (Edge × Int)) (t : Nat) (B : Nat → List Int) : Prop where
  up : ∀ k : Nat, (k : Int) < n → ∀ x ∈ B k, (0 ≤ x ∧ x < n) ∧ ∃ m, Pth Z (m + 1) x k
  lo : ∀ k : Nat, (k : Int) < n → ∀ m x, m ≤ t → Pth Z (m + 1) x k → x ∈ B k
end
end DL
/-! DL: math.comb; how many ways two rows mix. -/
namespace DL
open PySem PySem.Spec PyProof.Rows L2
/-- in how many ways a row of a things and a row of b things mix -/
def mixN : Nat → Nat → Nat
  | 0, _ => 1
  | _ + 1, 0 => 1
  | a + 1, b + 1 => mixN a (b + 1) + mixN (a + 1) b
def facN : Nat → Nat
  | 0 => 1
  | n + 1 => (n + 1) * facN n
/-- math.comb -/
def combN (n k : Nat) : Nat := if k ≤ n then mixN k (n - k) else 0
def rComb : List V → Hp → VK → Prop := fun vs H Q => ∃ a b : Nat, vs = [.int a, .int b] ∧ a ≤ 18000 ∧ Q (.int ((combN a b : Nat) : Int)) H
section
variable {X : Cx} {a b : Expr} {pos : Pos}
end
end DL
/-! DL: two rows mixed; where a member of the one stands. -/
namespace DL
open PySem PySem.Spec PyProof.Rows L2
def mixL : List Int → List Int → List (List Int)
  | [], b => [b]
  | a, [] => [a]
  | x :: a, y :: b => (mixL a (y :: b)).map (x :: ·) ++ (mixL (x :: a) b).map (y :: ·)
/-- how many of some rows have v at the place t -/
def tmN (L : List (List Int)) (v : Int) (t : Nat) : Nat := (L.filter fun o => decide (o.idxOf v = t)).length
end DL
/-! DL: orders of two sets of places with one edge between them, counted by the time of a place. -/
namespace DL
open PySem PySem.Spec PyProof.Rows L2
/-- in how many mixes of a row of a with one of b the member t of the first stands at the place t + s -/
def spN (a b t s : Nat) : Nat := mixN t s * mixN (a - 1 - t) (b - s)
def atN (a b t p : Nat) : Nat := if t ≤ p ∧ p - t ≤ b then spN a b t (p - t) else 0
theorem sum_by {α : Type} (k : α → Nat) (f : Nat → Nat) (m : Nat) : ∀ L : List α, (∀ o ∈ L, k o < m) → (L.map fun o => f (k o)).sum = ((List.range m).map fun t => (L.filter fun o => decide (k o = t)).length * f t).sum
  | [], _ => by
    exact (sum_zero (fun t => (([] : List α).filter fun o => decide (k o = t)).length * f t) (List.range m) fun t _ => Nat.zero_mul _).symm
  | o :: L, h => by
    have ih := sum_by k f m L fun o ho => h o (.tail _ ho)
    have h1 : ∀ t, ((o :: L).filter fun o => decide (k o = t)).length * f t = (if t = k o then f (k o) else 0) + (L.filter fun o => decide (k o = t)).length * f t := fun t => by
      by_cases q : k o = t
      · rw [List.filter_cons_of_pos (by rw [q]; simp), List.length_cons, if_pos q.symm, Nat.succ_mul, q, Nat.add_comm]
      · rw [List.filter_cons_of_neg (by rw [decide_eq_true_eq]; exact q), if_neg (fun z => q z.symm), Nat.zero_add]
    rw [sum_congr _ _ _ fun t _ => h1 t, sum_add, ← ih, sum_one m (h o (.head _))]
    rfl
/-- an order keeps what must stand ahead -/
def Kp (K : Int → Int → Prop) (o : List Int) : Prop := ∀ x y, K x y → x ∈ o → y ∈ o → o.idxOf x < o.idxOf y
structure Ords (K : Int → Int → Prop) (S : List Int) (L : List (List Int)) : Prop where
  nd : L.Nodup
  mem : ∀ o, o ∈ L ↔ o.Perm S ∧ Kp K o
theorem Ords.perm {K : Int → Int → Prop} {S S' : List Int} {L : List (List Int)} (O : Ords K S L) (h : S.Perm S') : Ords K S' L :=
  ⟨O.nd, fun o => by
    rw [O.mem]
    exact and_congr_left fun _ => ⟨fun z => z.trans h, fun z => z.trans h.symm⟩⟩
theorem Ords.uniq {K : Int → Int → Prop} {S : List Int} {L M : List (List Int)} (A : Ords K S L) (B : Ords K S M) : L.Perm M :=
  (List.perm_ext_iff_of_nodup A.nd B.nd).mpr fun o => by rw [A.mem, B.mem]
/-- the orders of two sets, by a test of the mixes -/
def mrgL (f : List Int → Bool) (LA LB : List (List Int)) : List (List Int) := LA.flatMap fun a => LB.flatMap fun b => (mixL a b).filter f
end DL
/-! DL: times of a place in the orders of a branch, branch by branch. -/
namespace DL
open PySem PySem.Spec PyProof.Rows L2
def fitN (b : List Nat) (ah : Bool) (s : Nat) : Nat := if ah = true then (b.drop s).sum else (b.take s).sum
def mrgAt (c b : List Nat) (ah : Bool) (p : Nat) : Nat := ((List.range c.length).map fun t => if t ≤ p ∧ p - t ≤ b.length then c.getD t 0 * fitN b ah (p - t) * spN c.length b.length t (p - t) else 0).sum
def mrgC (c b : List Nat) (ah : Bool) : List Nat := (List.range (c.length + b.length)).map (mrgAt c b ah)
/-- the numbers of orders of some places in which v has the times 0, 1, .. -/
def TmOf (K : Int → Int → Prop) (S : List Int) (v : Int) (c : List Nat) : Prop := ∃ L, Ords K S L ∧ c = (List.range S.length).map (tmN L v)
theorem TmOf.perm {K : Int → Int → Prop} {S S' : List Int} {v : Int} {c : List Nat} (h : TmOf K S v c) (p : S.Perm S') : TmOf K S' v c := by
  obtain ⟨L, O, e⟩ := h
  exact ⟨L, O.perm p, by rw [e, p.length_eq]⟩
theorem TmOf.len {K : Int → Int → Prop} {S : List Int} {v : Int} {c : List Nat} (h : TmOf K S v c) : c.length = S.length := by
  obtain ⟨L, O, e⟩ := h
  rw [e, List.length_map, List.length_range]
theorem ord_idx {K : Int → Int → Prop} {S : List Int} {L : List (List Int)} (O : Ords K S L) {v : Int} (hv : v ∈ S) {o : List Int} (ho : o ∈ L) : v ∈ o ∧ o.length = S.length ∧ o.idxOf v < S.length := by
  have hp := ((O.mem o).mp ho).1
  have hm := hp.mem_iff.mpr hv
  have := List.idxOf_lt_length_of_mem hm
  exact ⟨hm, hp.length_eq, by have := hp.length_eq; omega⟩
theorem TmOf.sum {K : Int → Int → Prop} {S : List Int} {v : Int} {c : List Nat} {L : List (List Int)} (h : TmOf K S v c) (hv : v ∈ S) (O : Ords K S L) : c.sum = L.length := by
  obtain ⟨M, OM, e⟩ := h
  have h1 := sum_by (fun o : List Int => o.idxOf v) (fun _ => 1) S.length M fun o ho => (ord_idx OM hv ho).2.2
  rw [(O.uniq OM).length_eq, e]
  have h2 : ((List.range S.length).map (tmN M v)).sum = ((List.range S.length).map fun t => (M.filter fun o => decide (o.idxOf v = t)).length * 1).sum := by
    congr 1
    exact List.map_congr_left fun t _ => (Nat.mul_one _).symm
  rw [h2, ← h1, sum_const, Nat.one_mul]
end DL
/-! DL: branches of a web without rings. -/
namespace DL
open PySem PySem.Spec PyProof.Rows L2
/-- what is reached from v without r -/
def Br (es : List Edge) (r v : Int) : Int → Prop := Rch (fun a b => adj es a b = true ∧ b ≠ r) v
section
variable {n : Int} {es : List Edge}
/-- a direction of each edge -/
structure Dir (es : List Edge) (K : Int → Int → Prop) : Prop where
  ad : ∀ {x y}, K x y → adj es x y = true
  one : ∀ {x y}, adj es x y = true → K x y ∨ K y x
  no : ∀ {x y}, K x y → ¬ K y x
end
end DL
/-! DL: the counts of a place with one branch more, number by number. -/
namespace DL
open PySem PySem.Spec PyProof.Rows L2
def wgt (c b : List Nat) (ah : Bool) (t s : Nat) : Nat := c.getD t 0 * fitN b ah s * spN c.length b.length t s
def trm (c b : List Nat) (ah : Bool) (p t : Nat) : Nat := if t ≤ p ∧ p - t ≤ b.length then wgt c b ah t (p - t) else 0
def accM (c b : List Nat) (ah : Bool) (t s p : Nat) : Nat := ((List.range t).map (trm c b ah p)).sum + if t ≤ p ∧ p - t < s then wgt c b ah t (p - t) else 0
def accL (c b : List Nat) (ah : Bool) (t s : Nat) : List PyData := (List.range (c.length + b.length)).map fun p => .int ((accM c b ah t s p : Nat) : Int)
/-- who must stand ahead of whom -/
def KeyZ (Z : List (Edge × Int)) (x y : Int) : Prop := ∃ z ∈ Z, firP z = x ∧ laterP z = y
/-! ### few orders -/
def allS (S : List Int) : Nat → List (List Int)
  | 0 => [[]]
  | m + 1 => (allS S m).flatMap fun o => S.map (· :: o)
theorem allS_len (S : List Int) : ∀ m, (allS S m).length = S.length ^ m
  | 0 => rfl
  | m + 1 => by
    have ih := allS_len S m
    show ((allS S m).flatMap fun o => S.map (· :: o)).length = _
    rw [List.length_flatMap, sum_congr _ (fun _ => S.length) _ fun o _ => List.length_map _, sum_const, ih, Nat.pow_succ, Nat.mul_comm]
theorem allS_mem {S : List Int} : ∀ {m : Nat} {o : List Int}, o.length = m → (∀ x ∈ o, x ∈ S) → o ∈ allS S m
  | 0, o, h, _ => by rw [List.length_eq_zero_iff.mp h]; exact .head _
  | m + 1, o, h, hx => by
    cases o with
    | nil => cases h
    | cons x o =>
      refine List.mem_flatMap.mpr ⟨o, allS_mem (by rw [List.length_cons] at h; omega) fun y hy => hx y (.tail _ hy), List.mem_map.mpr ⟨x, hx x (.head _), rfl⟩⟩
theorem ordsK_few {K : Int → Int → Prop} {S : List Int} {L : List (List Int)} (O : Ords K S L) (h : S.length ≤ 9) : L.length ≤ 387420489 := by
  have h1 := List.Nodup.length_le_of_subset O.nd (l₂ := allS S S.length) fun o ho => allS_mem ((O.mem o).mp ho).1.length_eq fun x hx => ((O.mem o).mp ho).1.mem_iff.mp hx
  rw [allS_len] at h1
  have h2 : S.length ^ S.length ≤ 9 ^ 9 := Nat.le_trans (Nat.pow_le_pow_left h _) (Nat.pow_le_pow_right (by decide) h)
  exact Nat.le_trans h1 h2
theorem TmOf.few {K : Int → Int → Prop} {S : List Int} {v : Int} {c : List Nat} (T : TmOf K S v c) (h : S.length ≤ 9) (t : Nat) : c.getD t 0 ≤ 387420489 := by
  obtain ⟨L, O, rfl⟩ := T
  rw [List.getD_eq_getElem?_getD, List.getElem?_map]
  cases (List.range S.length)[t]? with
  | none => exact Nat.zero_le _
  | some x => exact Nat.le_trans (List.length_filter_le _ _) (ordsK_few O h)
end DL
/-! DL: orders of a web without rings, part by part. -/
namespace DL
open PySem PySem.Spec PyProof.Rows L2
section
variable {n : Int} {es : List Edge} {ls : List Int}
end
end DL
/-! DL: a part of a web with its places named anew. -/
namespace DL
open PySem PySem.Spec PyProof.Rows L2
def fB (B : List Int) (x : Int) : Int := (B.idxOf x : Nat)
def gB (B : List Int) (i : Int) : Int := B.getD i.toNat 0
def subE (B : List Int) (es : List Edge) : List Edge := (es.filter fun e => decide (e.1 ∈ B)).map fun e => (fB B e.1, fB B e.2)
section
variable {B : List Int} (hB : B.Pairwise (· < ·))
include hB
variable {n : Int} {es : List Edge}
end
end DL
/-! DL: the order behind an order. -/
namespace DL
open PySem PySem.Spec PyProof.Rows L2
end DL
/-! DL: max(d.values()), for v in d.values(), math.factorial. -/
namespace DL
open PySem PySem.Spec PyProof.Rows L2
/-- max(d.values()), d a dict that nobody changes any more, its values ints, one at least -/
def tMaxVals (td : TE) : TE := fun σ H Q => td σ H fun x H1 => ∃ a o kvs is, x = V.ref a ∧ H1 a = some (.frz o (.dK kvs)) ∧ kvs.map (·.2) = is.map V.int ∧ is ≠ [] ∧ ∀ m, m ∈ is → (∀ j ∈ is, j ≤ m) → Q (.int m) H1
section
variable {X : Cx} {o a : Expr} {p pos apos mpos : Pos} {td : TE} {ta : TDE}
theorem pe_maxVals (hc : X.calm = true) (hg : Gl X "max") (hm : X.mg "max" = none) (hd : PE X o td) (hbase : attributeBase o "values" X.env (eval o X.env) = eval o X.env := by rfl) (hline : (apos.endLine == mpos.line) = true := by rfl)
    (hse : starEach [Expr.Call (.Attribute o "values" apos) [] [] mpos] X.env = [(false, eval (Expr.Call (.Attribute o "values" apos) [] [] mpos) X.env)] := by rfl) :
    PE X (.Call (.Name "max" p) [.Call (.Attribute o "values" apos) [] [] mpos] [] pos) (tMaxVals td) := by
  refine ⟨fun pins s σ H Q I h => ?_⟩
  refine wpAny_Call_Name_kw (ld_blt I hg hm (u := .builtin "max") (by first | rfl | decide +kernel) ?_ (by first | decide +kernel | decide) (by first | decide +kernel | decide))
  rw [hse]
  refine PySem.callWith_builtin1 (wpAny_Call_method0_late hbase hline (thn (hd.run pins s σ H _ I h) fun v s1 ⟨x, H1, I1, r1, a, o', kvs, is, ex, ha, hv, hne, q⟩ => ?_))
  subst ex
  obtain rfl : v = Value.ref a := r1
  obtain ⟨hsys, hgd, hx, es, ep, vs, hdt, hsz0, rel, dat⟩ := I1.frzK ha
  have dat' := dat
  obtain ⟨ob, es', ho, ex, hdat, hko, hpr, hnd⟩ := dat'
  refine ⟨"dict", "dict.values", PySem.F.plainAttrs_dict, PySem.F.slot_dict_values, PySem.F.type_dict_values, ⟨ob, ho, ex.1⟩, fun b e => ?_, Calls.callWith_builtin rfl (PySem.evalArgs_none ?_)⟩
  · cases e
    exact ⟨ob, ho, ex.2.1⟩
  refine call_meetsIn PySem.F.slot_dict_values ⟨ob, ho, ex.1⟩ PySem.F.entry_dict_values (PySem.F.args_dict_values_1 _) (meets_dict_values (mixKind X.prog X.w) a hsys) ⟨⟨vs, dat.dictOf⟩, ?_⟩
  have k1 : ∀ b u, s1.heap.get? b = some u → (s1.heap.push { cls := .type "dict_values", data := .fields #[.ref a] }).get? b = some u := fun b u e => Heap.get?_push_of_some _ e
  have dat1 : (s1.heap.push { cls := .type "dict_values", data := .fields #[.ref a] }).DictAt (mixKind X.prog X.w) a vs ep := dat.keep k1
  have hlv : vs.length = is.length := by
    have e1 := congrArg List.length hv
    rw [List.length_map, List.length_map] at e1
    rw [← e1]
    exact (KV.length rel).symm
  have hlen : 0 < vs.length := by
    rw [hlv]
    exact List.length_pos_iff.mpr hne
  have hval : ∀ (i : Nat) (v : Value), (∃ k, vs[i]? = some (k, v)) → ∃ t, v = Value.int (is.getD i 0) t := fun i v ⟨k, hk⟩ => by
    obtain ⟨x, h1, h2⟩ := KV.at' rel hk
    have e1 : (kvs.map (·.2))[i]? = some x := by rw [List.getElem?_map, h1] <;> rfl
    rw [hv, List.getElem?_map] at e1
    obtain ⟨j, hj, e2⟩ := Option.map_eq_some_iff.mp e1
    subst e2
    obtain ⟨t, e3⟩ := h2
    refine ⟨t, ?_⟩
    rw [e3, List.getD_eq_getElem?_getD, hj] <;> rfl
  refine call_max_walk (wpAny_pyIter_values (v := s1.heap.objs.size) (d := a) ⟨_, Heap.get?_push_size _ rfl, rfl, rfl⟩ dat1 ?_)
  have hlt : a < s1.heap.objs.size := Heap.lt_size ho
  have hsz : (s1.heap.push { cls := .type "dict_values", data := .fields #[.ref a] }).objs.size = s1.heap.objs.size + 1 := Heap.size_push _ _
  refine ⟨_, _, _, _, _, _, _, rfl, Walks.dictValues (knd := mixKind X.prog X.w) (A := X.A.in1) (I.ok.hd hc) (s1.heap.push { cls := .type "dict_values", data := .fields #[.ref a] }).objs.size a (by rw [hsz]; exact Nat.ne_of_lt (Nat.lt_succ_of_lt hlt)) vs ep,
    ⟨⟨_, Heap.get?_push_size _ rfl, rfl, rfl⟩, dat1.keep fun b u e => Heap.get?_push_of_some _ e⟩, fun b hb => ?_, hlen, CmpOf.ints_gt (fun i => is.getD i 0) hval, fun v h' tk hP hk => ?_⟩
  · show b < ((s1.heap.push _).push _).objs.size
    rw [Heap.size_push, Heap.size_push]
    rw [hsz] at hb
    rcases List.mem_cons.mp hb with e | hb
    · rw [e]
      exact Nat.lt_succ_self _
    · have e : b = a := List.mem_singleton.mp hb
      rw [e]
      exact Nat.lt_succ_of_lt (Nat.lt_succ_of_lt hlt)
  · obtain ⟨t, rfl⟩ := hval _ v hP
    obtain ⟨b1, b2⟩ := argBest_gt (fun i => is.getD i 0) (vs.length - 1)
    refine ⟨.int _, H1, I1.kept (t' := tk) fun b u e => hk b u (fun hmem => ?_) (Heap.get?_push_of_some _ (k1 b u e)), ⟨t, rfl⟩, q _ ?_ fun j hj => ?_⟩
    · have e1 : b = (s1.heap.push { cls := .type "dict_values", data := .fields #[.ref a] }).objs.size := List.mem_singleton.mp hmem
      have e2 := Heap.lt_size e
      rw [hsz] at e1
      rw [e1] at e2
      exact absurd e2 (Nat.not_lt.mpr (Nat.le_succ _))
    · have hb : argBest (fun i j => decide (is.getD i 0 > is.getD j 0)) (vs.length - 1) < is.length := by omega
      rw [List.getD_eq_getElem?_getD, List.getElem?_eq_getElem hb]
      exact List.getElem_mem hb
    · obtain ⟨i, hi, e⟩ := List.mem_iff_getElem.mp hj
      have e2 : is.getD i 0 = j := by rw [List.getD_eq_getElem?_getD, List.getElem?_eq_getElem hi, ← e] <;> rfl
      rw [← e2]
      exact b2 i (by omega)
theorem de_maxVals (hc : X.calm = true) (hg : Gl X "max") (hm : X.mg "max" = none) (ha : DE X o ta) (hbase : attributeBase o "values" X.env (eval o X.env) = eval o X.env := by rfl) (hline : (apos.endLine == mpos.line) = true := by rfl)
    (hse : starEach [Expr.Call (.Attribute o "values" apos) [] [] mpos] X.env = [(false, eval (Expr.Call (.Attribute o "values" apos) [] [] mpos) X.env)] := by rfl) :
    DE X (.Call (.Name "max" p) [.Call (.Attribute o "values" apos) [] [] mpos] [] pos) (fun ρ q => ta ρ fun d ρ1 => ∃ (ks : List (Int × PyData)) (is : List Int), d = dK ks ∧ ks.map (·.2) = is.map PyData.int ∧ is ≠ [] ∧ ∀ m, m ∈ is → (∀ j ∈ is, j ≤ m) → q (.int m) ρ1) := by
  obtain ⟨te, hp, hq⟩ := ha.ex
  refine ⟨_, pe_maxVals hc hg hm hp hbase hline hse, fun C σ H ρ q Q E h k => hq C σ H ρ _ _ E h fun v H1 d ρ1 E1 s1 D1 h1 => ?_⟩
  obtain ⟨ks, is, rfl, e1, ne, h1⟩ := h1
  obtain ⟨a, o, kvV, rfl, g1, g2, g3⟩ := Dp.dK_of D1
  rw [e1] at g3
  exact ⟨a, o, kvV, is, rfl, (hide_some g1).2, DpAll.ints g3, ne, fun m m1 m2 => k _ H1 _ ρ1 E1 s1 (.int _) (h1 m m1 m2)⟩
/-- math.factorial -/
def rFact : List V → Hp → VK → Prop := fun vs H Q => ∃ a : Nat, vs = [.int a] ∧ a ≤ 20000 ∧ Q (.int ((facN a : Nat) : Int)) H
/-- for v in d.values(), the keys ints -/
def tiVals (t : TDE) : TDA := fun ρ q => t ρ fun d ρ1 => ∃ ks : List (Int × PyData), d = dK ks ∧ q (ks.map (·.2)) ρ1
end
end DL
/-! DN: all trees of few places; the most orders a laying has. -/
namespace DL
open PySem PySem.Spec PyProof.Rows L2
/-- the pairs of places, as they are made and in their order -/
def prF (n : Nat) : List Edge := (List.range n).flatMap fun (k : Nat) => (List.range k).map fun (j : Nat) => ((j : Int), (k : Int))
def srF (n : Nat) : List Edge := (List.range n).flatMap fun (j : Nat) => ((List.range n).filter fun (k : Nat) => decide (j < k)).map fun (k : Nat) => ((j : Int), (k : Int))
local instance lexLt_dec : DecidableRel lexLt := fun p q => inferInstanceAs (Decidable (p.1 < q.1 ∨ (p.1 = q.1 ∧ p.2 < q.2)))
local instance lexLe_dec : DecidableRel lexLe := fun p q => inferInstanceAs (Decidable (p.1 < q.1 ∨ (p.1 = q.1 ∧ p.2 ≤ q.2)))
theorem lexLe_anti {p q : Edge} (h : lexLe p q) (g : lexLe q p) : p = q := by
  obtain ⟨a, b⟩ := p
  obtain ⟨c, d⟩ := q
  have h : a < c ∨ (a = c ∧ b ≤ d) := h
  have g : c < a ∨ (c = a ∧ d ≤ b) := g
  have : a = c := by omega
  have : b = d := by omega
  simp [*]
theorem sorted_one {xs ys : List Edge} (p : xs.Perm ys) (h : xs.Pairwise lexLe) (g : ys.Pairwise lexLe) : xs = ys := by
  induction xs generalizing ys with
  | nil => exact (List.nil_perm.mp p).symm
  | cons x xs ih =>
    cases ys with
    | nil => have := p.length_eq; simp at this
    | cons y ys =>
      obtain ⟨h1, h2⟩ := List.pairwise_cons.mp h
      obtain ⟨g1, g2⟩ := List.pairwise_cons.mp g
      have e : x = y := by
        rcases List.mem_cons.mp (p.mem_iff.mp List.mem_cons_self) with e | e
        · exact e
        · rcases List.mem_cons.mp (p.mem_iff.mpr (List.mem_cons_self (a := y) (l := ys))) with e' | e'
          · exact e'.symm
          · exact lexLe_anti (h1 _ e') (g1 _ e)
      subst e
      rw [ih (List.perm_cons _ |>.mp p) h2 g2]
/-- the sets of few edges -/
def stepL (n : Nat) (L : List (List Edge)) (e : Edge) : List (List Edge) := L ++ (L.filter fun one => decide (one.length + 1 < n)).map fun one => one ++ [e]
def lotF (n : Nat) (ps : List Edge) : List (List Edge) := ps.foldl (stepL n) [[]]
/-! ### what hangs together with place 0 -/
def nx1 (S : List Int) (e : Edge) : List Int := if e.1 ∈ S ∧ e.2 ∉ S then e.2 :: S else if e.2 ∈ S ∧ e.1 ∉ S then e.1 :: S else S
def nxS (es : List Edge) (S : List Int) : List Int := es.foldl nx1 S
def rS (es : List Edge) : Nat → List Int
  | 0 => [0]
  | k + 1 => nxS es (rS es k)
def clB (es : List Edge) (S : List Int) : Bool := es.all fun e => decide (e.1 ∈ S ↔ e.2 ∈ S)
def trB (n : Nat) (es : List Edge) : Bool := (List.range n).all fun (k : Nat) => decide ((k : Int) ∈ rS es n)
/-- in how many orders a laying can be cleared at most -/
def mxC (n : Nat) (es : List Edge) : Nat := ((List.range (2 ^ n)).map (clrF es (n : Int) (2 ^ n - 1))).foldl max 0
def trF (n : Nat) : List (List Edge) := (lotF n (srF n)).filter fun es => decide (es.length + 1 = n) && trB n es
/-! ### the most orders, by the dict of counts -/
/-- a loop, by the number of the turn -/
theorem wFor_at {g : TDG} {body : TDS} {q : DEnds} (I : Nat → DEnv → Prop) (ds : List PyData) (h0 : ∀ ρ, I ds.length ρ → q.nx ρ)
    (hs' : ∀ i d ρ (k : DEnv → Prop), ds[i]? = some d → I i ρ → (∀ ρ', I (i + 1) ρ' → k ρ') → g d ρ fun ρ1 => body { q with nx := k, ct := k, bk := q.nx } ρ1) :
    ∀ ρ, I 0 ρ → wFor g body q ds ρ := by
  intro ρ h
  refine wFor_ind (fun rest ρ => ∃ i, rest = ds.drop i ∧ i ≤ ds.length ∧ I i ρ) ?_ ?_ _ _ ⟨0, by rw [List.drop_zero], Nat.zero_le _, h⟩
  · rintro ρ ⟨i, e, hi, hI⟩
    have : ds.length ≤ i := List.drop_eq_nil_iff.mp e.symm
    have e2 : i = ds.length := by omega
    subst e2
    exact h0 ρ hI
  · rintro d rest ρ k ⟨i, e, hi, hI⟩ hk
    have hlt : i < ds.length := by
      apply Classical.byContradiction
      intro z
      rw [List.drop_eq_nil_iff.mpr (by omega)] at e
      cases e
    rw [List.drop_eq_getElem_cons hlt] at e
    injection e with e1 e2
    exact hs' i d ρ k (by rw [e1]; exact List.getElem?_eq_getElem hlt) hI fun ρ' h' => hk ρ' ⟨i + 1, e2, hlt, h'⟩
theorem rangeD_get {lo : Int} {m i : Nat} {d : PyData} (h : (rangeD lo m)[i]? = some d) : i < m ∧ d = .int (lo + (i : Int)) := by
  unfold rangeD at h
  rw [List.getElem?_map] at h
  obtain ⟨j, hj, rfl⟩ := Option.map_eq_some_iff.mp h
  obtain ⟨h1, h2⟩ := List.getElem?_eq_some_iff.mp hj
  rw [List.length_range] at h1
  rw [List.getElem_range] at h2
  subst h2
  exact ⟨h1, rfl⟩
end DL
/-! DN: a list of lists of one's own: made by a comprehension, changed item by item in a loop, then let go. -/
namespace DL
open PySem PySem.Spec PyProof.Rows L2
def Ctx.withs (C : Ctx) (as : List Addr) : Ctx := { C with ex := as ++ C.ex }
section
variable {C : Ctx} {K : PySem.W.Frag} {H H' hH hH' : Hp} {σ : L2.St} {ρ ρ' : DEnv} {as es bs : List Addr}
/-- the lists within, each with its items -/
def NestR (K : PySem.W.Frag) (hH H : Hp) : List Addr → List (List PyData) → Prop
  | [], [] => True
  | b :: bs, r :: rs => (∃ vs, H b = some (.lst vs) ∧ DpAll K hH vs r) ∧ NestR K hH H bs rs
  | _, _ => False
theorem NestR.mono (l : Le hH hH') : ∀ {bs : List Addr} {rs : List (List PyData)}, (∀ b ∈ bs, ∀ o, H b = some o → H' b = some o) → NestR K hH H bs rs → NestR K hH' H' bs rs
  | [], [], _, _ => trivial
  | b :: bs, r :: rs, k, ⟨⟨vs, h1, h2⟩, h3⟩ => ⟨⟨vs, k b List.mem_cons_self _ h1, DpAll.le l h2⟩, NestR.mono l (fun b hb => k b (List.mem_cons_of_mem _ hb)) h3⟩
theorem NestR.len : ∀ {bs : List Addr} {rs : List (List PyData)}, NestR K hH H bs rs → bs.length = rs.length
  | [], [], _ => rfl
  | b :: bs, r :: rs, ⟨h1, h3⟩ => by rw [List.length_cons, List.length_cons, NestR.len h3]
theorem NestR.get : ∀ {bs : List Addr} {rs : List (List PyData)} {j : Nat} {r : List PyData}, NestR K hH H bs rs → rs[j]? = some r → ∃ b vs, bs[j]? = some b ∧ H b = some (.lst vs) ∧ DpAll K hH vs r
  | [], [], _, _, _, e => by simp at e
  | b :: bs, r :: rs, 0, r', ⟨⟨vs, h1, h2⟩, h3⟩, e => by simp at e; subst e; exact ⟨b, vs, rfl, h1, h2⟩
  | b :: bs, r :: rs, j + 1, r', ⟨h1, h3⟩, e => by
    obtain ⟨b', vs, a1, a2, a3⟩ := NestR.get h3 (show rs[j]? = some r' by simpa using e)
    exact ⟨b', vs, by simpa using a1, a2, a3⟩
theorem NestR.put {b : Addr} {ws : List V} {r' : List PyData} (D : DpAll K hH ws r') : ∀ {bs : List Addr} {rs : List (List PyData)} {j : Nat}, bs.Nodup → NestR K hH H bs rs → bs[j]? = some b → NestR K hH (upd H b (.lst ws)) bs (rs.set j r')
  | [], [], _, _, _, e => by simp at e
  | c :: bs, r :: rs, 0, nd, ⟨_, h3⟩, e => by
    simp at e
    subst e
    refine ⟨⟨ws, upd_same, D⟩, NestR.mono Le.rfl (fun b hb o z => ?_) h3⟩
    rw [upd_ne (fun q => (List.nodup_cons.mp nd).1 (by rw [← q]; exact hb))]; exact z
  | c :: bs, r :: rs, j + 1, nd, ⟨⟨vs, h1, h2⟩, h3⟩, e => by
    have e : bs[j]? = some b := by simpa using e
    refine ⟨⟨vs, ?_, h2⟩, NestR.put D (List.nodup_cons.mp nd).2 h3 e⟩
    rw [upd_ne (fun q => (List.nodup_cons.mp nd).1 (by rw [q]; exact List.mem_of_getElem? e))]; exact h1
theorem NestR.all {bs : List Addr} {rs : List (List PyData)} (hv : ∀ b ∈ bs, hH b = H b) : NestR K hH H bs rs → DpAll K hH (bs.map V.ref) (rs.map PyData.list) := by
  induction bs generalizing rs with
  | nil => intro h; cases rs with
    | nil => exact .nil
    | cons _ _ => exact h.elim
  | cons b bs ih => intro h; cases rs with
    | nil => exact h.elim
    | cons r rs =>
      obtain ⟨⟨vs, h1, h2⟩, h3⟩ := h
      exact .cons (.lst (SqL.of (by rw [hv b List.mem_cons_self]; exact h1)) h2) (ih (fun c hc => hv c (List.mem_cons_of_mem _ hc)) h3)
end
section
variable {X : Cx} {tg iter e : Expr}
def cF (K : PySem.W.Frag) (t : TDA) : TE := fun σ H Q => ∃ C ρ q, EnvD C K H σ ρ ∧ t ρ q ∧ ∀ a vs H' ds ρ', EnvD (C.with a) K H' σ ρ' → Step C ρ H ρ' H' → H a = none → H' a = some (.lst vs) → DpAll K (hide (hs (C.with a) ρ') H') vs ds → q ds ρ' → Q (.ref a) H'
theorem DF.pe {t : TDA} (h : DF X e t) : PE X e (cF X.K t) := by
  obtain ⟨te, hp, hq⟩ := h.ex
  exact ⟨fun pins s σ H Q I ⟨C, ρ, q, E, w, k⟩ => hp.run pins s σ H Q I (hq C σ H ρ q Q E w k)⟩
/-- the new lists, one by one -/
def wLcN (g : TDG) (te : TDA) (vs : List Nat) (q : List (List PyData) → Prop) (ρ0 : DEnv) : List PyData → List (List PyData) → Prop
  | [], acc => q acc
  | d :: ds, acc => g d ρ0 fun ρ1 => wipeD ρ1 vs = ρ0 ∧ te ρ1 fun y ρ3 => ρ3 = ρ1 ∧ acc.length < sizeLine ∧ wLcN g te vs q ρ0 ds (acc ++ [y])
def tdLcN (ti : TDA) (g : TDG) (te : TDA) (vs : List Nat) (ρ : DEnv) (q : List (List PyData) → DEnv → Prop) : Prop := ti ρ fun ds ρ1 => noOwn ρ1 vs = true ∧ wLcN g te vs (fun acc => q acc ρ1) (wipeD ρ1 vs) ds []
end
end DL
/-! DN: name = [[..] for ..]; for ..: name[k][j] += x. -/
namespace DL
open PySem PySem.Spec PyProof.Rows L2
section
variable {C : Ctx} {K : PySem.W.Frag} {H H' : Hp} {σ : L2.St} {ρ : DEnv} {as : List Addr}
end
section
variable {X : Cx} {tg iter e k1 k2 val : Expr}
def tdNestB (t1 t2 t3 : TDE) (rd : RD2) (q : List (List PyData) → DEnv → Prop) (rows : List (List PyData)) (ρ : DEnv) : Prop := t1 ρ fun d1 ρ1 => ∃ (p : Nat) (row : List PyData), d1 = .int p ∧ rows[p]? = some row ∧ t2 ρ1 fun d2 ρ2 => ∃ (k : Nat) (x : PyData), d2 = .int k ∧ row[k]? = some x ∧ t3 ρ2 fun d3 ρ3 => rd x d3 fun z => q (rows.set p (row.set k z)) ρ3
def wForN (g : TDG) (b : (List (List PyData) → DEnv → Prop) → List (List PyData) → DEnv → Prop) (q : List (List PyData) → DEnv → Prop) : List PyData → List (List PyData) → DEnv → Prop
  | [], rows, ρ => q rows ρ
  | d :: ds, rows, ρ => g d ρ fun ρ1 => b (wForN g b q ds) rows ρ1
def tdNest (i : Nat) (ti0 : TDA) (g0 : TDG) (te0 : TDA) (vs0 : List Nat) (ti : TDA) (g : TDG) (t1 t2 t3 : TDE) (rd : RD2) (v : TDS) : TDS := fun q ρ =>
  tdLcN ti0 g0 te0 vs0 ρ fun rows ρ1 => i < ρ1.length ∧ ti (ρ1.set i .un) fun ds ρ2 => wForN g (tdNestB t1 t2 t3 rd) (fun rows ρ3 => v q (ρ3.set i (.sh (.list (rows.map PyData.list))))) ds rows ρ2
end
end DL
/-! DN: when a place is taken, over all orders; costs by times; sums of ratios. -/
namespace DL
open PySem PySem.Spec PyProof.Rows L2
/-! ### tables of numbers -/
def tabN (N : Nat) (f : Nat → Nat → Nat) : List (List PyData) := (List.range N).map fun p => (List.range N).map fun t => .int ((f p t : Nat) : Int)
/-! ### in how many orders a place comes at a time -/
def tmC (L : List (List Int)) (p t : Nat) : Nat := (L.filter fun r => decide (r[t]? = some (p : Int))).length
def tmS (L : List (List Int)) (p : Nat) : Nat := (L.map fun r => r.idxOf (p : Int)).sum
def gI (p t : Nat) : Nat → Nat → Nat := fun s k => if k = p ∧ (bitsOf s).length = t then 1 else 0
/-! ### costs by times -/
/-! ### ratios -/
end DL
/-! DN: which place is taken ahead of which, over all orders; sums of times. -/
namespace DL
open PySem PySem.Spec PyProof.Rows L2
def gA (o q : Nat) : Nat → Nat → Nat := fun s k => if k = o ∧ s.testBit q = false then 1 else 0
def gO (o : Nat) : Nat → Nat → Nat := fun _ k => if k = o then 1 else 0
def ahdC (L : List (List Int)) (o q : Nat) : Nat := (L.filter fun r => decide (r.idxOf (o : Int) < r.idxOf (q : Int))).length
section
variable {n : Int} {es : List Edge} {ls : List Int} {to on : List Nat}
end
/-! ### sums over the places -/
end DL
/-! DN: *xs in a display. -/
namespace DL
open PySem PySem.Spec PyProof.Rows L2
section
variable {X : Cx} {e : Expr} {es : List Expr} {te : TDE}
def tdStar (te : TDE) (t : TDA) : TDA := fun ρ q => te ρ fun x ρ1 => match x with
  | .tuple ds => t ρ1 fun es ρ2 => q (ds ++ es) ρ2
  | .list ds => t ρ1 fun es ρ2 => q (ds ++ es) ρ2
  | _ => False
variable {a b : Expr} {ta tb : TDE}
/-- xs != [], xs == [], whatever the items -/
def rNeNil (K : PySem.W.Frag) : R2 := fun x y H Q => ∃ (a b : Addr) (xs : List V), x = .ref a ∧ y = .ref b ∧ SqL K H a xs ∧ SqL K H b [] ∧ Q (.bl (!xs.isEmpty)) H
def rEqNil (K : PySem.W.Frag) : R2 := fun x y H Q => ∃ (a b : Addr) (xs : List V), x = .ref a ∧ y = .ref b ∧ SqL K H a xs ∧ SqL K H b [] ∧ Q (.bl xs.isEmpty) H
end
end DL
/-! DN: ratios with a sign; gaps between two places, over all orders. -/
namespace DL
open PySem PySem.Spec PyProof.Rows L2
/-! ### ratios with a sign -/
def sgI (a : Int) (k : Nat) : Int := if a < 0 then -(k : Int) else k
def nrmI (a : Int) (b : Nat) : Int × Nat := (sgI a (nrm a.natAbs b).1, (nrm a.natAbs b).2)
def rtI (p : Int × Nat) : PyData := .tuple [.int p.1, .int (p.2 : Nat)]
/-! ### gaps -/
def gapI (a b : Nat) (r : List Int) : Int := (r.idxOf (b : Int) : Int) - (r.idxOf (a : Int) : Int)
def gapC (L : List (List Int)) (a b : Nat) (g : Int) : Nat := (L.filter fun r => decide (gapI a b r = g)).length
theorem gapC_pos {L : List (List Int)} {a b : Nat} {g : Int} : 0 < gapC L a b g ↔ ∃ r ∈ L, gapI a b r = g := by
  unfold gapC
  rw [List.length_pos_iff_exists_mem]
  constructor
  · rintro ⟨r, hr⟩
    obtain ⟨h1, h2⟩ := List.mem_filter.mp hr
    exact ⟨r, h1, of_decide_eq_true h2⟩
  · rintro ⟨r, h1, h2⟩
    exact ⟨r, List.mem_filter.mpr ⟨h1, decide_eq_true h2⟩⟩
/-! ### a dict that counts -/
structure GD (ks : List (Int × PyData)) (f : Int → Nat) : Prop where
  nd : (ks.map (·.1)).Nodup
  val : ∀ g, (lk ks g).getD (.int 0) = .int (f g : Nat)
  mem : ∀ g, g ∈ ks.map (·.1) ↔ 0 < f g
theorem GD.nil : GD [] fun _ => 0 := ⟨List.nodup_nil, fun _ => rfl, fun g => by simp⟩
theorem GD.step {ks : List (Int × PyData)} {f : Int → Nat} (D : GD ks f) (g : Int) : GD (putD ks g (.int ((f g : Nat) + 1))) fun x => f x + if x = g then 1 else 0 := by
  refine ⟨?_, fun x => ?_, fun x => ?_⟩
  · rw [put_keys]
    split
    · exact D.nd
    · rename_i h
      exact List.nodup_append.mpr ⟨D.nd, by simp, fun a ha b hb => by
        rw [List.mem_singleton] at hb
        subst hb
        rintro rfl
        exact h ha⟩
  · rw [lk_put]
    by_cases e : x = g
    · subst e
      rw [if_pos rfl, if_pos rfl]
      show PyData.int _ = .int _
      rw [Int.natCast_add]
      rfl
    · rw [if_neg e, if_neg e]
      exact D.val x
  · rw [put_keys]
    split
    · rename_i h
      rw [D.mem]
      by_cases e : x = g
      · subst e
        have := (D.mem x).mp h
        rw [if_pos rfl]; omega
      · rw [if_neg e]; omega
    · rename_i h
      rw [List.mem_append, D.mem, List.mem_singleton]
      by_cases e : x = g
      · rw [if_pos e]; exact ⟨fun _ => by omega, fun _ => .inr e⟩
      · rw [if_neg e]; exact ⟨fun z => z.elim (fun z => by omega) (fun z => absurd z e), fun z => .inl (by omega)⟩
theorem GD.get {ks : List (Int × PyData)} {f : Int → Nat} (D : GD ks f) {g : Int} (h : 0 < f g) : lk ks g = some (.int (f g : Nat)) := by
  have h1 := D.val g
  cases e : lk ks g with
  | none => exact absurd ((D.mem g).mpr h) (lk_none.mp e)
  | some d => rw [e] at h1; exact congrArg some h1
theorem GD.len {ks : List (Int × PyData)} {L : List (List Int)} {a b : Nat} (D : GD ks (gapC L a b)) : ks.length ≤ L.length := by
  have := List.Nodup.length_le_of_subset D.nd (l₂ := L.map (gapI a b)) fun g hg => by
    obtain ⟨r, h1, h2⟩ := gapC_pos.mp ((D.mem g).mp hg)
    exact List.mem_map.mpr ⟨r, h1, h2⟩
  rw [List.length_map, List.length_map] at this
  exact this
/-! ### the mean gap of all pairs -/
def dN2 (i j : Nat) : Nat := (i - j) + (j - i)
def pgN (r : List Int) (n : Nat) : Nat := ((List.range n).map fun (k : Nat) => ((List.range k).map fun (j : Nat) => dN2 (r.idxOf (j : Int)) (r.idxOf (k : Int))).sum).sum
def pcN (n : Nat) : Nat := ((List.range n).map fun k => ((List.range k).map fun j => dN2 j k).sum).sum
/-- the sum of the gaps of some pairs, over all orders -/
def wN (L : List (List Int)) (ps : List Edge) : Nat := (ps.map fun e => (L.map fun r => dN2 (r.idxOf e.1) (r.idxOf e.2)).sum).sum
end DL
/-! itertools.accumulate over a tuple of ints, at the library's level. -/
namespace AC
open PySem PySem.Spec PyProof.Rows
open Sem (wp)
/-- an accumulate object: its iterator, the sum so far -/
abbrev IsAcc (h : Heap) (it li : Addr) (v : Value) : Prop := h.get? it = some { cls := .type "itertools.accumulate", dict := none, data := .fields #[.ref li, .none, v, .none], slots := #[] }
section
variable {prog : Program} {w : World} {A : Around} {E : Value → Shared → Prop} {s : Shared}
end
end AC
/-! the next sum of itertools.accumulate -/
namespace AC
open PySem PySem.Spec PyProof.Rows
open Sem (wp)
section
variable {prog : Program} {w : World} {A : Around} {E : Value → Shared → Prop} {s : Shared}
end
end AC
/-! a walk over itertools.accumulate -/
namespace AC
open PySem PySem.Spec PyProof.Rows
section
variable {prog : Program} {w : World} {A : Around} {E : Value → Shared → Prop} {s : Shared}
def sumT (ns : List Int) (i : Nat) : Int := (ns.take i).sum
end
end AC
/-! list(itertools.accumulate(t)) -/
namespace AC
open PySem PySem.Spec PyProof.Rows
section
variable {prog : Program} {w : World} {A : Around} {E : Value → Shared → Prop} {s : Shared}
variable {I : Addr} {fp wr : List Addr} {G : Array GenState → Array GenState → Prop} {n : Nat} {P : Nat → Value → Prop} {St : Nat → Shared → Prop}
end
end AC
/-! DL: list(itertools.accumulate(t)), t a tuple of ints. -/
namespace AC
open PySem PySem.Spec PyProof.Rows
section
variable {prog : Program} {w : World} {A : Around} {E : Value → Shared → Prop} {s : Shared}
end
end AC
namespace DL
open PySem PySem.Spec PyProof.Rows L2
/-- the sums of what begins a list -/
def accV (ns : List Int) : List Int := (List.range ns.length).map fun i => AC.sumT ns (i + 1)
section
variable {X : Cx} {a : Expr} {pos : Pos} {ta : TDE}
end
end DL
/-! DL: xs[::2], xs a list. -/
namespace DL
open PySem PySem.Spec PyProof.Rows L2
/-- every other item -/
def evn {α : Type} : List α → List α
  | [] => []
  | [x] => [x]
  | x :: _ :: r => x :: evn r
theorem DpAll.evn {K : PySem.W.Frag} {H : Hp} : ∀ {vs : List V} {ds : List PyData}, DpAll K H vs ds → DpAll K H (evn vs) (evn ds)
  | _, _, .nil => .nil
  | _, _, .cons a .nil => .cons a .nil
  | _, _, .cons a (.cons b t) => .cons a (DpAll.evn t)
section
variable {X : Cx} {a e st : Expr} {pos p2 : Pos} {te ts : TE} {ta tb : TDE}
def tSkip (K : PySem.W.Frag) (te ts : TE) : TE := fun σ H Q => te σ H fun x H1 => ts σ H1 fun y H2 => y = .int 2 ∧ ∃ a xs, x = .ref a ∧ SqL K H2 a xs ∧ ∀ p, H2 p = none → Q (.ref p) (upd H2 p (.lst (evn xs)))
def tdSkip (ta tb : TDE) : TDE := fun ρ q => ta ρ fun d ρ1 => tb ρ1 fun z ρ2 => match d, z with
  | .list ds, .int i => i = 2 ∧ q (.list (evn ds)) ρ2
  | _, _ => False
end
end DL
/-! DL: rows of coins: a path's laying by its way, sums of what begins it. -/
namespace DL
open PySem PySem.Spec PyProof.Rows L2
def pathE (m : Nat) : List Edge := (List.range m).map fun (k : Nat) => ((k : Int), (k : Int) + 1)
/-- the path's edges with the ways that w tells -/
def pathZ (m : Nat) (w : Nat → Int) : List (Edge × Int) := (List.range m).map fun (k : Nat) => (((k : Int), (k : Int) + 1), w k)
end DL
/-! DL: falls of rows, their first takes. -/
namespace DL
open PySem PySem.Spec PyProof.Rows L2
def pS (ls : List Int) (k : Nat) : Int := (ls.take k).sum
/-- the places whose sums are even -/
def evF (ls : List Int) : List Int := ((List.range ls.length).filter fun k => decide (pS ls (k + 1) % 2 = 0)).map fun (k : Nat) => (k : Int)
/-- the heads with an even number of heads before them -/
def rfL (ls : List Int) : List Int := ((List.range ls.length).filter fun (k : Nat) => decide (gl ls (k : Int) = 1 ∧ pS ls k % 2 = 0)).map fun (k : Nat) => (k : Int)
/-- an order of a path's laying: its falls -/
def wK (r : List Int) (k : Nat) : Int := wvE r ((k : Int), (k : Int) + 1)
/-- a row by its falls -/
def rof (fs : List Int) (p : Nat) : Int := 1 - if (decide ((p : Int) ∈ fs) != (decide (0 < p) && decide (¬ (p : Int) - 1 ∈ fs))) = true then 1 else 0
def rofL (n : Nat) (fs : List Int) : List Int := (List.range n).map (rof fs)
end DL
/-! DL: sets of many tuples of which few differ. -/
namespace DL
open PySem PySem.Spec PyProof.Rows L2
section
variable {P : Program} {w : World} {A : Around} {E : Value → Shared → Prop} {s : Shared}
end
section
variable {X : Cx}
def rSetU (K : PySem.W.Frag) (P : Program) (w : World) : List V → Hp → VK → Prop := fun xs H Q => ∃ (l : Addr) (ks : List (Addr × List Int)) (U : List (List Int)), xs = [V.ref l] ∧ SqL K H l (ks.map fun p => V.ref p.1) ∧ (∀ p ∈ ks, SqT K H p.1 (p.2.map V.int)) ∧ (∀ p ∈ ks, p.2 ∈ U) ∧ U.length < 63 ∧
  ∀ a L, H a = none → (∀ p ∈ L, p ∈ ks) → (∀ p ∈ ks, p.2 ∈ L.map (·.2)) → (L.map (·.2)).Nodup → Q (.ref a) (upd H a (SetTO P w a L))
end
section
variable {P : Program} {w : World} {A : Around} {E : Value → Shared → Prop} {s : Shared}
end
section
variable {X : Cx}
def rSortOne (K : PySem.W.Frag) (P : Program) (w : World) : List V → Hp → VK → Prop := fun vs H Q => ∃ (a : Addr) (L : List (Addr × List Int)), vs = [V.ref a] ∧ H a = some (SetTO P w a L) ∧ (∀ p ∈ L, SqT K H p.1 (p.2.map V.int)) ∧ L.length ≤ 1 ∧
  ∀ (p : Addr), H p = none → Q (.ref p) (upd H p (.lst (L.map fun q => V.ref q.1)))
end
section
variable {X : Cx} {a : Expr} {pos : Pos} {ta : TDE}
/-- sorted(set(xs)), xs a list of equal tuples of ints -/
def tdSortSetC (ta : TDE) : TDA := fun ρ q => ta ρ fun d ρ1 => ∃ (ts : List (List Int)) (t0 : List Int), d = .list (ts.map tI) ∧ (∀ t ∈ ts, t = t0) ∧ q (if ts = [] then [] else [tI t0]) ρ1
end
end DL
/-! DL: for v in d.values(), the keys ints. -/
namespace DL
open PySem PySem.Spec PyProof.Rows L2
section
variable {X : Cx} {tg e : Expr} {t : TDE}
end
end DL
namespace DL
open PySem PySem.Spec PyProof.Rows L2
section
variable {X : Cx}
theorem cr_lenF : CallR X (.builtin "len") (fun xs H Q => ∃ a o kvs, xs = [V.ref a] ∧ H a = some (.frz o (.dK kvs)) ∧ Q (.int kvs.length) H) := by
  intro pins s σ H xs us Q I r h
  obtain ⟨a, o, kvs, rfl, ha, q⟩ := h
  obtain ⟨u, rfl, ru⟩ := vals1 r
  cases ru
  exact d_len I (.inr ⟨_, ha⟩) fun t s' I' => ⟨.int kvs.length, H, I', ⟨t, rfl⟩, q⟩
/-- len(d), the keys ints -/
theorem l1_lenF : L1 X (fun xs H Q => ∃ a o kvs, xs = [V.ref a] ∧ H a = some (.frz o (.dK kvs)) ∧ Q (.int kvs.length) H) (fun d q => ∃ ks : List (Int × PyData), d = dK ks ∧ q (.int ks.length)) := by
  intro C σ ρ H v d qd Q E B w k
  obtain ⟨ks, rfl, w⟩ := w
  have D : Dp X.K (hide (hs C ρ) H) v (dK ks) := B.flat fun _ => nofun
  obtain ⟨a, o, kvV, rfl, g1, g2, g3⟩ := Dp.dK_of D
  have hl : kvV.length = ks.length := by have := congrArg List.length g2; simpa using this
  refine ⟨a, o, kvV, rfl, (hide_some g1).2, ?_⟩
  rw [hl]
  exact k _ _ _ .rfl (.int _) w
end
end DL
/-! DL: name = {k: v}, a dict of one's own, the key an int. -/
namespace DL
open PySem PySem.Spec PyProof.Rows L2
section
variable {X : Cx} {kx vx : Expr} {pos : Pos} {tk tv : TDE}
/-- .. a new dict of one's own, the key an int -/
structure DFK (X : Cx) (e : Expr) (t : DEnv → (List (Key × PyData) → DEnv → Prop) → Prop) : Prop where
  ex : ∃ te, PE X e te ∧ ∀ C σ H ρ q Q, EnvD C X.K H σ ρ → t ρ q → (∀ a kvV H' kvs ρ', EnvD (C.with a) X.K H' σ ρ' → Step C ρ H ρ' H' → H a = none → H' a = some (.dK kvV) → kvV.map (·.1) = kvs.map (·.1) → DpAll X.K (hide (hs (C.with a) ρ') H') (kvV.map (·.2)) (kvs.map (·.2)) → q kvs ρ' → Q (.ref a) H') → te σ H Q
def tdDisK (tk tv : TDE) : DEnv → (List (Key × PyData) → DEnv → Prop) → Prop := fun ρ q => tk ρ fun kd ρ1 => tv ρ1 fun d ρ2 => ∃ k : Int, kd = .int k ∧ q [(.inl k, d)] ρ2
theorem dfk_disp (hk : DE X kx tk) (hv : DE X vx tv) : DFK X (.Dict [some kx] [vx] pos) (tdDisK tk tv) := by
  obtain ⟨pk', hk, qk⟩ := hk.ex
  obtain ⟨pv', hv, qv⟩ := hv.ex
  refine ⟨_, pe_disp (pps_cons hk hv pps_nil) rfl rfl (by simp) (by simp), fun C σ H ρ q Q E h k => fun p hp => ?_⟩
  have hcp : p ∉ C.ex := fun z => by obtain ⟨o, e, _⟩ := E.exd p z; rw [hp] at e; cases e
  have E0 : EnvD (C.with p) X.K (upd H p (.dK [])) σ ρ := E.with_fresh hp
  refine qk (C.with p) σ _ ρ _ _ E0 h fun y H1 kd ρ1 E1 s1 D1 h1 => qv (C.with p) σ H1 ρ1 _ _ E1 h1 fun w H2 d ρ2 E2 s2 D2 h2 => ?_
  obtain ⟨j, rfl, h2⟩ := h2
  cases D1
  have np : ∀ (ρ' : DEnv) (H' : Hp), EnvD (C.with p) X.K H' σ ρ' → p ∉ mu (C.with p) ρ' := fun ρ' H' E' z => by
    rcases List.mem_append.mp z with z | z
    · exact E'.dr p z List.mem_cons_self
    · exact (E'.dj p z).1 List.mem_cons_self
  have hp1 : H1 p = some (.dK []) := s1.keep p _ (np _ _ E0) upd_same
  have hp2 : H2 p = some (.dK []) := s2.keep p _ (np _ _ E1) hp1
  have ho : ∀ xs, HO.dK [(Sum.inl j, w)] ≠ HO.tup xs := by intro xs z; cases z
  refine ⟨hp2, [(Sum.inl j, w)], rfl, by simp, ?_⟩
  show Q (.ref p) (upd H2 p (.dK [(Sum.inl j, w)]))
  have hcx : p ∈ (C.with p).ex := List.mem_cons_self
  have E3 : EnvD (C.with p) X.K (upd H2 p (.dK [(Sum.inl j, w)])) σ ρ2 := E2.updEx hcx (E.fresh0 hp) ho
  have hph : p ∈ hs (C.with p) ρ2 := List.mem_append_left _ hcx
  have hid : hide (hs (C.with p) ρ2) (upd H2 p (.dK [(Sum.inl j, w)])) = hide (hs (C.with p) ρ2) H2 := by
    funext z
    by_cases q : z ∈ hs (C.with p) ρ2
    · rw [hide_in q, hide_in q]
    · rw [hide_out q, hide_out q, upd_ne (fun y => q (by rw [y]; exact hph))]
  have st : Step C ρ H ρ2 (upd H2 p (.dK [(Sum.inl j, w)])) := by
    refine ⟨fun b o n e => ?_, fun b o e => ?_, fun b z => ?_⟩
    · have hb : b ≠ p := ne_of_none e hp
      have n2 : b ∉ mu (C.with p) ρ := n
      rw [upd_ne hb]
      have e1 : upd H p (HO.dK []) b = some o := by rw [upd_ne hb]; exact e
      exact (s1.trans s2).keep b o n2 e1
    · have hb : b ≠ p := ne_of_none e hp
      have e1 : upd H p (HO.dK []) b = some o := by rw [upd_ne hb]; exact e
      obtain ⟨o', e'⟩ := (s1.trans s2).dom b o e1
      exact ⟨o', by rw [upd_ne hb]; exact e'⟩
    · rcases (s1.trans s2).new b z with q | q
      · exact .inl q
      · by_cases hb : b = p
        · subst hb; exact .inr hp
        · rw [upd_ne hb] at q; exact .inr q
  exact k p [(Sum.inl j, w)] _ [(Sum.inl j, d)] ρ2 E3 st hp upd_same rfl (by rw [hid]; exact .cons D2 .nil) h2
/-- name = {k: v} -/
def tdNewK (i : Nat) (tb : DEnv → (List (Key × PyData) → DEnv → Prop) → Prop) : TDS := fun q ρ => tb ρ fun kvs ρ2 => ∀ m, m ∉ owns ρ2 → q.nx (ρ2.set i (.dic m (.K kvs)))
theorem ds_newK (i : Nat) {x : Str} {px : Pos} {b : Expr} {tb} (hN : X.N.Nodup) (hb : DFK X b tb) (hi : X.N[i]? = some x := by rfl) (hx : Loc X.env.scope x := by first | exact Or.inl rfl | exact Or.inr rfl) (hs' : swapsWith b (some (.Name x px)) pos.line X.env = pure false := by rfl) (hf : X.fn x = true ∨ X.env.scope.names.lookup x = some .local := by first | exact .inl rfl | exact .inr rfl) :
    DS X (.Assign [.Name x px] b pos) (tdNewK i tb) := by
  obtain ⟨pb, hb, qb⟩ := hb.ex
  refine ⟨_, ps_set hN hi hx hb hs' hf, fun C σ H ρ q Q E h k => ?_⟩
  refine qb C σ H ρ _ _ E h fun m kvV H2 kvs ρ2 E2 s2 hm hm2 hk2 D2 h2 => ?_
  have hcm : m ∉ C.ex := fun z => by obtain ⟨o, e, _⟩ := E.exd m z; rw [hm] at e; cases e
  have mo : m ∉ owns ρ2 := fun z => (E2.dj m z).1 List.mem_cons_self
  have E6 := E2.ownX (i := i) (v := .ref m) (x := .dic m (.K kvs)) rfl hcm ⟨rfl, ⟨kvV, hm2, hk2, D2⟩, E.fresh0 hm⟩
  have st6 : Step C ρ H (ρ2.set i (.dic m (.K kvs))) H2 := by
    refine ⟨s2.keep, s2.dom, fun b z => ?_⟩
    rcases owns_set_any (show Slot.addr (.dic m (.K kvs)) = some m from rfl) z with z | z
    · subst z; exact .inr hm
    · exact s2.new b z
  exact k.nx _ _ _ E6 st6 (h2 m mo)
end
end DL
/-! DL: sorted(d.items()), d a dict of one's own, keys and values ints. -/
namespace DL
open PySem PySem.Spec PyProof.Rows L2
def entK (e : Int × Int) : Key × V := (.inl e.1, V.int e.2)
def adrV : Value → Addr
  | .ref a => a
  | _ => 0
section
variable {X : Cx}
def rItemsK : V → List V → Hp → VK → Prop := fun x xs H Q => ∃ (a : Addr) (kvs : List (Key × V)), x = .ref a ∧ xs = [] ∧ H a = some (.dK kvs) ∧ ∀ p, H p = none → Q (.ref p) (upd H p (L2.DX.itemsO p a))
def rSortItK : List V → Hp → VK → Prop := fun vs H Q => ∃ (p a : Addr) (ks : List (Int × Int)), vs = [.ref p] ∧ H p = some (L2.DX.itemsO p a) ∧ H a = some (.dK (ks.map entK)) ∧
  ∀ (H' : Hp) (l : Addr) (zs : List (Addr × Int × Int)), Le H H' → (zs.map (·.2)).Perm ks → (zs.map (·.2)).Pairwise lexLe → (∀ z ∈ zs, H z.1 = none ∧ H' z.1 = some (.tup [.int z.2.1, .int z.2.2])) → H' l = none → Q (.ref l) (upd H' l (.lst (zs.map fun z => V.ref z.1)))
end
section
variable {X : Cx} {pos : Pos}
def tdSortItems (i : Nat) : TDA := fun ρ q => match ρ[i]? with
  | some (.dic _ (.K kvs)) => ∃ ks : List (Int × Int), kvs = ks.map (fun e => (.inl e.1, .int e.2)) ∧ ∀ ys : List (Int × Int), ys.Perm ks → ys.Pairwise lexLe → q (ys.map pD) ρ
  | _ => False
end
end DL
/-! DP: numbers, each with how often it stands in a list, as a dict of one's own. -/
namespace DL
open PySem PySem.Spec PyProof.Rows L2
structure Tal (ns : List Int) (ks : List (Int × Int)) : Prop where
  nd : (ks.map (·.1)).Nodup
  mem : ∀ k, k ∈ ks.map (·.1) ↔ k ∈ ns
  val : ∀ p ∈ ks, p.2 = ((ns.count p.1 : Nat) : Int)
def tK (ks : List (Int × Int)) : List (Int × PyData) := ks.map fun p => (p.1, .int p.2)
theorem Tal.nil : Tal [] [] := ⟨by simp, fun k => by simp, fun p hp => by cases hp⟩
theorem Tal.one {m : Nat} (h : 0 < m) (c : Int) : Tal (List.replicate m c) [(c, (m : Int))] := by
  refine ⟨by simp, fun k => ?_, fun p hp => ?_⟩
  · rw [List.mem_replicate]
    simp only [List.map_cons, List.map_nil, List.mem_singleton]
    exact ⟨fun e => ⟨by omega, e⟩, fun e => e.2⟩
  · rw [List.mem_singleton.mp hp]
    show (m : Int) = _
    rw [List.count_replicate_self]
theorem tK_lk (ks : List (Int × Int)) (k : Int) : lk (tK ks) k = (ks.find? fun p => decide (p.1 = k)).map fun p => PyData.int p.2 := by
  induction ks with
  | nil => rfl
  | cons p ks ih =>
    show lk ((p.1, PyData.int p.2) :: tK ks) k = _
    rw [lk_cons]
    by_cases h : p.1 = k
    · rw [if_pos h, List.find?_cons_of_pos (by simpa using h)]; rfl
    · rw [if_neg h, List.find?_cons_of_neg (by simpa using h), ih]
theorem Tal.get {ns : List Int} {ks : List (Int × Int)} (T : Tal ns ks) (k : Int) : (lk (tK ks) k).getD (.int 0) = .int ((ns.count k : Nat) : Int) := by
  rw [tK_lk]
  cases h : ks.find? fun p => decide (p.1 = k) with
  | none =>
    have : k ∉ ns := fun hk => by
      obtain ⟨p, hp, e⟩ := List.mem_map.mp ((T.mem k).mpr hk)
      have := List.find?_eq_none.mp h p hp
      simp [e] at this
    rw [List.count_eq_zero.mpr this]; rfl
  | some p =>
    have h1 := List.mem_of_find?_eq_some h
    have h2 : p.1 = k := by have := List.find?_some h; simpa using this
    show PyData.int p.2 = _
    rw [T.val p h1, h2]
theorem Tal.put {ns : List Int} {ks : List (Int × Int)} (T : Tal ns ks) (k : Int) : ∃ ks', putD (tK ks) k (.int (((ns.count k : Nat) : Int) + 1)) = tK ks' ∧ Tal (ns ++ [k]) ks' := by
  have keys : (tK ks).any (fun kv => decide (kv.1 = k)) = decide (k ∈ ks.map (·.1)) := by
    clear T
    induction ks with
    | nil => simp [tK]
    | cons p ks ih =>
      show (decide (p.1 = k) || (tK ks).any _) = _
      rw [ih, List.map_cons]
      by_cases e : p.1 = k
      · rw [decide_eq_true e, decide_eq_true (show k ∈ p.1 :: ks.map (·.1) by rw [e]; exact List.mem_cons_self)]; rfl
      · rw [decide_eq_false e, Bool.false_or]
        congr 1
        rw [List.mem_cons]
        exact propext ⟨.inr, fun z => z.resolve_left fun q => e q.symm⟩
  have hc : ∀ j, (ns ++ [k]).count j = ns.count j + if j = k then 1 else 0 := fun j => by
    rw [List.count_append, List.count_singleton]
    by_cases e : j = k
    · rw [if_pos e, e]; simp
    · rw [if_neg e]
      have : (k == j) = false := by simpa using fun z => e z.symm
      rw [this]; rfl
  by_cases hin : k ∈ ks.map (·.1)
  · refine ⟨ks.map fun p => if p.1 = k then (p.1, ((ns.count k : Nat) : Int) + 1) else p, ?_, ?_, ?_, ?_⟩
    · unfold putD
      rw [keys, decide_eq_true hin, if_pos rfl]
      unfold tK
      rw [List.map_map, List.map_map]
      apply List.map_congr_left
      intro p _
      show (if p.1 = k then (p.1, PyData.int (((ns.count k : Nat) : Int) + 1)) else (p.1, PyData.int p.2)) = (fun p : Int × Int => (p.1, PyData.int p.2)) (if p.1 = k then (p.1, ((ns.count k : Nat) : Int) + 1) else p)
      by_cases e : p.1 = k
      · rw [if_pos e, if_pos e]
      · rw [if_neg e, if_neg e]
    · have : (ks.map fun p => if p.1 = k then (p.1, ((ns.count k : Nat) : Int) + 1) else p).map (·.1) = ks.map (·.1) := by
        rw [List.map_map]
        apply List.map_congr_left
        intro p _
        show (if p.1 = k then (p.1, ((ns.count k : Nat) : Int) + 1) else p).1 = p.1
        split <;> rfl
      rw [this]; exact T.nd
    · intro j
      have : (ks.map fun p => if p.1 = k then (p.1, ((ns.count k : Nat) : Int) + 1) else p).map (·.1) = ks.map (·.1) := by
        rw [List.map_map]
        apply List.map_congr_left
        intro p _
        show (if p.1 = k then (p.1, ((ns.count k : Nat) : Int) + 1) else p).1 = p.1
        split <;> rfl
      rw [this, T.mem, List.mem_append, List.mem_singleton]
      exact ⟨.inl, fun z => z.elim id fun e => by rw [e]; exact (T.mem k).mp hin⟩
    · intro p hp
      obtain ⟨p', hp', rfl⟩ := List.mem_map.mp hp
      by_cases e : p'.1 = k
      · rw [if_pos e]
        show _ = (((ns ++ [k]).count p'.1 : Nat) : Int)
        rw [hc, if_pos e, e]
        show ((ns.count k : Nat) : Int) + 1 = _
        omega
      · rw [if_neg e, hc, if_neg e, T.val p' hp']
        rfl
  · have hn : k ∉ ns := fun z => hin ((T.mem k).mpr z)
    refine ⟨ks ++ [(k, ((ns.count k : Nat) : Int) + 1)], ?_, ?_, ?_, ?_⟩
    · unfold putD
      rw [keys, decide_eq_false hin, if_neg (by decide)]
      unfold tK
      rw [List.map_append]; rfl
    · rw [List.map_append, List.nodup_append]
      exact ⟨T.nd, by simp, fun a ha b hb => by
        rw [List.map_cons, List.map_nil, List.mem_singleton] at hb
        subst hb
        intro e
        exact hin (by rw [← e]; exact ha)⟩
    · intro j
      rw [List.map_append, List.mem_append, T.mem, List.mem_append]
      simp
    · intro p hp
      rcases List.mem_append.mp hp with hp | hp
      · have hne : p.1 ≠ k := fun e => hin (by rw [← e]; exact List.mem_map.mpr ⟨p, hp, rfl⟩)
        rw [hc, if_neg hne, T.val p hp]
        rfl
      · rw [List.mem_singleton.mp hp]
        show _ = (((ns ++ [k]).count k : Nat) : Int)
        rw [hc, if_pos rfl]
        show ((ns.count k : Nat) : Int) + 1 = _
        omega
theorem asc_lexLe (f : Int → Int) : ∀ {m : List Int}, m.Pairwise (· < ·) → (m.map fun c => (c, f c)).Pairwise lexLe := by
  intro m h
  rw [List.pairwise_map]
  exact h.imp fun {a b} z => .inl z
theorem Tal.sorted {ns : List Int} {ks : List (Int × Int)} (T : Tal ns ks) {ys : List (Int × Int)} (p : ys.Perm ks) (s : ys.Pairwise lexLe) {m ns' : List Int} (hm : m.Pairwise (· < ·)) (hk : ∀ k, k ∈ m ↔ k ∈ ns') (hp : ns'.Perm ns) :
    ys = m.map fun c => (c, ((ns'.count c : Nat) : Int)) := by
  refine sorted_one (p.trans ?_) s (asc_lexLe _ hm)
  have n1 : ks.Nodup := by
    have h := T.nd
    rw [List.nodup_iff_pairwise_ne, List.pairwise_map] at h
    exact List.nodup_iff_pairwise_ne.mpr (h.imp fun {a b} z e => z (by rw [e]))
  have n2 : (m.map fun c => (c, ((ns'.count c : Nat) : Int))).Nodup := by
    rw [List.nodup_iff_pairwise_ne, List.pairwise_map]
    exact hm.imp fun {a b} z e => by
      have := congrArg Prod.fst e
      simp only at this
      omega
  refine (List.perm_ext_iff_of_nodup n1 n2).mpr fun q => ?_
  rw [List.mem_map]
  constructor
  · intro h
    refine ⟨q.1, (hk _).mpr (hp.mem_iff.mpr ((T.mem _).mp (List.mem_map.mpr ⟨q, h, rfl⟩))), ?_⟩
    rw [hp.count_eq, ← T.val q h]
  · rintro ⟨c, hc, rfl⟩
    obtain ⟨p', hp', e⟩ := List.mem_map.mp ((T.mem c).mpr (hp.mem_iff.mp ((hk c).mp hc)))
    have := T.val p' hp'
    rw [hp.count_eq, ← e, ← this]
    exact hp'
theorem Tal.len {ns : List Int} {ks : List (Int × Int)} (T : Tal ns ks) : ks.length ≤ ns.length := by
  have := List.Nodup.length_le_of_subset T.nd (l₂ := ns) fun x hx => (T.mem x).mp hx
  rwa [List.length_map] at this
end DL
/-! DP: counts of layings. -/
namespace DL
open PySem PySem.Spec PyProof.Rows L2
section
variable {n : Int} {es : List Edge}
def cntI (n : Int) (es : List Edge) (l : List Int) : Int := ((cnt es n.toNat l : Nat) : Int)
end
end DL
/-! DP: how many orders of a row have given falls. -/
namespace DL
open PySem PySem.Spec PyProof.Rows L2
def rwS (F : Nat → Bool) : Nat → List Nat
  | 0 => [1]
  | m + 1 => (List.range (m + 2)).map fun p => if F m = true then ((rwS F m).drop p).sum else ((rwS F m).take p).sum
/-- who must stand ahead in a row with these falls -/
def fK (F : Nat → Bool) (x y : Int) : Prop := ∃ k : Nat, (F k = false ∧ x = (k : Int) ∧ y = (k : Int) + 1) ∨ (F k = true ∧ x = (k : Int) + 1 ∧ y = (k : Int))
def sN (n : Nat) : List Int := (List.range n).map fun (k : Nat) => (k : Int)
def rowN (F : Nat → Bool) : Nat → Nat
  | 0 => 1
  | m + 1 => (rwS F m).sum
theorem Ords.congr {K K' : Int → Int → Prop} {S : List Int} {L : List (List Int)} (h : ∀ x ∈ S, ∀ y ∈ S, K x y ↔ K' x y) (O : Ords K S L) : Ords K' S L := by
  refine ⟨O.nd, fun o => (O.mem o).trans ⟨fun q => ⟨q.1, fun x y k hx hy => q.2 x y ((h x (q.1.mem_iff.mp hx) y (q.1.mem_iff.mp hy)).mpr k) hx hy⟩, fun q => ⟨q.1, fun x y k hx hy => q.2 x y ((h x (q.1.mem_iff.mp hx) y (q.1.mem_iff.mp hy)).mp k) hx hy⟩⟩⟩
theorem idx_map {f g : Int → Int} {x : Int} : ∀ {o : List Int}, (∀ y ∈ o, g (f y) = y) → g (f x) = x → (o.map f).idxOf (f x) = o.idxOf x
  | [], _, _ => rfl
  | y :: o, h, hx => by
    have ih := idx_map (f := f) (g := g) (x := x) (o := o) (fun z hz => h z (List.mem_cons_of_mem _ hz)) hx
    rw [List.map_cons, List.idxOf_cons, List.idxOf_cons, ih]
    have e : (f y == f x) = (y == x) := by
      apply Bool.eq_iff_iff.mpr
      rw [beq_iff_eq, beq_iff_eq]
      exact ⟨fun e => by rw [← h y List.mem_cons_self, e, hx], fun e => by rw [e]⟩
    rw [e]
theorem Ords.map {K K' : Int → Int → Prop} {S : List Int} {L : List (List Int)} {f g : Int → Int} (hg : ∀ x ∈ S, g (f x) = x) (h : ∀ x ∈ S, ∀ y ∈ S, K x y ↔ K' (f x) (f y)) (O : Ords K S L) : Ords K' (S.map f) (L.map (List.map f)) := by
  have back : ∀ o ∈ L, (o.map f).map g = o := fun o ho => by
    rw [List.map_map]
    have : o.map (g ∘ f) = o.map id := List.map_congr_left fun x hx => hg x (((O.mem o).mp ho).1.mem_iff.mp hx)
    rw [this, List.map_id]
  refine ⟨?_, fun o' => ?_⟩
  · rw [List.nodup_iff_pairwise_ne, List.pairwise_map]
    exact (List.nodup_iff_pairwise_ne.mp O.nd).imp_of_mem fun {a b} ha hb hne e => hne (by rw [← back a ha, ← back b hb, e])
  · rw [List.mem_map]
    constructor
    · rintro ⟨o, ho, rfl⟩
      obtain ⟨p, kp⟩ := (O.mem o).mp ho
      refine ⟨p.map f, fun x' y' k gx gy => ?_⟩
      obtain ⟨x, hx, rfl⟩ := List.mem_map.mp gx
      obtain ⟨y, hy, rfl⟩ := List.mem_map.mp gy
      have hgo : ∀ z ∈ o, g (f z) = z := fun z hz => hg z (p.mem_iff.mp hz)
      rw [idx_map hgo (hgo x hx), idx_map hgo (hgo y hy)]
      exact kp x y ((h x (p.mem_iff.mp hx) y (p.mem_iff.mp hy)).mpr k) hx hy
    · rintro ⟨p, kp⟩
      have e2 : (o'.map g).map f = o' := by
        rw [List.map_map]
        have : o'.map (f ∘ g) = o'.map id := List.map_congr_left fun x' hx' => by
          obtain ⟨x, hx, rfl⟩ := List.mem_map.mp (p.mem_iff.mp hx')
          show f (g (f x)) = f x
          rw [hg x hx]
        rw [this, List.map_id]
      have p2 : (o'.map g).Perm S := by
        have := p.map g
        rw [List.map_map] at this
        have e : S.map (g ∘ f) = S.map id := List.map_congr_left fun x hx => hg x hx
        rwa [e, List.map_id] at this
      have hgo : ∀ z ∈ o'.map g, g (f z) = z := fun z hz => hg z (p2.mem_iff.mp hz)
      refine ⟨o'.map g, (O.mem _).mpr ⟨p2, fun x y k hx hy => ?_⟩, e2⟩
      rw [← idx_map hgo (hgo x hx), ← idx_map hgo (hgo y hy), e2]
      refine kp _ _ ((h x (p2.mem_iff.mp hx) y (p2.mem_iff.mp hy)).mp k) ?_ ?_
      · rw [← e2]; exact List.mem_map.mpr ⟨x, hx, rfl⟩
      · rw [← e2]; exact List.mem_map.mpr ⟨y, hy, rfl⟩
/-- a place that may go first -/
def fstN (F : Nat → Bool) (n k : Nat) : Bool := (decide (k = 0) || F (k - 1)) && (decide (k + 1 = n) || !F k)
def shF (F : Nat → Bool) (k : Nat) : Nat → Bool := fun j => F (k + 1 + j)
end DL
/-! DL: list(itertools.accumulate(xs)), xs a list of ints. -/
namespace AC
open PySem PySem.Spec PyProof.Rows
open Sem (wp)
section
variable {prog : Program} {w : World} {A : Around} {E : Value → Shared → Prop} {s : Shared}
end
end AC
namespace DL
open PySem PySem.Spec PyProof.Rows L2
section
variable {X : Cx} {a : Expr} {pos : Pos} {ta : TDE}
end
end DL
/-! DP: tuple(range(a, b, c)); the program's count of a row. -/
namespace DL
open PySem PySem.Spec PyProof.Rows L2
section
variable {X : Cx} {a b c : Expr} {pos : Pos} {ts : TDA}
end
/-! ### the count of a row -/
def evB (ls : List Int) (k : Nat) : Bool := decide ((k : Int) ∈ evF ls)
def rcL (ls : List Int) : Nat := if ls.sum % 2 = 0 then 0 else rowN (evB ls) ls.length
def nI (c : List Nat) : List Int := c.map fun (x : Nat) => (x : Int)
end DL
/-! DP: least pairs, counters; the greatest row. -/
namespace DL
open PySem PySem.Spec PyProof.Rows L2
/-! ### the greatest row -/
def altF (n : Nat) : List Int := (List.range (n / 2)).map fun (k : Nat) => (0 + (k : Int) * 2)
def altL (n : Nat) : List Int := rofL n (altF n)
def lnN : Nat → List Nat
  | 0 => [1]
  | m + 1 => (List.range (m + 2)).map fun p => ((lnN m).reverse.take p).sum
def bestB (m : Nat) : Bool := (lays m).all fun l => decide (rcL l < rcL (altL m)) || (decide (rcL l = rcL (altL m)) && decide (altL m ≤ l))
end DL
/-! DL: xs[::-1], xs a list (any layer). -/
namespace DL
open PySem PySem.Spec PyProof.Rows L2
section
variable {X : Cx} {o e i st a : Expr} {pos p2 : Pos} {t to ti ta tb : TDE}
/-! xs[::-1], xs a list -/
def tBackM (K : PySem.W.Frag) (te ts : TE) : TE := fun σ H Q => te σ H fun x H1 => ts σ H1 fun y H2 => y = .int (-1) ∧ ∃ a xs, x = .ref a ∧ SqL K H2 a xs ∧ ∀ p, H2 p = none → Q (.ref p) (upd H2 p (.lst xs.reverse))
def tdBackM (ta tb : TDE) : TDE := fun ρ q => ta ρ fun d ρ1 => tb ρ1 fun z ρ2 => match d, z with
  | .list ds, .int i => i = -1 ∧ q (.list ds.reverse) ρ2
  | _, _ => False
end
end DL
/-! DP: rows of coins by their first takes, from the other end; wide products. -/
namespace DL
open PySem PySem.Spec PyProof.Rows L2
section
variable {X : Cx}
end
/-! ### a row of few coins -/
/-! ### cut at a first take -/
def lfL (ls : List Int) (k : Nat) : List Int := (ls.take k).set (k - 1) (1 - (ls.take k).getD (k - 1) 0)
def rtL (ls : List Int) (k : Nat) : List Int := (ls.drop (k + 1)).set 0 (1 - (ls.drop (k + 1)).getD 0 0)
section
variable {n : Nat} {ls : List Int} {k : Nat}
/-- the ways through one first take -/
def wayN (ls : List Int) (n k : Nat) : Nat := rowN (evB ls) k * rowN (shF (evB ls) k) (n - 1 - k) * mixN k (n - 1 - k)
end
end DL
/-! DP: sums over counts; the greatest rows to nine coins; orders by falls. -/
namespace DL
open PySem PySem.Spec PyProof.Rows L2
/-! ### sums over counts -/
theorem one_in {K : List Int} (nd : K.Nodup) {x : Int} (hx : x ∈ K) (f : Int → Int) : (K.map fun k => if x = k then f k else 0).sum = f x := by
  induction K with
  | nil => cases hx
  | cons k K ih =>
    rw [List.nodup_cons] at nd
    rw [List.map_cons, List.sum_cons]
    by_cases e : x = k
    · rw [if_pos e]
      have : ∀ L : List Int, x ∉ L → (L.map fun k => if x = k then f k else 0).sum = 0 := by
        intro L
        induction L with
        | nil => intro _; rfl
        | cons y L ihL =>
          intro hL
          rw [List.map_cons, List.sum_cons, if_neg (fun z => hL (by rw [z]; exact List.mem_cons_self)), ihL fun z => hL (List.mem_cons_of_mem _ z)]
          rfl
      rw [this K (by rw [e]; exact nd.1), e]
      omega
    · rw [if_neg e, ih nd.2 ((List.mem_cons.mp hx).resolve_left e)]
      omega
theorem sum_by_cnt {K : List Int} (nd : K.Nodup) (f : Int → Int) : ∀ {ns : List Int}, (∀ x ∈ ns, x ∈ K) → (K.map fun k => f k * ((ns.count k : Nat) : Int)).sum = (ns.map f).sum
  | [], _ => by
    have : ∀ L : List Int, (L.map fun k => f k * ((([] : List Int).count k : Nat) : Int)).sum = 0 := by
      intro L
      induction L with
      | nil => rfl
      | cons y L ih => rw [List.map_cons, List.sum_cons, ih]; simp
    rw [this]; rfl
  | x :: ns, h => by
    have ih := sum_by_cnt nd f (ns := ns) fun y hy => h y (List.mem_cons_of_mem _ hy)
    have h1 := one_in nd (h x List.mem_cons_self) f
    rw [List.map_cons, List.sum_cons, ← ih, ← h1]
    clear ih h1 nd h
    induction K with
    | nil => rfl
    | cons k K ihK =>
      rw [List.map_cons, List.sum_cons, List.map_cons, List.sum_cons, List.map_cons, List.sum_cons, ihK, List.count_cons]
      by_cases e : x = k
      · subst e
        rw [if_pos rfl]
        simp only [beq_self_eq_true, if_true]
        rw [Int.natCast_add, Int.mul_add]
        have : f x * ((1 : Nat) : Int) = f x := by simp
        rw [this]
        omega
      · rw [if_neg e]
        have : (x == k) = false := by simpa using e
        rw [this]
        simp only [Bool.false_eq_true, if_false, Nat.add_zero]
        omega
theorem Tal.sums {ns : List Int} {ks ys : List (Int × Int)} (T : Tal ns ks) (p : ys.Perm ks) : (ys.map fun q => q.1 * q.2).sum = ns.sum ∧ (ys.map fun q => q.2).sum = (ns.length : Int) := by
  have h : ∀ x ∈ ns, x ∈ ks.map (·.1) := fun x hx => (T.mem x).mpr hx
  have e1 : (ks.map fun q => q.1 * q.2) = (ks.map (·.1)).map fun k => id k * ((ns.count k : Nat) : Int) := by
    rw [List.map_map]
    exact List.map_congr_left fun q hq => by show q.1 * q.2 = q.1 * _; rw [T.val q hq]
  have e2 : (ks.map fun q => q.2) = (ks.map (·.1)).map fun k => (fun _ => (1 : Int)) k * ((ns.count k : Nat) : Int) := by
    rw [List.map_map]
    exact List.map_congr_left fun q hq => by show q.2 = 1 * _; rw [T.val q hq, Int.one_mul]
  have hp : ∀ {a b : List Int}, a.Perm b → a.sum = b.sum := fun h => by
    induction h with
    | nil => rfl
    | cons x _ ih => rw [List.sum_cons, List.sum_cons, ih]
    | swap x y l => rw [List.sum_cons, List.sum_cons, List.sum_cons, List.sum_cons]; omega
    | trans _ _ h1 h2 => exact h1.trans h2
  constructor
  · rw [hp (p.map _), e1, sum_by_cnt T.nd id h, List.map_id]
  · rw [hp (p.map _), e2, sum_by_cnt T.nd _ h]
    clear e1 e2 h p T
    induction ns with
    | nil => rfl
    | cons x ns ih => rw [List.map_cons, List.sum_cons, ih, List.length_cons]; omega
theorem Tal.last {ns : List Int} {ks ys : List (Int × Int)} (T : Tal ns ks) (p : ys.Perm ks) (s : ys.Pairwise lexLe) (hn : ns ≠ []) : ∃ q : Int × Int, ys ≠ [] ∧ ys[ys.length - 1]? = some q ∧ q.1 ∈ ns ∧ ∀ k ∈ ns, k ≤ q.1 := by
  have hy : ys ≠ [] := fun z => by
    cases ns with
    | nil => exact hn rfl
    | cons x ns =>
      have := (T.mem x).mpr List.mem_cons_self
      rw [z] at p
      rw [List.nil_perm.mp p] at this
      cases this
  rcases List.eq_nil_or_concat ys with rfl | ⟨zs, q, rfl⟩
  · exact absurd rfl hy
  · rw [List.concat_eq_append] at *
    refine ⟨q, hy, by simp, (T.mem _).mp (List.mem_map.mpr ⟨q, p.mem_iff.mp (by simp), rfl⟩), fun k hk => ?_⟩
    obtain ⟨r, hr, rfl⟩ := List.mem_map.mp ((T.mem k).mpr hk)
    have hr2 := p.mem_iff.mpr hr
    rcases List.mem_append.mp hr2 with h | h
    · have := (List.pairwise_append.mp s).2.2 r h q (by simp)
      unfold lexLe at this
      omega
    · rw [List.mem_singleton.mp h]; exact Int.le_refl _
/-! ### the greatest rows to nine coins -/
def rUp (c : List Nat) : List Nat := (List.range (c.length + 1)).map fun p => (c.take p).sum
def rDn (c : List Nat) : List Nat := (List.range (c.length + 1)).map fun p => (c.drop p).sum
def okT : Nat → List Nat → Nat → Bool
  | 0, c, B => decide (c.sum ≤ B)
  | k + 1, c, B => okT k (rUp c) B && okT k (rDn c) B
/-! ### orders by falls -/
def eulN : Nat → List Nat
  | 0 => [1]
  | m + 1 => List.zipWith (· + ·) (((List.range (m + 1)).map fun f => (f + 1) * (eulN m).getD f 0) ++ [0]) (0 :: (List.range (m + 1)).map fun f => (m + 1 - f) * (eulN m).getD f 0)
def cmbL (n : Nat) : List Nat := (List.range n).map fun f => combN (n - 1) f
end DL
/-! DP: counts over all layings of a web. -/
namespace DL
open PySem PySem.Spec PyProof.Rows L2
section
variable {n : Int} {es : List Edge}
def hdC (n : Int) (es : List Edge) (k : Nat) : Nat := ((clrM es n).filter fun h => decide ((bitsOf h).length = k)).length
theorem Tal.few {cs : List Int} {ks ys : List (Int × Int)} (T : Tal cs ks) (p2 : ys.Perm ks) : ys.length ≤ cs.length ∧ ∀ q ∈ ys, 0 ≤ q.2 ∧ q.2 ≤ (cs.length : Int) := by
  refine ⟨by rw [p2.length_eq]; exact T.len, fun q hq => ?_⟩
  rw [T.val q (p2.mem_iff.mp hq)]
  have := List.count_le_length (a := q.1) (l := cs)
  omega
end
end DL
/-! DP: rings of coins. -/
namespace DL
open PySem PySem.Spec PyProof.Rows L2
/-! ### counts do not see names -/
/-! ### the ring's web -/
def ringE (n : Nat) : List Edge := (0, 1) :: (0, (n : Int) - 1) :: (pathE (n - 1)).drop 1
def okRing (n : Nat) : Bool := (ringE n).all (fun p => decide (0 ≤ p.1 ∧ p.1 < p.2 ∧ p.2 < (n : Int))) && decide ((ringE n).Pairwise fun a b => a.1 < b.1 ∨ (a.1 = b.1 ∧ a.2 < b.2)) && (List.range n).all (fun k => (List.range (n - 1)).all fun i => adj (ringE n) (k : Int) (((k + 1 + i) % n : Nat) : Int) == (decide (i = 0) || decide (i = n - 2)) && (List.range (n - 1)).all fun j => adj (ringE n) (((k + 1 + i) % n : Nat) : Int) (((k + 1 + j) % n : Nat) : Int) == adj (pathE (n - 2)) (i : Int) (j : Int))
/-- a ring opened at a head -/
def opF (n : Nat) (g : Nat → Int) (k : Nat) : List Int := (List.range (n - 1)).map fun i => if i = 0 ∨ i = n - 2 then 1 - g ((k + 1 + i) % n) else g ((k + 1 + i) % n)
def rgF (r : List Int) (i : Nat) : Int := r.getD i 0
def ringN (r : List Int) : Nat := (((List.range r.length).filter fun k => decide (rgF r k = 1)).map fun k => rcL (opF r.length (rgF r) k)).sum
end DL
/-! DP: rings turned, from the other side, opened by hand. -/
namespace DL
open PySem PySem.Spec PyProof.Rows L2
section
variable {n : Nat} {r : List Int} {k : Nat}
def bsL (r : List Int) (k : Nat) : List Int := r.drop (k + 1) ++ r.take k
end
end DL
/-! DP: the ways of a laying; a ring's laying has two ways or none. -/
namespace DL
open PySem PySem.Spec PyProof.Rows L2
section
variable {n : Int} {es : List Edge} {ls : List Int}
/-- what a ready table allows -/
def rdF (n : Int) (es : List Edge) (ls : List Int) (s p : Nat) : Bool := rdyB n es ls s p && !s.testBit p
end
/-! ### rings -/
def cntD (x : Int) : List Edge → List Bool → Nat
  | e :: es, d :: ds => (if d = true ∧ (x = e.1 ∨ x = e.2) then 1 else 0) + cntD x es ds
  | _, _ => 0
def bls : Nat → List (List Bool)
  | 0 => [[]]
  | m + 1 => (bls m).flatMap fun l => [false :: l, true :: l]
def okTwo (n : Nat) : Bool := (bls n).all fun d => !((List.range n).all fun x => decide (cntD (x : Int) (ringE n) d % 2 = 0)) || d.all id || d.all not
def okDeg (n : Nat) : Bool := (List.range n).all fun x => decide (cntD (x : Int) (ringE n) (List.replicate n true) % 2 = 0)
def okEven (n : Nat) : Bool := (lays n).all fun l => decide (ringN l % 2 = 0)
end DL
/-! DP: data that is alike by its structure. -/
namespace DL
open PySem PySem.Spec PyProof.Rows L2
def alkD : Nat → PyData → Prop
  | 0, _ => False
  | i + 1, d => flatD d ∨ ∃ xs : List PyData, (d = .tuple xs ∨ d = .list xs) ∧ xs.length < 1000 ∧ ∀ x ∈ xs, alkD i x
end DL
/-! DP: the layings that are worked out by hand. -/
namespace DL
open PySem PySem.Spec PyProof.Rows L2
def alkB : Nat → PyData → Bool
  | 0, _ => false
  | i + 1, d => match d with
    | .int _ => true
    | .none => true
    | .bool _ => true
    | .tuple xs => decide (xs.length < 1000) && xs.all (alkB i)
    | .list xs => decide (xs.length < 1000) && xs.all (alkB i)
    | _ => false
def hE : List Edge := [(0, 1), (1, 2)]
def gE : List Edge := [(0, 2)]
def rE : List Edge := [(0, 1), (0, 2), (1, 2)]
def P3 : List (List Int) := [[0, 1, 2], [0, 2, 1], [1, 0, 2], [1, 2, 0], [2, 0, 1], [2, 1, 0]]
def kvA : PyData := .list [tI [0, 2], .tuple [tI [0, 2], tI [1]], .bool true, .bool false, .tuple [.int 2, .tuple [tI [0, 1]]], tI [0]]
def kvB : PyData := .list [.tuple [.int 1, .none, .int 1], .tuple [.none, .none, .none], .none, tI [0, 1, 0], tI [1, 1, 1]]
def kvC : PyData := .list [.bool true, .int 2, .int 1, .int 0, .bool false]
def kvC2 : PyData := .list [.bool true, .int 2, .int 1, .int 0, .bool false, .list [tI [1, 0, 2], tI [1, 2, 0]]]
def kvD : PyData := .list [.int 1, .none, tI [0, 2, 1], tI [2, 0, 1]]
def kvE : PyData := .list [tI [1, 0], .int 4, .int 1, .int 4, tI [0, 0, 1], .bool false]
def kvF : PyData := .list [tI [0, 1], .none, tI [0, 2], tI [1], tI [1, 0, 0]]
def kvF2 : PyData := .list [tI [0, 1], .none, tI [0, 2], tI [1], tI [1, 0, 0], .int 2, tI [1, 2]]
def kvG : PyData := .list [.int 6, .int 3, .int 2, .int 0, .bool true, .int 2]
end DL
/-! DQ: {k: v for ..}, d.update({..}). -/
namespace DL
open PySem PySem.Spec PyProof.Rows L2
def tUpd (td te : TE) : TE := fun σ H Q => td σ H fun x H1 => ∃ a, x = V.ref a ∧ IsD H1 a ∧ te σ H1 fun y H2 => ∃ D kvs more, y = V.ref D ∧ a ≠ D ∧ H2 a = some (.dK kvs) ∧ H2 D = some (.dK more) ∧ kvs.length + more.length ≤ sizeLine ∧ Q .non (upd H2 a (.dK (mergeK kvs more)))
section
variable {X : Cx} {o e : Expr} {apos cpos : Pos} {td te : TE}
end
def wDc (g : TDG) (tt : TDT) (tk tv : TDE) (vs : List Nat) (q : List (Key × PyData) → Prop) (ρ0 : DEnv) : List PyData → List (Key × PyData) → Prop
  | [], acc => q acc
  | d :: ds, acc => g d ρ0 fun ρ1 => wipeD ρ1 vs = ρ0 ∧ tt ρ1 fun b ρ2 => ρ2 = ρ1 ∧
      if b = true then tk ρ1 fun y ρ3 => ρ3 = ρ1 ∧ tv ρ1 fun z ρ4 => ρ4 = ρ1 ∧ ∃ j : Int, y = .int j ∧ acc.length < sizeLine ∧ wDc g tt tk tv vs q ρ0 ds (putD acc (Sum.inl j) z) else wDc g tt tk tv vs q ρ0 ds acc
def tdDc (ti : TDA) (g : TDG) (tt : TDT) (tk tv : TDE) (vs : List Nat) : DEnv → (List (Key × PyData) → DEnv → Prop) → Prop := fun ρ q => ti ρ fun ds ρ1 => noOwn ρ1 vs = true ∧ wDc g tt tk tv vs (fun acc => q acc ρ1) (wipeD ρ1 vs) ds []
section
variable {X : Cx} {kx vx tg iter : Expr} {pos : Pos}
def mergeD (kvs more : List (Key × PyData)) : List (Key × PyData) := more.foldl (fun acc kv => putD acc kv.1 kv.2) kvs
theorem mergeD_rel {K : PySem.W.Frag} {H : Hp} : ∀ {mV : List (Key × V)} {m : List (Key × PyData)} {kvV : List (Key × V)} {kvs : List (Key × PyData)}, kvV.map (·.1) = kvs.map (·.1) → DpAll K H (kvV.map (·.2)) (kvs.map (·.2)) → mV.map (·.1) = m.map (·.1) → DpAll K H (mV.map (·.2)) (m.map (·.2)) →
    (mergeK kvV mV).map (·.1) = (mergeD kvs m).map (·.1) ∧ DpAll K H ((mergeK kvV mV).map (·.2)) ((mergeD kvs m).map (·.2))
  | [], [], _, _, h1, h2, _, _ => ⟨h1, h2⟩
  | [], _ :: _, _, _, _, _, e, _ => nomatch e
  | _ :: _, [], _, _, _, _, e, _ => nomatch e
  | p :: ps, r :: rs, kvV, kvs, h1, h2, e, D => by
    rw [List.map_cons, List.map_cons] at e D
    injection e with e1 e2
    cases D with
    | cons d1 d2 =>
      obtain ⟨r1, r2⟩ := putD_rel h1 h2 p.1 d1
      have := mergeD_rel r1 r2 e2 d2
      show (mergeK (putK kvV p.1 p.2) ps).map (·.1) = (mergeD (putD kvs r.1 r.2) rs).map (·.1) ∧ DpAll K H ((mergeK (putK kvV p.1 p.2) ps).map (·.2)) ((mergeD (putD kvs r.1 r.2) rs).map (·.2))
      rw [← e1]
      exact this
/-- x.update({..}) -/
def tdUpd (i : Nat) (tb : DEnv → (List (Key × PyData) → DEnv → Prop) → Prop) : TDS := fun q ρ => match ρ[i]? with
  | some (.dic _ (.K _)) => tb ρ fun more ρ1 => match ρ1[i]? with
    | some (.dic a (.K kvs)) => kvs.length + more.length ≤ sizeLine ∧ q.nx (ρ1.set i (.dic a (.K (mergeD kvs more))))
    | _ => False
  | _ => False
end
end DL
/-! list(reversed(range(n))) -/
namespace AC
open PySem PySem.Spec PyProof.Rows
section
variable {prog : Program} {w : World} {A : Around} {E : Value → Shared → Prop} {s : Shared}
variable {I : Addr} {fp wr : List Addr} {G : Array GenState → Array GenState → Prop} {n : Nat} {P : Nat → Value → Prop} {St : Nat → Shared → Prop}
end
end AC
namespace DL
open PySem PySem.Spec PyProof.Rows L2
def revV (m : Nat) : List V := (List.range m).map fun (k : Nat) => V.int ((m : Int) - 1 - (k : Int))
section
variable {X : Cx} {a : Expr} {pos : Pos} {ta : TDE}
end
end DL
/-! DQ: ways as numbers, the keys of dicts of them. -/
namespace DL
open PySem PySem.Spec PyProof.Rows L2
/-! ### keys -/
/-- the keys of a dict, each once -/
structure KeysOf (ks : List (Int × PyData)) (P : Int → Prop) : Prop where
  nd : (ks.map (·.1)).Nodup
  mem : ∀ c, c ∈ ks.map (·.1) ↔ P c
theorem KeysOf.nil : KeysOf [] fun _ => False := ⟨List.nodup_nil, fun c => by simp⟩
theorem KeysOf.congr {ks : List (Int × PyData)} {P Q : Int → Prop} (h : KeysOf ks P) (e : ∀ c, P c ↔ Q c) : KeysOf ks Q := ⟨h.nd, fun c => (h.mem c).trans (e c)⟩
theorem putD_keys (ks : List (Int × PyData)) (j : Int) (d : PyData) : (putD ks j d).map (·.1) = if j ∈ ks.map (·.1) then ks.map (·.1) else ks.map (·.1) ++ [j] := by
  unfold putD
  by_cases h : j ∈ ks.map (·.1)
  · have h' : (ks.any fun kv => decide (kv.1 = j)) = true := by
      obtain ⟨p, hp, e⟩ := List.mem_map.mp h
      exact List.any_eq_true.mpr ⟨p, hp, decide_eq_true e⟩
    rw [if_pos h', if_pos h, List.map_map]
    exact List.map_congr_left fun p hp => by
      show (if p.1 = j then (p.1, d) else p).1 = p.1
      split <;> rfl
  · have h' : ¬ (ks.any fun kv => decide (kv.1 = j)) = true := fun z => by
      obtain ⟨p, hp, e⟩ := List.any_eq_true.mp z
      exact h (List.mem_map.mpr ⟨p, hp, of_decide_eq_true e⟩)
    rw [if_neg h', if_neg h, List.map_append]; rfl
theorem KeysOf.put {ks : List (Int × PyData)} {P : Int → Prop} (h : KeysOf ks P) (j : Int) (d : PyData) : KeysOf (putD ks j d) fun c => P c ∨ c = j := by
  have e := putD_keys ks j d
  by_cases hj : j ∈ ks.map (·.1)
  · rw [if_pos hj] at e
    refine ⟨by rw [e]; exact h.nd, fun c => by rw [e, h.mem]; exact ⟨.inl, fun z => z.elim id fun z => by rw [z]; exact (h.mem j).mp hj⟩⟩
  · rw [if_neg hj] at e
    refine ⟨?_, fun c => by rw [e, List.mem_append, List.mem_singleton, h.mem]⟩
    rw [e, List.nodup_append]
    exact ⟨h.nd, by simp, fun a ha b hb => by rw [List.mem_singleton.mp hb]; exact fun z => hj (z ▸ ha)⟩
def mrgI (a b : List (Int × PyData)) : List (Int × PyData) := b.foldl (fun acc kv => putD acc kv.1 kv.2) a
theorem KeysOf.merge : ∀ {b a : List (Int × PyData)} {P : Int → Prop}, KeysOf a P → KeysOf (mrgI a b) fun c => P c ∨ c ∈ b.map (·.1)
  | [], a, P, h => h.congr fun c => by simp
  | p :: b, a, P, h => by
    have := (h.put p.1 p.2).merge (b := b)
    refine KeysOf.congr this fun c => ?_
    rw [List.map_cons, List.mem_cons, or_assoc]
theorem KeysOf.few {ks : List (Int × PyData)} {P : Int → Prop} (h : KeysOf ks P) {L : List Int} (hP : ∀ c, P c → c ∈ L) : ks.length ≤ L.length := by
  have := List.Nodup.length_le_of_subset h.nd fun c hc => hP c ((h.mem c).mp hc)
  rwa [List.length_map] at this
/-! ### ways as numbers -/
def encA {α : Type} (f : α → Int) (es : List α) (a : Nat) : Nat := es.foldl (fun b e => 2 * b + (f e).toNat) a
/-- a way as a number -/
def encL (w : List Int) : Nat := encA id w 0
/-! ### the table of the ways from a state on -/
section
variable {n : Int} {es : List Edge} {F : Nat → Nat → Bool}
/-- what the take of a place turns -/
def tbE (s p : Nat) (e : Edge) : Int := if e.2 = (p : Int) ∧ s.testBit e.1.toNat = false then 1 else 0
def WayK (n : Int) (es : List Edge) (F : Nat → Nat → Bool) (s : Nat) (c : Int) : Prop := ∃ w ∈ waysS n es F s, c = (encL w : Nat)
end
section
variable {X : Cx} {a : Expr} {pos : Pos} {ta : TDE}
/-- not e, e an int -/
def tdNotI (ta : TDE) : TDE := fun ρ q => ta ρ fun x ρ1 => match x with
  | .int i => q (.bool (decide (i = 0))) ρ1
  | _ => False
end
end DL
/-! DP: stars, and a row with one place more. -/
namespace DL
open PySem PySem.Spec PyProof.Rows L2
/-! ### stars -/
def strE (m : Nat) : List Edge := (List.range m).map fun (k : Nat) => ((0 : Int), (k : Int) + 1)
def stC (a j : Nat) : List Nat := (List.range (j + 1)).map fun t => if t = a then facN a * facN (j - a) else 0
/-- how many of the first ways are turned -/
def onN (ws : List Int) (j : Nat) : Nat := ((List.range j).filter fun k => decide (ws.getD k 0 ≠ 0)).length
/-! ### one place more -/
end DL
/-! DQ: ranks, first and last takes, early and late times in forests. -/
namespace DL
open PySem PySem.Spec PyProof.Rows L2
section
variable {n : Int} {es : List Edge} {ls : List Int} {Z : List (Edge × Int)}
end
/-! ### a op1 b op2 c op3 d -/
section
variable {X : Cx} {a b c d : Expr} {pos : Pos}
def tChain3 (r r' r'' : R2) (ta tb tc td : TE) : TE := fun σ H Q => ta σ H fun x H1 => tb σ H1 fun y H2 => r x y H2 fun z H3 => ∃ k, z = V.bl k ∧
  (if k = true then tc σ H3 fun w H4 => r' y w H4 fun z' H5 => ∃ k', z' = V.bl k' ∧ (if k' = true then td σ H5 fun u H6 => r'' w u H6 Q else Q (.bl false) H5) else Q (.bl false) H3)
def tdChain3 (rd rd' rd'' : RD2) (ta tb tc td : TDE) : TDE := fun ρ q => ta ρ fun x ρ1 => tb ρ1 fun y ρ2 => rd x y fun z => match z with
  | .bool k => if k = true then tc ρ2 fun w ρ3 => rd' y w fun z' => (match z' with
    | .bool k' => if k' = true then td ρ3 fun u ρ4 => rd'' w u fun z'' => q z'' ρ4 else q (.bool false) ρ3
    | _ => False) else q (.bool false) ρ2
  | _ => False
end
end DL
/-! DQ: max(t), t a tuple of ints. -/
namespace DL
open PySem PySem.Spec PyProof.Rows L2
def rMaxT (K : PySem.W.Frag) : List V → Hp → VK → Prop := fun vs H Q => ∃ (a : Addr) (ns : List Int), vs = [V.ref a] ∧ SqT K H a (ns.map V.int) ∧ 0 < ns.length ∧ ∀ m, m ∈ ns → (∀ y, y ∈ ns → y ≤ m) → Q (.int m) H
section
variable {X : Cx}
end
end DL
namespace DL
open PySem PySem.Spec PyProof.Rows L2
section
variable {n : Int} {es : List Edge} {ls : List Int} {Z : List (Edge × Int)}
end
end DL
/-! DQ: signs of groups by any table of masks; sets of places of which none must stand ahead of another. -/
namespace DL
open PySem PySem.Spec PyProof.Rows L2
structure SgM (ms : List Nat) (sg : List Int) : Prop where
  zero : sg[0]? = some (-1)
  eq : ∀ g, 0 < g → g < sg.length → ∃ k, LowB g k ∧ k < ms.length ∧ (ms.getD k 0 &&& (g ^^^ 2 ^ k) ≠ 0 → sg.getD g 0 = 0) ∧ (ms.getD k 0 &&& (g ^^^ 2 ^ k) = 0 → sg.getD g 0 = - sg.getD (g ^^^ 2 ^ k) 0)
theorem SgM.start (ms : List Nat) : SgM ms [-1] := ⟨rfl, fun g h1 h2 => by simp at h2; omega⟩
theorem SgM.step {ms : List Nat} {sg : List Int} {k : Nat} {v : Int} (S : SgM ms sg) (L : LowB sg.length k) (hk : k < ms.length) (h1 : ms.getD k 0 &&& (sg.length ^^^ 2 ^ k) ≠ 0 → v = 0) (h2 : ms.getD k 0 &&& (sg.length ^^^ 2 ^ k) = 0 → v = - sg.getD (sg.length ^^^ 2 ^ k) 0) : SgM ms (sg ++ [v]) := by
  have l0 : 0 < sg.length := by
    have := S.zero
    rcases Nat.eq_zero_or_pos sg.length with z | z
    · rw [List.getElem?_eq_none (by omega)] at this; cases this
    · exact z
  refine ⟨by rw [List.getElem?_append_left l0]; exact S.zero, fun g g1 g2 => ?_⟩
  rw [List.length_append, List.length_singleton] at g2
  have old : ∀ j, j < sg.length → (sg ++ [v]).getD j 0 = sg.getD j 0 := fun j hj => by rw [List.getD_eq_getElem?_getD, List.getElem?_append_left hj, List.getD_eq_getElem?_getD]
  by_cases q : g < sg.length
  · obtain ⟨k', a, a2, b, c⟩ := S.eq g g1 q
    refine ⟨k', a, a2, fun z => by rw [old g q]; exact b z, fun z => ?_⟩
    rw [old g q, old _ (Nat.lt_trans (xor_lt a.1) q)]
    exact c z
  · have e : g = sg.length := by omega
    subst e
    have new : (sg ++ [v]).getD sg.length 0 = v := by rw [List.getD_eq_getElem?_getD, List.getElem?_append_right (Nat.le_refl _), Nat.sub_self]; rfl
    refine ⟨k, L, hk, fun z => by rw [new]; exact h1 z, fun z => ?_⟩
    rw [new, old _ (xor_lt L.1)]
    exact h2 z
/-- no two of a set are bound -/
def IndG (R : Nat → Nat → Prop) (g : Nat) : Prop := ∀ a b : Nat, g.testBit a = true → g.testBit b = true → a ≠ b → ¬ R a b
def BndR (Z : List (Edge × Int)) (a b : Nat) : Prop := PathW Z (a : Int) (b : Int) ∨ PathW Z (b : Int) (a : Int)
end DL
/-! DQ: the ways that are worked out by hand. -/
namespace DL
open PySem PySem.Spec PyProof.Rows L2
/-- the ways of a laying of three places, to be counted -/
def wv3 (es : List Edge) (ls : List Int) : List (List Int) := (lays es.length).filter fun w => decide (w ∈ (P3.filter fun ks => decide (layOf 3 es ks = ls)).map fun ks => es.map (wvE ks))
def zA : List (Edge × Int) := hE.zip [0, 0]
def zB : List (Edge × Int) := hE.zip [0, 1]
def kwA : PyData := .list [.bool true, .bool false, .int 2, .int 0, tI [0, 1, 2], .none]
def kwB : PyData := .list [tI [1, 0], .int 1, .list [tI [0, 0, 1], tI [1, 1, 0]], .int 3, .int 0, .list []]
def kwC : PyData := .list [.bool true, .bool false, .int 2, .int 1, .int 2, .int 2, .int 1, .int 4]
end DL
/-! DQ: a, d = {}, {}, both dicts with tuples as keys. -/
namespace DL
open PySem PySem.Spec PyProof.Rows L2
section
variable {X : Cx} {pos : Pos}
def tdParDD (i j : Nat) : TDS := fun q ρ => ∀ l m, l ∉ owns ρ → m ∉ owns ρ → l ≠ m → q.nx ((ρ.set j (.dic m (.T []))).set i (.dic l (.T [])))
/-- len(d), d a dict of this def's own, its keys tuples -/
def tdLenO (i : Nat) : TDE := fun ρ q => match ρ[i]? with
  | some (.dic _ (.T kvs)) => q (.int kvs.length) ρ
  | _ => False
end
end DL
/-! DQ: min(d.keys()). -/
namespace DL
open PySem PySem.Spec PyProof.Rows PySem.W L2
section
variable {X : Cx}
def rMinView (K : PySem.W.Frag) (u : Nat) : List V → Hp → VK → Prop := fun vs H Q => ∃ (p a : Addr), vs = [.ref p] ∧ H p = some (keysO p a) ∧ IsD H a ∧ ∀ xs, KeysAre H a xs → ∃ (y : PyData) (ys : List PyData), L2.DpAll K H xs (y :: ys) ∧ PySem.W.AlikeAll (y :: ys) ∧ u + 1 + PyData.depthAll (y :: ys) < cLine ∧
  ∀ (j : Nat) (x : V), xs[j]? = some x → (y :: ys)[j]? = some (PySem.W.minD y ys) → Q x H
end
section
variable {X : Cx} {pos : Pos}
end
end DL
/-! DQ: the keys of a dict, whatever they are; what a dict holds. -/
namespace DL
open PySem PySem.Spec PyProof.Rows L2
section
variable {κ : Type} [DecidableEq κ]
structure KeysG (ks : List (κ × PyData)) (P : κ → Prop) : Prop where
  nd : (ks.map (·.1)).Nodup
  mem : ∀ c, c ∈ ks.map (·.1) ↔ P c
theorem KeysG.nil : KeysG ([] : List (κ × PyData)) fun _ => False := ⟨List.nodup_nil, fun c => by simp⟩
theorem KeysG.congr {ks : List (κ × PyData)} {P Q : κ → Prop} (h : KeysG ks P) (e : ∀ c, P c ↔ Q c) : KeysG ks Q := ⟨h.nd, fun c => (h.mem c).trans (e c)⟩
theorem putD_keysG (ks : List (κ × PyData)) (j : κ) (d : PyData) : (putD ks j d).map (·.1) = if j ∈ ks.map (·.1) then ks.map (·.1) else ks.map (·.1) ++ [j] := by
  unfold putD
  by_cases h : j ∈ ks.map (·.1)
  · have h' : (ks.any fun kv => decide (kv.1 = j)) = true := by
      obtain ⟨p, hp, e⟩ := List.mem_map.mp h
      exact List.any_eq_true.mpr ⟨p, hp, decide_eq_true e⟩
    rw [if_pos h', if_pos h, List.map_map]
    exact List.map_congr_left fun p hp => by
      show (if p.1 = j then (p.1, d) else p).1 = p.1
      split <;> rfl
  · have h' : ¬ (ks.any fun kv => decide (kv.1 = j)) = true := fun z => by
      obtain ⟨p, hp, e⟩ := List.any_eq_true.mp z
      exact h (List.mem_map.mpr ⟨p, hp, of_decide_eq_true e⟩)
    rw [if_neg h', if_neg h, List.map_append]; rfl
theorem KeysG.put {ks : List (κ × PyData)} {P : κ → Prop} (h : KeysG ks P) (j : κ) (d : PyData) : KeysG (putD ks j d) fun c => P c ∨ c = j := by
  have e := putD_keysG ks j d
  by_cases hj : j ∈ ks.map (·.1)
  · rw [if_pos hj] at e
    refine ⟨by rw [e]; exact h.nd, fun c => by rw [e, h.mem]; exact ⟨.inl, fun z => z.elim id fun z => by rw [z]; exact (h.mem j).mp hj⟩⟩
  · rw [if_neg hj] at e
    refine ⟨?_, fun c => by rw [e, List.mem_append, List.mem_singleton, h.mem]⟩
    rw [e, List.nodup_append]
    exact ⟨h.nd, by simp, fun a ha b hb => by rw [List.mem_singleton.mp hb]; exact fun z => hj (z ▸ ha)⟩
end
end DL
/-! DQ: the orders of a laying by their ways; sorted lists of tuples are one. -/
namespace DL
open PySem PySem.Spec PyProof.Rows L2
section
variable {n : Int} {es : List Edge} {ls ks ws : List Int}
end
end DL
/-! DQ: sorted(d.values()), the values ints. -/
namespace DL
open PySem PySem.Spec PyProof.Rows PySem.W L2
/-- the values as they stand -/
def ValsAre (H : Hp) (a : Addr) (xs : List V) : Prop := (∃ kvV : List (Key × V), Rd H a (.dK kvV) ∧ xs = kvV.map (·.2)) ∨ ∃ kvV : List (List Key × V), Rd H a (.dT kvV) ∧ xs = kvV.map (·.2)
section
variable {X : Cx} {pins : List (Addr × Obj)} {σ : L2.St} {H : Hp} {s : Shared}
end
section
variable {X : Cx} {o : Expr} {p pos apos mpos : Pos} {td : TE} {ta : TDE}
def tSortVals (td : TE) : TE := fun σ H Q => td σ H fun x H1 => ∃ a, x = V.ref a ∧ IsD H1 a ∧ ∀ xs, ValsAre H1 a xs → ∃ is : List Int, xs = is.map V.int ∧ ∀ (js : List Int) (l : Addr), js.Perm is → js.Pairwise (· ≤ ·) → H1 l = none → Q (.ref l) (upd H1 l (.lst (js.map V.int)))
end
end DL
/-! DQ: the orders of one way among those of a laying; what a dict holds at its keys. -/
namespace DL
open PySem PySem.Spec PyProof.Rows L2
def fibN (es : List Edge) (L : List (List Int)) (w : List Int) : Nat := (L.filter fun o => decide (es.map (wvE o) = w)).length
section
variable {n : Int} {es : List Edge} {ls ks : List Int}
end
end DL
/-! DR: sorted(xs), xs a list of tuples of ints of any lengths: () may stand anywhere. -/
namespace DL
open PySem PySem.Spec PyProof.Rows L2
section
variable {prog : Program} {w : World} {A : Around} {E : Value → Shared → Prop} {s : Shared}
theorem firsts_told : ∀ (vs : List Value) (ts : List (List Int)), PySem.W.EachIs (fun v d => ∃ as, Reads s.heap v d as) vs (ts.map tI) → ∀ {Q : List (Option Value) → Shared → Prop}, (∀ fs : List (Option Value), fs.length = vs.length → (∀ (i : Nat) (t : List Int), ts[i]? = some t → (t = [] ↔ fs[i]? = some none)) → Q fs s) → wpAny (model prog w) A (vs.mapM firstOfTuple') Q E s
  | [], ts, e, Q, h => by
    rw [List.mapM_nil]
    refine wpAny_pure (h [] rfl fun i t ht => ?_)
    cases ts with
    | nil => cases ht
    | cons _ _ => cases e
  | v :: vs, [], e, _, _ => by cases e
  | v :: vs, t :: ts, e, Q, h => by
    cases e with
    | @cons _ d _ ds r tl =>
      obtain ⟨as, r⟩ := r
      cases r with
      | @tuple a o its n _ _ ho hc hd hr =>
        rw [List.mapM_cons]
        refine wpAny_bind ?_
        rw [PySem.W.kas_first_eq]
        refine wpAny_bind (PySem.W.Looks.here (show PySem.W.Looks (model prog w) s.heap (typeOf (.ref a)) o.cls from (PySem.W.Looks.ld ho).andThen .now) ?_)
        rw [hc, if_neg (by first | decide | simp)]
        refine wpAny_bind (listItems_at ho hd (wpAny_pure ?_))
        have hz : its.size = t.length := by
          have := SeqAt.ReadsAll.length _ _ _ hr
          simpa using this
        refine wpAny_bind (firsts_told vs ts tl (Q := fun bs s' => wpAny (model prog w) A (pure (_ :: bs)) Q E s') fun fs hf hg => wpAny_pure (h _ (by simp [hf]) fun i x hx => ?_))
        cases i with
        | zero =>
          have : t = x := by simpa using hx
          subst this
          simp only [List.getElem?_cons_zero, Option.some.injEq, Array.getElem?_eq_none_iff]
          rw [hz]
          cases t with
          | nil => simp
          | cons _ _ => simp
        | succ i =>
          have : ts[i]? = some x := by simpa using hx
          simpa using hg i x this
theorem kind_later {vs : List Value} {t0 : List Int} {r : List (List Int)} {Q : SortKind → Shared → Prop} (e : PySem.W.EachIs (fun v d => ∃ as, Reads s.heap v d as) vs ((t0 :: r).map tI)) (h0 : t0 ≠ []) (hr : [] ∈ r) (h : Q general' s) : wpAny (model prog w) A (keyKind' vs.toArray) Q E s := by
  have hlen := e.length
  rw [keyKind'_eq, List.mapM_toArray, map_eq_pure_bind]
  refine wpAny_bind (wpAny_bind (firsts_told vs _ e fun fs hf hg => wpAny_pure ?_))
  have z0 : ¬ fs[0]? = some none := fun z => h0 ((hg 0 t0 rfl).mpr z)
  obtain ⟨i, hi⟩ := List.mem_iff_getElem?.mp hr
  have zi : fs[i + 1]? = some none := (hg (i + 1) [] (by simpa using hi)).mp rfl
  have hl0 : 0 < fs.length := by
    rw [hf, hlen]; simp
  have na : ¬ (fs.toArray.all (·.isSome)) = true := by
    intro z
    rw [List.all_toArray, List.all_eq_true] at z
    have := z _ (List.mem_of_getElem? zi)
    cases this
  have hs0 : (fs.toArray[0]?.bind id).isSome = true := by
    rw [List.getElem?_toArray]
    rw [List.getElem?_eq_getElem hl0] at z0 ⊢
    cases hq : fs[0] with
    | none => rw [hq] at z0; exact absurd rfl z0
    | some _ => rfl
  rw [if_neg na]
  simp only [hs0, if_true]
  exact wpAny_pure h
end
theorem sorts_tups {prog : Program} {w : World} {A : Around} {s : Shared} {vs : List Value} {ts : List (List Int)} (e : PySem.W.EachIs (fun v d => ∃ as, Reads s.heap v d as) vs (ts.map tI)) (hu : A.units + 1 < cLine) : PySem.W.SortsAt prog w A s (PySem.W.dataKind s.heap (ts.map tI)) vs := by
  have hal : PySem.W.AllAlike (ts.map tI) := PySem.W.AllAlike.of tI_alike
  have hd : ∀ d, d ∈ ts.map tI → A.units + d.depth < cLine := fun d hd => by
    obtain ⟨t, _, rfl⟩ := List.mem_map.mp hd
    rw [tI_depth]; exact hu
  have hn : ∀ d ∈ ts.map tI, d ≠ .none := fun d hd => by
    obtain ⟨t, ht, rfl⟩ := List.mem_map.mp hd
    exact fun z => nomatch z
  by_cases h0 : [] ∈ ts
  · cases ts with
    | nil => cases h0
    | cons t0 r =>
      by_cases h1 : t0 = []
      · subst h1
        refine sorts_data e hal (.inr ⟨.inr ⟨r.map tI, rfl, fun d hd => ?_⟩, hn⟩) hd
        obtain ⟨t, _, rfl⟩ := List.mem_map.mp hd
        exact ⟨_, rfl⟩
      · have hr : [] ∈ r := by
          rcases List.mem_cons.mp h0 with z | z
          · exact absurd z.symm h1
          · exact z
        refine ⟨fun v hv => ?_, general', fun E x y a b Q ha hb hq => ?_, fun h2 E Q hq => kind_later e h1 hr hq⟩
        · obtain ⟨d, hd, as, r⟩ := e.left v hv
          exact ⟨_, PySem.W.dataKind_some hal hd r⟩
        · obtain ⟨d, as, hd0, ra, rfl⟩ := PySem.W.dataKind_inv ha
          obtain ⟨d', as', hd', rb, rfl⟩ := PySem.W.dataKind_inv hb
          show wpAny _ _ (oneLt' false x y) _ _ _
          exact PySem.W.oneLt_alike (fun z => nomatch z) ra rb (hal d hd0 d' hd') (hn d hd0) (Nat.lt_of_le_of_lt (Nat.add_le_add_left (Nat.min_le_left _ _) _) (hd d hd0)) hq
  · refine sorts_data e hal (.inl (.inl fun d hd => ?_)) hd
    obtain ⟨t, ht, rfl⟩ := List.mem_map.mp hd
    cases t with
    | nil => exact absurd ht h0
    | cons x r => exact ⟨_, _, rfl⟩
def rSortTupsN (K : PySem.W.Frag) (u : Nat) : List V → Hp → VK → Prop := fun vs H Q => ∃ (a : Addr) (xs : List V) (ts : List (List Int)), vs = [V.ref a] ∧ SqL K H a xs ∧ L2.DpAll K H xs (ts.map tI) ∧ u + 3 < cLine ∧
  ∀ (zs : List (V × PyData)) (l : Addr), zs = (xs.zip (ts.map tI)).mergeSort (PySem.W.dataLe false (·.2)) → H l = none → Q (.ref l) (upd H l (.lst (zs.map (·.1))))
section
variable {X : Cx}
theorem cr_sortTupsN : CallR X (.builtin "sorted") (rSortTupsN X.K X.A.units) := by
  intro pins s σ H vs us Q I r h
  obtain ⟨a, xs, ts, rfl, hs0, D, hu, q⟩ := h
  have hal : PySem.W.AllAlike (ts.map tI) := PySem.W.AllAlike.of tI_alike
  obtain ⟨items, vals, isL, szL⟩ := I.list hs0
  rw [Vals.ref1 r]
  obtain ⟨as, rds⟩ := Dp.readsAll I (ts.map tI) xs items D vals
  have ez := each_zip vals rds
  have hlen : xs.length = (ts.map tI).length := vals.length.trans (SeqAt.ReadsAll.length (ts.map tI) items as rds)
  have hmap : (xs.zip (ts.map tI)).map (·.2) = ts.map tI := List.map_snd_zip (by omega)
  have ils : items.length = xs.length := vals.length.symm
  have eR : PySem.W.EachIs (fun v (b : V × PyData) => RelV b.1 v) items (xs.zip (ts.map tI)) := ez.mono fun _ _ z => z.1
  have er : PySem.W.EachIs (fun v (b : V × PyData) => ∃ as, Reads (PySem.W.sortingHeap (PySem.W.copyHeap s.heap items) (s.heap.objs.size + 1) items) v b.2 as) items (xs.zip (ts.map tI)) := ez.mono fun _ _ ⟨_, as, r⟩ => ⟨as, PyProof.Rows.Reads.keeps (fun _ _ => PySem.W.sorting_copy_old) r⟩
  have erd := PySem.W.each_map (R := fun v d => ∃ as, Reads (PySem.W.sortingHeap (PySem.W.copyHeap s.heap items) (s.heap.objs.size + 1) items) v d as) (fun (b : V × PyData) => b.2) er
  rw [hmap] at erd
  have S := sorts_tups (prog := X.prog) (w := X.w) (A := X.A.in1.in1) (s := { s with heap := PySem.W.sortingHeap (PySem.W.copyHeap s.heap items) (s.heap.objs.size + 1) items }) erd hu
  refine PySem.W.sorted_vals isL.isList S (by rw [ils]; exact szL) ?_
  have so := PySem.W.sortVals_data (R := fun v (b : V × PyData) => RelV b.1 v) (enc := fun (b : V × PyData) => b.2) false eR er (by rw [hmap]; exact hal)
  rw [hmap] at so
  obtain ⟨ep, he⟩ := PyProof.Rows.sortedAll_at s.heap items (PySem.W.sortVals (PySem.W.dataKind (PySem.W.sortingHeap (PySem.W.copyHeap s.heap items) (s.heap.objs.size + 1) items) (ts.map tI)) false items items).toArray
  have vo := each_vals so
  have zl : ((xs.zip (ts.map tI)).mergeSort (PySem.W.dataLe false (·.2))).length = xs.length := by rw [(List.mergeSort_perm _ _).length_eq, List.length_zip, hlen, Nat.min_self]
  refine ⟨.ref (s.heap.objs.size + 1), upd H (s.heap.objs.size + 1) (.lst (((xs.zip (ts.map tI)).mergeSort (PySem.W.dataLe false (·.2))).map (·.1))), I.laid (t' := s.toks) (fun _ _ => PyProof.Rows.sortedAll_old) (Nat.le_succ _) ⟨by rw [List.length_map, zl]; exact szL, _, ep, vo, he⟩, rfl, q _ _ rfl (I.hok.fresh (Nat.le_succ _))⟩
theorem lf_sortTupsN (hu : X.A.units + 3 < cLine) : LF X (rSortTupsN X.K X.A.units) (fun d q => ∃ ts : List (List Int), d = .list (ts.map tI) ∧ ∀ ts' : List (List Int), ts'.Perm ts → ts'.Pairwise (fun x y => x ≤ y) → q (ts'.map tI)) := by
  intro C σ ρ H v d qd Q E B w k
  obtain ⟨ts, rfl, w⟩ := w
  obtain ⟨a, vs, rfl, s, D⟩ := B.list
  refine ⟨a, vs, ts, rfl, s, DpAll.old (plainTs ts) (DpAll.le hide_Le D), hu, fun zs l hz hp => ?_⟩
  obtain ⟨o1, o2, o3⟩ := sort_out D hz
  obtain ⟨ts', e1, e2⟩ := tI_perm o2
  refine k l _ _ hp (by rw [e1] at o1; exact o1) (w ts' e2 ?_)
  rw [e1, List.pairwise_map] at o3
  exact o3.imp fun {x y} h => by rw [tI_le] at h; exact of_decide_eq_true h
end
end DL
/-! DR: x.update(d), d a dict as data. -/
namespace DL
open PySem PySem.Spec PyProof.Rows L2
def tUpdR (td te : TE) : TE := fun σ H Q => td σ H fun x H1 => ∃ a, x = V.ref a ∧ IsD H1 a ∧ te σ H1 fun y H2 => ∃ D kvs more, y = V.ref D ∧ a ≠ D ∧ H2 a = some (.dK kvs) ∧ Rd H2 D (.dK more) ∧ kvs.length + more.length ≤ sizeLine ∧ Q .non (upd H2 a (.dK (mergeK kvs more)))
section
variable {X : Cx} {o e : Expr} {apos cpos : Pos} {td te : TE}
theorem pe_updR (ho : PE X o td) (he : PE X e te) (m : M1 X o "update" apos e cpos) : PE X (.Call (.Attribute o "update" apos) [e] [] cpos) (tUpdR td te) := by
  refine ⟨fun pins s σ H Q I h => ?_⟩
  refine wpAny_Call_method m.base m.few m.line PySem.F.plainAttrs_dict PySem.F.slot_dict_update PySem.F.type_dict_update (thn (ho.run pins s σ H _ I h) fun u s1 ⟨x, H1, I1, rx, a, ex, d, q1⟩ => ?_)
  subst ex
  obtain rfl : u = Value.ref a := rx
  obtain ⟨t1, t2, _⟩ := isD_at I1 d
  refine ⟨t1, t2, ?_⟩
  rw [m.trees]
  refine Calls.callWith_builtin rfl (Calls.evalArgs_plain (Calls.spliced_cons (thn (he.run pins s1 σ H1 _ I1 q1) fun iv s2 ⟨y, H2, I2, ry, D, kvs, more, ey, hne, ea, eD, l, q2⟩ => Calls.spliced_nil ?_)))
  subst ey
  obtain rfl : iv = Value.ref D := ry
  obtain ⟨z1, hd1, vs, rel1, dd1⟩ := dk_of I2.hok ea
  obtain ⟨z2, hd2, ws, rel2, dd2⟩ := dk_rd I2.hok eD
  have hl := length_mergeK more kvs
  refine call_meetsIn PySem.F.slot_dict_update dd1.typeIs PySem.F.entry_dict_update (PySem.F.args_dict_update_2 _ _) (meets_dict_update (mixKind X.prog X.w) a D hne hd2) ⟨vs, ws, dd1, dd2, by rw [← KV.length rel1, ← KV.length rel2]; exact l, fun h' m1 m2 hs => ?_⟩
  obtain ⟨ob, _, _, hob, _⟩ := id m1
  exact ⟨.non, _, d_write (t' := s2.toks) I2 (by rw [ea]; exact True.intro) hs ⟨ob, hob⟩ (dk_new (by omega) hd1 (KV.merge rel2 rel1) m1), rfl, q2⟩
end
/-- x.update(d) -/
def tdUpdF (i : Nat) (t : TDE) : TDS := fun q ρ => match ρ[i]? with
  | some (.dic _ (.K _)) => t ρ fun d ρ1 => match ρ1[i]? with
    | some (.dic a (.K kvs)) => ∃ ks : List (Int × PyData), d = dK ks ∧ kvs.length + ks.length ≤ sizeLine ∧ q.nx (ρ1.set i (.dic a (.K (mergeD kvs (KI ks)))))
    | _ => False
  | _ => False
section
variable {X : Cx} {o e : Expr} {apos cpos pos : Pos}
theorem ds_updF (i : Nat) {x : Str} {px apos cpos : Pos} {e : Expr} {t : TDE} (hb : DE X e t) (m : M1 X (.Name x px) "update" apos e cpos) (hN : X.N[i]? = some x := by rfl) (hv : Vis X.env.scope x := by first | exact Or.inl rfl | exact Or.inr (Or.inl rfl) | exact Or.inr (Or.inr rfl)) (hd : (x == ("__debug__" : Str)) = false := by decide) (hcd : (x == ("__classdict__" : Str)) = false := by decide)
    (hs' : swapsWith (.Call (.Attribute (.Name x px) "update" apos) [e] [] cpos) none pos.line X.env = pure false := by rfl) :
    DS X (.Expr (.Call (.Attribute (.Name x px) "update" apos) [e] [] cpos) pos) (tdUpdF i t) := by
  obtain ⟨pb, hb, qb⟩ := hb.ex
  refine ⟨_, ps_expr (pe_updR (pe_var hN hv hd hcd) hb m) hs', fun C σ H ρ q Q E h k => ?_⟩
  unfold tdUpdF at h
  split at h
  · rename_i a0 c0 e0
    obtain ⟨hw, kv0, e3, _, _⟩ := E.dic_at e0
    refine ⟨_, hw, a0, rfl, .inl ⟨_, .inl e3⟩, qb C σ H ρ _ _ E h fun v H1 d ρ1 E1 s1 D1 h1 => ?_⟩
    split at h1
    · rename_i a kvs e1
      obtain ⟨e2, kvV2, e4, e5, e6⟩ := E1.dic_at e1
      rw [hw] at e2
      cases e2
      obtain ⟨ks, rfl, hl, h1⟩ := h1
      obtain ⟨D, od, kvV, rfl, g1, g2, g3⟩ := Dp.dK_of D1
      have l1 : kvV2.length = kvs.length := by have := congrArg List.length e5; simpa using this
      have l2 : kvV.length = ks.length := by have := congrArg List.length g2; simpa using this
      have g2' : kvV.map (·.1) = (KI ks).map (·.1) := by rw [g2]; show _ = (ks.map fun p => (Sum.inl p.1, p.2)).map (·.1); rw [List.map_map]; rfl
      have g3' : DpAll X.K (hide (hs C ρ1) H1) (kvV.map (·.2)) ((KI ks).map (·.2)) := by
        show DpAll _ _ _ ((ks.map fun p => ((Sum.inl p.1 : Key), p.2)).map (·.2))
        rw [List.map_map]; exact g3
      obtain ⟨r1, r2⟩ := mergeD_rel e5 e6 g2' g3'
      obtain ⟨E4, s4⟩ := E1.wrX (o := .dK (mergeK kvV2 kvV)) (y := .dic a0 (.K (mergeD kvs (KI ks)))) e1 rfl rfl fun w s => by
        cases w with
        | none => cases s
        | some w => obtain ⟨z1, _, z3⟩ := s; exact ⟨z1, ⟨_, upd_same, r1, r2⟩, z3⟩
      refine ⟨D, kvV2, kvV, rfl, fun z => ?_, e4, .inr ⟨od, (hide_some g1).2⟩, by omega, ?_⟩
      · subst z
        have := (hide_some g1).2
        rw [e4] at this
        cases this
      · exact k.nx σ _ _ E4 (s1.trans s4) h1
    · exact h1.elim
  · exact h.elim
end
end DL
/-! DR: how many steps lie between two states, level by level; coins taken and put back. -/
namespace DL
open PySem PySem.Spec PyProof.Rows L2
def WlkR (R : Nat → Nat → Prop) : Nat → Nat → Nat → Prop
  | 0, a, b => a = b
  | k + 1, a, b => ∃ c, WlkR R k a c ∧ R c b
def DstR (R : Nat → Nat → Prop) (a k b : Nat) : Prop := WlkR R k a b ∧ ∀ j, j < k → ¬ WlkR R j a b
def Jn (R : Nat → Nat → Prop) (a b : Nat) : Prop := ∃ k, WlkR R k a b
section
variable {R : Nat → Nat → Prop} {a b c t k : Nat}
theorem DstR.uniq {k j : Nat} (h : DstR R a k b) (h' : DstR R a j b) : k = j := by
  rcases Nat.lt_trichotomy k j with z | z | z
  · exact absurd h.1 (h'.2 k z)
  · exact z
  · exact absurd h'.1 (h.2 j z)
theorem wlk_dst : ∀ k, WlkR R k a b → ∃ j, j ≤ k ∧ DstR R a j b := by
  intro k
  induction k using Nat.strongRecOn with
  | _ k ih =>
    intro h
    rcases Classical.em (∃ j, j < k ∧ WlkR R j a b) with ⟨j, hj, w⟩ | z
    · obtain ⟨i, hi, d⟩ := ih j hj w
      exact ⟨i, by omega, d⟩
    · exact ⟨k, Nat.le_refl _, h, fun j hj w => z ⟨j, hj, w⟩⟩
theorem dst_nxt (h : DstR R a k c) (r : R c b) : ∃ j, j ≤ k + 1 ∧ DstR R a j b := wlk_dst (k + 1) ⟨c, h.1, r⟩
theorem dst_pre (h : DstR R a (k + 1) b) : ∃ c, DstR R a k c ∧ R c b := by
  obtain ⟨c, w, r⟩ := h.1
  refine ⟨c, ⟨w, fun j hj w' => ?_⟩, r⟩
  exact h.2 (j + 1) (by omega) ⟨c, w', r⟩
theorem dst_zero : DstR R a 0 b ↔ a = b := ⟨fun h => h.1, fun h => ⟨h, fun j hj => absurd hj (Nat.not_lt_zero _)⟩⟩
theorem jn_dst : Jn R a b ↔ ∃ k, DstR R a k b := ⟨fun ⟨k, w⟩ => let ⟨j, _, d⟩ := wlk_dst k w; ⟨j, d⟩, fun ⟨k, d⟩ => ⟨k, d.1⟩⟩
theorem jn_rfl : Jn R a a := ⟨0, rfl⟩
theorem jn_step (h : Jn R a b) (r : R b c) : Jn R a c := let ⟨k, w⟩ := h; ⟨k + 1, b, w, r⟩
theorem wlk_trans : ∀ j {c : Nat}, WlkR R k a b → WlkR R j b c → WlkR R (k + j) a c
  | 0, c, w, e => by
    have : b = c := e
    subst this; exact w
  | j + 1, c, w, ⟨d, w', r⟩ => ⟨d, wlk_trans j w w', r⟩
theorem jn_trans (h : Jn R a b) (h' : Jn R b c) : Jn R a c := let ⟨k, w⟩ := h; let ⟨j, w'⟩ := h'; ⟨k + j, wlk_trans j w w'⟩
theorem wlk_front (r : R a b) : ∀ j {c : Nat}, WlkR R j b c → WlkR R (j + 1) a c
  | 0, c, e => ⟨a, rfl, by
    have : b = c := e
    rwa [← this]⟩
  | j + 1, c, ⟨d, w, r'⟩ => ⟨d, wlk_front r j w, r'⟩
theorem wlk_symm (hs : ∀ x y, R x y → R y x) : ∀ k {a b : Nat}, WlkR R k a b → WlkR R k b a
  | 0, a, b, e => (show a = b from e).symm
  | k + 1, a, b, ⟨c, w, r⟩ => wlk_front (hs _ _ r) k (wlk_symm hs k w)
theorem jn_symm (hs : ∀ x y, R x y → R y x) (h : Jn R a b) : Jn R b a := let ⟨k, w⟩ := h; ⟨k, wlk_symm hs k w⟩
theorem dst_symm (hs : ∀ x y, R x y → R y x) (h : DstR R a k b) : DstR R b k a := ⟨wlk_symm hs k h.1, fun j hj w => h.2 j hj (wlk_symm hs j w)⟩
theorem jn_lt {Q : Nat} (hl : ∀ x y, x < Q → R x y → y < Q) : ∀ k {b : Nat}, a < Q → WlkR R k a b → b < Q
  | 0, b, h, e => by
    have : a = b := e
    rwa [← this]
  | k + 1, b, h, ⟨c, w, r⟩ => hl c b (jn_lt hl k h w) r
/-- all states joined with a, each with the number of steps to it -/
structure DisOk (R : Nat → Nat → Prop) (a : Nat) (kc : List (Nat × Nat)) : Prop where
  nd : (kc.map (·.1)).Nodup
  mem : ∀ s k, (s, k) ∈ kc ↔ DstR R a k s
structure LevI (R : Nat → Nat → Prop) (a t : Nat) (kc : List (Nat × Nat)) (F : List Nat) : Prop where
  nd : (kc.map (·.1)).Nodup
  mem : ∀ s k, (s, k) ∈ kc ↔ DstR R a k s ∧ k ≤ t
  fnd : F.Nodup
  fm : ∀ s, s ∈ F ↔ DstR R a t s
structure BfsI (R : Nat → Nat → Prop) (a t : Nat) (X : Nat → Prop) (kc : List (Nat × Nat)) (G : List Nat) : Prop where
  nd : (kc.map (·.1)).Nodup
  mem : ∀ s k, (s, k) ∈ kc ↔ (DstR R a k s ∧ k ≤ t) ∨ (k = t + 1 ∧ s ∈ G)
  gnd : G.Nodup
  gm : ∀ s, s ∈ G ↔ X s ∧ ∀ k, k ≤ t → ¬ DstR R a k s
theorem LevI.zero (a : Nat) : LevI R a 0 [(a, 0)] [a] := by
  refine ⟨by simp, fun s k => ?_, by simp, fun s => ?_⟩
  · rw [List.mem_singleton, Prod.mk.injEq]
    constructor
    · rintro ⟨rfl, rfl⟩; exact ⟨dst_zero.mpr rfl, Nat.le_refl _⟩
    · rintro ⟨d, h⟩
      have : k = 0 := by omega
      subst this
      exact ⟨(dst_zero.mp d).symm, rfl⟩
  · rw [List.mem_singleton, dst_zero]; exact eq_comm
theorem LevI.start {kc : List (Nat × Nat)} {F : List Nat} (L : LevI R a t kc F) : BfsI R a t (fun _ => False) kc [] := by
  refine ⟨L.nd, fun s k => ?_, .nil, fun s => by simp⟩
  rw [L.mem]; simp
theorem BfsI.cong {X Y : Nat → Prop} {kc : List (Nat × Nat)} {G : List Nat} (B : BfsI R a t X kc G) (h : ∀ s, X s ↔ Y s) : BfsI R a t Y kc G :=
  ⟨B.nd, B.mem, B.gnd, fun s => by rw [B.gm, h]⟩
theorem keys_mem {kc : List (Nat × Nat)} : b ∈ kc.map (·.1) ↔ ∃ k, (b, k) ∈ kc := by
  rw [List.mem_map]
  exact ⟨fun ⟨⟨x, k⟩, h, e⟩ => ⟨k, by rw [← e]; exact h⟩, fun ⟨k, h⟩ => ⟨_, h, rfl⟩⟩
theorem BfsI.old {X : Nat → Prop} {kc : List (Nat × Nat)} {G : List Nat} (B : BfsI R a t X kc G) (h : b ∈ kc.map (·.1)) : BfsI R a t (fun s => X s ∨ s = b) kc G := by
  refine ⟨B.nd, B.mem, B.gnd, fun s => ?_⟩
  rw [B.gm]
  constructor
  · rintro ⟨x, y⟩; exact ⟨.inl x, y⟩
  · rintro ⟨x | rfl, y⟩
    · exact ⟨x, y⟩
    · obtain ⟨k, hk⟩ := keys_mem.mp h
      rcases (B.mem _ _).mp hk with ⟨d, hk⟩ | ⟨_, hg⟩
      · exact absurd d (y k hk)
      · exact (B.gm _).mp hg
theorem BfsI.new {X : Nat → Prop} {kc : List (Nat × Nat)} {G : List Nat} (B : BfsI R a t X kc G) (h : b ∉ kc.map (·.1)) : BfsI R a t (fun s => X s ∨ s = b) (kc ++ [(b, t + 1)]) (G ++ [b]) := by
  have hg : b ∉ G := fun z => h (keys_mem.mpr ⟨t + 1, (B.mem _ _).mpr (.inr ⟨rfl, z⟩)⟩)
  have hd : ∀ k, k ≤ t → ¬ DstR R a k b := fun k hk d => h (keys_mem.mpr ⟨k, (B.mem _ _).mpr (.inl ⟨d, hk⟩)⟩)
  refine ⟨?_, fun s k => ?_, ?_, fun s => ?_⟩
  · rw [List.map_append]
    exact List.nodup_append.mpr ⟨B.nd, by simp, fun x hx y hy => by
      have : y = b := by simpa using hy
      subst this
      rintro rfl
      exact h hx⟩
  · rw [List.mem_append, List.mem_singleton, Prod.mk.injEq, B.mem, List.mem_append, List.mem_singleton]
    constructor
    · rintro ((x | ⟨x, y⟩) | ⟨x, y⟩)
      · exact .inl x
      · exact .inr ⟨x, .inl y⟩
      · exact .inr ⟨y, .inr x⟩
    · rintro (x | ⟨x, y | y⟩)
      · exact .inl (.inl x)
      · exact .inl (.inr ⟨x, y⟩)
      · exact .inr ⟨y, x⟩
  · exact List.nodup_append.mpr ⟨B.gnd, by simp, fun x hx y hy => by
      have : y = b := by simpa using hy
      subst this
      rintro rfl
      exact hg hx⟩
  · rw [List.mem_append, List.mem_singleton, B.gm]
    constructor
    · rintro (⟨x, y⟩ | rfl)
      · exact ⟨.inl x, y⟩
      · exact ⟨.inr rfl, hd⟩
    · rintro ⟨x | x, y⟩
      · exact .inl ⟨x, y⟩
      · exact .inr x
theorem BfsI.next {X : Nat → Prop} {kc : List (Nat × Nat)} {G : List Nat} (B : BfsI R a t X kc G) (h : ∀ s, X s ↔ ∃ c, DstR R a t c ∧ R c s) : LevI R a (t + 1) kc G := by
  have fm : ∀ s, s ∈ G ↔ DstR R a (t + 1) s := fun s => by
    rw [B.gm, h]
    constructor
    · rintro ⟨⟨c, d, r⟩, y⟩
      obtain ⟨j, hj, d'⟩ := dst_nxt d r
      rcases Nat.lt_or_eq_of_le hj with z | z
      · exact absurd d' (y j (by omega))
      · rw [← z]; exact d'
    · intro d
      refine ⟨dst_pre d, fun k hk d' => ?_⟩
      have := d.uniq d'
      omega
  refine ⟨B.nd, fun s k => ?_, B.gnd, fm⟩
  rw [B.mem, fm]
  constructor
  · rintro (⟨d, hk⟩ | ⟨rfl, d⟩)
    · exact ⟨d, by omega⟩
    · exact ⟨d, Nat.le_refl _⟩
  · rintro ⟨d, hk⟩
    rcases Nat.lt_or_eq_of_le hk with z | z
    · exact .inl ⟨d, by omega⟩
    · subst z; exact .inr ⟨rfl, d⟩
theorem LevI.fin {kc : List (Nat × Nat)} (L : LevI R a t kc []) : DisOk R a kc := by
  have no : ∀ i s, ¬ DstR R a (t + i) s := by
    intro i
    induction i with
    | zero => intro s d; exact absurd ((L.fm s).mpr d) (by simp)
    | succ i ih =>
      intro s d
      obtain ⟨c, d', _⟩ := dst_pre d
      exact ih c d'
  refine ⟨L.nd, fun s k => ?_⟩
  rw [L.mem]
  refine ⟨fun h => h.1, fun d => ⟨d, Nat.le_of_not_lt fun h => ?_⟩⟩
  have := no (k - t) s
  rw [show t + (k - t) = k by omega] at this
  exact this d
theorem keys_len {kc : List (Nat × Nat)} {Q : Nat} (nd : (kc.map (·.1)).Nodup) (h : ∀ s ∈ kc.map (·.1), s < Q) : kc.length ≤ Q := by
  have := nd.length_le_of_subset (l₂ := List.range Q) fun x hx => List.mem_range.mpr (h x hx)
  simpa using this
theorem BfsI.keys {X : Nat → Prop} {kc : List (Nat × Nat)} {G : List Nat} (B : BfsI R a t X kc G) {Q : Nat} (ha : a < Q) (hl : ∀ x y, x < Q → R x y → y < Q) (hX : ∀ s, X s → s < Q) : ∀ s ∈ kc.map (·.1), s < Q := fun s hs => by
  obtain ⟨k, hk⟩ := keys_mem.mp hs
  rcases (B.mem _ _).mp hk with ⟨d, _⟩ | ⟨_, g⟩
  · exact jn_lt hl k ha d.1
  · exact hX s ((B.gm s).mp g).1
theorem DisOk.keys {kc : List (Nat × Nat)} (D : DisOk R a kc) : ∀ s, s ∈ kc.map (·.1) ↔ Jn R a s := fun s => by
  rw [keys_mem, jn_dst]
  exact ⟨fun ⟨k, h⟩ => ⟨k, (D.mem s k).mp h⟩, fun ⟨k, h⟩ => ⟨k, (D.mem s k).mpr h⟩⟩
theorem DisOk.len {kc : List (Nat × Nat)} (D : DisOk R a kc) {Q : Nat} (ha : a < Q) (hl : ∀ x y, x < Q → R x y → y < Q) : kc.length ≤ Q :=
  keys_len D.nd fun s hs => by
    obtain ⟨k, w⟩ := (D.keys s).mp hs
    exact jn_lt hl k ha w
end
/-! ### dicts of numbers -/
theorem lkN_in {kc : List (Nat × Nat)} (nd : (kc.map (·.1)).Nodup) {s k : Nat} (h : (s, k) ∈ kc) : lk (dN kc) (s : Int) = some (.int (k : Nat)) := by
  induction kc with
  | nil => cases h
  | cons p r ih =>
    rw [List.map_cons, List.nodup_cons] at nd
    unfold lk dN
    rcases List.mem_cons.mp h with e | h
    · subst e
      rw [List.map_cons, List.find?_cons_of_pos (by simp)]
      rfl
    · have hne : ¬ p.1 = s := fun z => nd.1 (by rw [z]; exact List.mem_map.mpr ⟨_, h, rfl⟩)
      rw [List.map_cons, List.find?_cons_of_neg (by rw [decide_eq_true_eq]; exact fun z => hne (Int.ofNat_inj.mp z))]
      exact ih nd.2 h
theorem lkN_out {kc : List (Nat × Nat)} {s : Nat} (h : s ∉ kc.map (·.1)) : lk (dN kc) (s : Int) = none := by
  induction kc with
  | nil => rfl
  | cons p r ih =>
    rw [List.map_cons, List.mem_cons, not_or] at h
    unfold lk dN
    rw [List.map_cons, List.find?_cons_of_neg (by rw [decide_eq_true_eq]; exact fun z => h.1 (Int.ofNat_inj.mp z).symm)]
    exact ih h.2
theorem putN_new {kc : List (Nat × Nat)} {s v : Nat} (h : s ∉ kc.map (·.1)) : putD (dN kc) (s : Int) (.int (v : Nat)) = dN (kc ++ [(s, v)]) := by
  have : (dN kc).any (fun kv => decide (kv.1 = (s : Int))) = false := by
    rw [List.any_eq_false]
    intro p hp
    unfold dN at hp
    obtain ⟨q, hq, rfl⟩ := List.mem_map.mp hp
    have : q.1 ≠ s := fun z => h (by rw [← z]; exact List.mem_map.mpr ⟨_, hq, rfl⟩)
    rw [decide_eq_true_eq]
    exact fun z => this (Int.ofNat_inj.mp z)
  unfold putD
  rw [this]
  unfold dN
  rw [List.map_append]; rfl
theorem xor_nat1 (m k : Nat) : Builtin.bitXor (m : Int) (1 * 2 ^ ((k : Int)).toNat) = ((m ^^^ 2 ^ k : Nat) : Int) := by
  rw [Int.one_mul, Int.toNat_natCast, show (2 : Int) ^ k = ((2 ^ k : Nat) : Int) from (Int.natCast_pow 2 k).symm]
  exact xor_nat m (2 ^ k)
/-! ### steps: a coin is taken, or put back -/
def Stp (n : Int) (es : List Edge) (ls : List Int) (a b : Nat) : Prop := ∃ j, rdyB n es ls a j = true ∧ b = a ^^^ 2 ^ j
theorem rdy_lt {n : Int} {es : List Edge} {ls : List Int} {s j : Nat} (h : rdyB n es ls s j = true) : j < n.toNat := by
  unfold rdyB at h
  rw [Bool.and_eq_true, decide_eq_true_eq] at h
  exact h.1
theorem bits_xor_ne {s j : Nat} {x : Int} (h : x ≠ (j : Int)) : x ∈ bitsOf (s ^^^ 2 ^ j) ↔ x ∈ bitsOf s := by
  rw [mem_bitsOf, mem_bitsOf, Nat.testBit_xor, tb_pow]
  constructor
  · rintro ⟨h0, h1⟩
    rw [decide_eq_false (by omega), Bool.xor_false] at h1
    exact ⟨h0, h1⟩
  · rintro ⟨h0, h1⟩
    rw [decide_eq_false (by omega), Bool.xor_false]
    exact ⟨h0, h1⟩
theorem rdy_self {n : Int} {es : List Edge} (W : WebOk n es) (ls : List Int) (s j : Nat) : rdyB n es ls (s ^^^ 2 ^ j) j = rdyB n es ls s j := by
  have e : segN es (bitsOf (s ^^^ 2 ^ j)) j = segN es (bitsOf s) j := by
    unfold segN
    rw [List.filter_congr fun x hx => ?_]
    have hne : x ≠ (j : Int) := (adj_rng W (mem_nbr.mp hx)).2.2
    rw [decide_eq_decide]
    exact bits_xor_ne hne
  unfold rdyB
  rw [e]
theorem xor_back (s j : Nat) : s ^^^ 2 ^ j ^^^ 2 ^ j = s := by rw [Nat.xor_assoc, Nat.xor_self, Nat.xor_zero]
theorem stp_symm {n : Int} {es : List Edge} (W : WebOk n es) (ls : List Int) : ∀ a b, Stp n es ls a b → Stp n es ls b a := by
  rintro a b ⟨j, h, rfl⟩
  exact ⟨j, by rw [rdy_self W]; exact h, (xor_back a j).symm⟩
theorem xor_ltN {N s j : Nat} (hs : s < 2 ^ N) (hj : j < N) : s ^^^ 2 ^ j < 2 ^ N := Nat.xor_lt_two_pow hs ((Nat.pow_lt_pow_iff_right (by decide)).mpr hj)
theorem stp_lt {n : Int} {es : List Edge} {ls : List Int} : ∀ a b, a < 2 ^ n.toNat → Stp n es ls a b → b < 2 ^ n.toNat := by
  rintro a b ha ⟨j, h, rfl⟩
  exact xor_ltN ha (rdy_lt h)
/-- for each state the coins that can be taken or put back -/
def StTab (n : Int) (es : List Edge) (ls : List Int) (st : List Nat) : Prop := st.length = 2 ^ n.toNat ∧ ∀ (s m : Nat), st[s]? = some m → m < 2 ^ 9 ∧ ∀ j : Nat, m.testBit j = rdyB n es ls s j
def stpC (n : Int) (es : List Edge) (ls : List Int) (i : Nat) (P : List Int) (s j : Nat) : Bool := rdyB n es ls s j && (!s.testBit j || decide (s ^^^ 2 ^ j < i) || (decide (s ^^^ 2 ^ j = i) && decide ((j : Int) ∈ P)))
def StpI (n : Int) (es : List Edge) (ls : List Int) (i : Nat) (P : List Int) (cur : List Nat) : Prop := cur.length = 2 ^ n.toNat ∧ ∀ (s m : Nat), cur[s]? = some m → m < 2 ^ 9 ∧ ∀ j : Nat, m.testBit j = stpC n es ls i P s j
section
variable {n : Int} {es : List Edge} {ls : List Int}
theorem StpI.zero {rs : List Nat} (RT : RTab n es ls rs) : StpI n es ls 0 [] rs := by
  refine ⟨RT.1, fun s m h => ?_⟩
  obtain ⟨h1, h2⟩ := RT.2 s m h
  refine ⟨h1, fun j => ?_⟩
  rw [h2]
  unfold stpC
  rw [decide_eq_false (Nat.not_lt_zero _)]
  simp
theorem StpI.row {rs cur : List Nat} {i r : Nat} (W : WebOk n es) (RT : RTab n es ls rs) (hr : rs[i]? = some r) (S : StpI n es ls i (bitsOf r) cur) : StpI n es ls (i + 1) [] cur := by
  refine ⟨S.1, fun s m h => ?_⟩
  obtain ⟨h1, h2⟩ := S.2 s m h
  refine ⟨h1, fun j => ?_⟩
  rw [h2]
  unfold stpC
  cases hy : rdyB n es ls s j with
  | false => rfl
  | true =>
    rw [Bool.true_and, Bool.true_and]
    cases hb : s.testBit j with
    | false => rfl
    | true =>
      by_cases e : s ^^^ 2 ^ j = i
      · have hj : (j : Int) ∈ bitsOf r := by
          rw [mem_bitsOf, Int.toNat_natCast, (RT.2 i r hr).2]
          refine ⟨by omega, ?_⟩
          rw [← e, rdy_self W, hy, Nat.testBit_xor, hb, tb_pow]
          simp
        rw [decide_eq_true e, decide_eq_true hj, e, decide_eq_true (Nat.lt_succ_self i)]
        simp
      · rw [decide_eq_false e]
        rw [show decide (s ^^^ 2 ^ j < i + 1) = decide (s ^^^ 2 ^ j < i) from decide_eq_decide.mpr (by omega)]
        simp
theorem StpI.step {rs cur : List Nat} {i r p m : Nat} {P : List Int} (W : WebOk n es) (h9 : n ≤ 9) (RT : RTab n es ls rs) (hr : rs[i]? = some r) (hp : (p : Int) ∈ bitsOf r) (S : StpI n es ls i P cur) (hm : cur[i ||| 2 ^ p]? = some m) : StpI n es ls i (P ++ [(p : Int)]) (cur.set (i ||| 2 ^ p) (m ||| 2 ^ p)) := by
  have hq : rdyB n es ls i p = true ∧ i.testBit p = false := by
    have := (mem_bitsOf.mp hp).2
    rw [Int.toNat_natCast, (RT.2 i r hr).2, Bool.and_eq_true, Bool.not_eq_true'] at this
    exact this
  have hpn := rdy_lt hq.1
  have eo : i ||| 2 ^ p = i ^^^ 2 ^ p := by
    apply Nat.eq_of_testBit_eq
    intro j
    rw [Nat.testBit_or, Nat.testBit_xor, tb_pow]
    by_cases e : p = j
    · subst e; rw [hq.2, decide_eq_true rfl]; rfl
    · rw [decide_eq_false e, Bool.or_false, Bool.xor_false]
  have hlt := (List.getElem?_eq_some_iff.mp hm).1
  refine ⟨by rw [List.length_set]; exact S.1, fun s m' h => ?_⟩
  have memP : ∀ j : Nat, j ≠ p → decide ((j : Int) ∈ P ++ [(p : Int)]) = decide ((j : Int) ∈ P) := fun j hj => decide_eq_decide.mpr (by
    rw [List.mem_append, List.mem_singleton]
    exact ⟨fun z => z.elim id fun z => absurd (Int.ofNat_inj.mp z) hj, .inl⟩)
  by_cases es' : i ||| 2 ^ p = s
  · subst es'
    rw [List.getElem?_set_self hlt] at h
    cases h
    obtain ⟨h1, h2⟩ := S.2 _ _ hm
    refine ⟨Nat.or_lt_two_pow h1 ((Nat.pow_lt_pow_iff_right (by decide)).mpr (by omega)), fun j => ?_⟩
    rw [Nat.testBit_or, h2, tb_pow]
    unfold stpC
    by_cases e : p = j
    · subst e
      rw [eo, rdy_self W, hq.1, xor_back]
      simp
    · rw [decide_eq_false e, Bool.or_false, memP j fun z => e z.symm]
  · rw [List.getElem?_set_ne es'] at h
    obtain ⟨h1, h2⟩ := S.2 s m' h
    refine ⟨h1, fun j => ?_⟩
    rw [h2]
    unfold stpC
    by_cases e : j = p
    · subst e
      have : ¬ s ^^^ 2 ^ j = i := fun z => es' (by rw [eo, ← z, xor_back])
      rw [decide_eq_false this, Bool.false_and, Bool.false_and]
    · rw [memP j e]
theorem StpI.fin {cur : List Nat} (S : StpI n es ls (2 ^ n.toNat) [] cur) : StTab n es ls cur := by
  refine ⟨S.1, fun s m h => ?_⟩
  obtain ⟨h1, h2⟩ := S.2 s m h
  refine ⟨h1, fun j => ?_⟩
  rw [h2]
  unfold stpC
  have hs : s < 2 ^ n.toNat := by rw [← S.1]; exact (List.getElem?_eq_some_iff.mp h).1
  cases hy : rdyB n es ls s j with
  | false => rfl
  | true =>
    rw [decide_eq_true (xor_ltN hs (rdy_lt hy))]
    simp
theorem StTab.bits {st : List Nat} {s m : Nat} (T : StTab n es ls st) (h : st[s]? = some m) (x : Int) : x ∈ bitsOf m ↔ 0 ≤ x ∧ rdyB n es ls s x.toNat = true := by
  rw [mem_bitsOf, (T.2 s m h).2]
end
end DL
/-! DR: how many states are joined with one, the least of each lot; ways of least steps, the least of them. -/
namespace DL
open PySem PySem.Spec PyProof.Rows L2
theorem maskB {a m : Nat} (M : MaskOk (bitsOf a) m) : m = a := by
  apply Nat.eq_of_testBit_eq
  intro j
  rw [M.2]
  apply Bool.eq_iff_iff.mpr
  rw [decide_eq_true_eq, mem_bitsOf, Int.toNat_natCast]
  exact ⟨fun h => h.2, fun h => ⟨by omega, h⟩⟩
/-! ### lots -/
noncomputable def jnB (R : Nat → Nat → Prop) (a s : Nat) : Bool := @decide (Jn R a s) (Classical.propDecidable _)
theorem jnB_iff {R : Nat → Nat → Prop} {a s : Nat} : jnB R a s = true ↔ Jn R a s := @decide_eq_true_iff _ (Classical.propDecidable _)
noncomputable def szR (R : Nat → Nat → Prop) (Q a : Nat) : Nat := ((List.range Q).filter (jnB R a)).length
noncomputable def repB (R : Nat → Nat → Prop) (s : Nat) : Bool := (List.range s).all fun r => !jnB R r s
theorem repB_iff {R : Nat → Nat → Prop} {s : Nat} : repB R s = true ↔ ∀ r, r < s → ¬ Jn R r s := by
  unfold repB
  rw [List.all_eq_true]
  constructor
  · intro h r hr z
    have := h r (List.mem_range.mpr hr)
    rw [jnB_iff.mpr z] at this
    cases this
  · intro h r hr
    rw [Bool.not_eq_true', ← Bool.not_eq_true, jnB_iff]
    exact h r (List.mem_range.mp hr)
noncomputable def repsR (R : Nat → Nat → Prop) (Q : Nat) : List Nat := (List.range Q).filter (repB R)
section
variable {R : Nat → Nat → Prop} {a b : Nat}
theorem DisOk.sz {kc : List (Nat × Nat)} {Q : Nat} (D : DisOk R a kc) (ha : a < Q) (hl : ∀ x y, x < Q → R x y → y < Q) : kc.length = szR R Q a := by
  unfold szR
  have : (kc.map (·.1)).Perm ((List.range Q).filter (jnB R a)) := by
    refine (List.perm_ext_iff_of_nodup D.nd (List.nodup_range.filter _)).mpr fun s => ?_
    rw [D.keys, List.mem_filter, List.mem_range, jnB_iff]
    exact ⟨fun ⟨k, w⟩ => ⟨jn_lt hl k ha w, k, w⟩, fun h => h.2⟩
  rw [← this.length_eq, List.length_map]
theorem dst_all : ∀ K {b : Nat}, DstR R a K b → ∀ j, j ≤ K → ∃ c, DstR R a j c
  | 0, b, d, j, hj => ⟨b, by rw [Nat.le_zero.mp hj]; exact d⟩
  | K + 1, b, d, j, hj => by
    rcases Nat.lt_or_eq_of_le hj with z | z
    · obtain ⟨c, d', _⟩ := dst_pre d
      exact dst_all K d' j (by omega)
    · subst z; exact ⟨b, d⟩
theorem DisOk.far {kc : List (Nat × Nat)} (D : DisOk R a kc) {K : Nat} (d : DstR R a K b) : K < kc.length := by
  have := (List.nodup_range (n := K + 1)).length_le_of_subset (l₂ := kc.map (·.2)) fun j hj => by
    obtain ⟨c, dc⟩ := dst_all K d j (by have := List.mem_range.mp hj; omega)
    exact List.mem_map.mpr ⟨_, (D.mem _ _).mpr dc, rfl⟩
  rw [List.length_range, List.length_map] at this
  omega
theorem sz_cong {Q : Nat} (hs : ∀ x y, R x y → R y x) (h : Jn R a b) : szR R Q a = szR R Q b := by
  unfold szR
  congr 1
  apply List.filter_congr
  intro s _
  apply Bool.eq_iff_iff.mpr
  rw [jnB_iff, jnB_iff]
  exact ⟨fun z => jn_trans (jn_symm hs h) z, fun z => jn_trans h z⟩
/-- each state is joined with the least of its lot -/
theorem rep_ex (hs : ∀ x y, R x y → R y x) : ∀ s, ∃ r, r ≤ s ∧ Jn R r s ∧ ∀ q, q < r → ¬ Jn R q r := by
  intro s
  induction s using Nat.strongRecOn with
  | _ s ih =>
    rcases Classical.em (∃ q, q < s ∧ Jn R q s) with ⟨q, hq, j⟩ | z
    · obtain ⟨r, h1, h2, h3⟩ := ih q hq
      exact ⟨r, by omega, jn_trans h2 j, h3⟩
    · exact ⟨s, Nat.le_refl _, jn_rfl, fun q hq j => z ⟨q, hq, j⟩⟩
theorem sz_reps {Q : Nat} (hs : ∀ x y, R x y → R y x) (ha : a < Q) : szR R Q a ∈ (repsR R Q).map (szR R Q) := by
  obtain ⟨r, h1, h2, h3⟩ := rep_ex (R := R) hs a
  exact List.mem_map.mpr ⟨r, List.mem_filter.mpr ⟨List.mem_range.mpr (by omega), repB_iff.mpr h3⟩, sz_cong hs h2⟩
/-- the lots met so far -/
structure LotI (R : Nat → Nat → Prop) (i : Nat) (kk : List (Nat × Nat)) : Prop where
  nd : (kk.map (·.1)).Nodup
  mem : ∀ s, s ∈ kk.map (·.1) ↔ ∃ r, r < i ∧ Jn R r s
theorem LotI.zero : LotI R 0 [] := ⟨.nil, fun s => by simp⟩
theorem LotI.old {i : Nat} {kk : List (Nat × Nat)} (L : LotI R i kk) (h : i ∈ kk.map (·.1)) : LotI R (i + 1) kk ∧ repB R i = false := by
  obtain ⟨r, hr, j⟩ := (L.mem i).mp h
  refine ⟨⟨L.nd, fun s => ?_⟩, ?_⟩
  · rw [L.mem]
    constructor
    · rintro ⟨r, hr, j⟩; exact ⟨r, by omega, j⟩
    · rintro ⟨q, hq, j'⟩
      by_cases e : q = i
      · subst e; exact ⟨r, hr, jn_trans j j'⟩
      · exact ⟨q, by omega, j'⟩
  · rw [← Bool.not_eq_true, repB_iff]
    exact fun z => z r hr j
theorem LotI.new {i : Nat} {kk kc : List (Nat × Nat)} (hs : ∀ x y, R x y → R y x) (L : LotI R i kk) (D : DisOk R i kc) (h : i ∉ kk.map (·.1)) : (∀ s ∈ kc.map (·.1), s ∉ kk.map (·.1)) ∧ LotI R (i + 1) (kk ++ kc) ∧ repB R i = true := by
  have dj : ∀ s ∈ kc.map (·.1), s ∉ kk.map (·.1) := fun s h1 h2 => by
    obtain ⟨r, hr, j⟩ := (L.mem s).mp h2
    exact h ((L.mem i).mpr ⟨r, hr, jn_trans j (jn_symm hs ((D.keys s).mp h1))⟩)
  refine ⟨dj, ⟨?_, fun s => ?_⟩, ?_⟩
  · rw [List.map_append]
    exact List.nodup_append.mpr ⟨L.nd, D.nd, fun x hx y hy e => by
      subst e
      exact dj x hy hx⟩
  · rw [List.map_append, List.mem_append, L.mem, D.keys]
    constructor
    · rintro (⟨r, hr, j⟩ | j)
      · exact ⟨r, by omega, j⟩
      · exact ⟨i, by omega, j⟩
    · rintro ⟨q, hq, j⟩
      by_cases e : q = i
      · subst e; exact .inr j
      · exact .inl ⟨q, by omega, j⟩
  · rw [repB_iff]
    exact fun r hr j => h ((L.mem i).mpr ⟨r, hr, j⟩)
theorem range_filt_succ (p : Nat → Bool) (i : Nat) : (List.range (i + 1)).filter p = (List.range i).filter p ++ (if p i = true then [i] else []) := by
  rw [List.range_succ, List.filter_append]
  congr 1
  by_cases h : p i = true
  · rw [if_pos h, List.filter_cons_of_pos h, List.filter_nil]
  · rw [if_neg h, List.filter_cons_of_neg h, List.filter_nil]
end
theorem mergeN : ∀ {kc kk : List (Nat × Nat)}, (kc.map (·.1)).Nodup → (∀ s ∈ kc.map (·.1), s ∉ kk.map (·.1)) → mergeD (KI (dN kk)) (KI (dN kc)) = KI (dN (kk ++ kc))
  | [], kk, _, _ => by rw [List.append_nil]; rfl
  | p :: kc, kk, nd, h => by
    rw [List.map_cons, List.nodup_cons] at nd
    have h1 : p.1 ∉ kk.map (·.1) := h p.1 (by simp)
    show mergeD (putD (KI (dN kk)) (Sum.inl (p.1 : Int)) (.int (p.2 : Nat))) (KI (dN kc)) = _
    rw [putD_KI, putN_new h1, mergeN nd.2 fun s hs => ?_]
    · rw [List.append_assoc]; rfl
    · rw [List.map_append, List.mem_append]
      rintro (z | z)
      · exact h s (by rw [List.map_cons]; exact List.mem_cons_of_mem _ hs) z
      · have : s = p.1 := by simpa using z
        subst this
        exact nd.1 hs
/-! ### ways -/
def PthR (n : Int) (es : List Edge) (ls : List Int) : Nat → List Int → Nat → Prop
  | a, [], b => a = b
  | a, p :: P, b => 0 ≤ p ∧ rdyB n es ls a p.toNat = true ∧ PthR n es ls (a ^^^ 2 ^ p.toNat) P b
section
variable {n : Int} {es : List Edge} {ls : List Int}
theorem pth_wlk : ∀ {P : List Int} {a b : Nat}, PthR n es ls a P b → WlkR (Stp n es ls) P.length a b
  | [], _, _, h => h
  | p :: P, a, b, ⟨_, h1, h2⟩ => wlk_front ⟨p.toNat, h1, rfl⟩ P.length (pth_wlk h2)
theorem pth_append : ∀ {P Q : List Int} {a b : Nat}, PthR n es ls a (P ++ Q) b ↔ ∃ c, PthR n es ls a P c ∧ PthR n es ls c Q b
  | [], Q, a, b => ⟨fun h => ⟨a, rfl, h⟩, fun ⟨c, e, h⟩ => by
    have : a = c := e
    rwa [this]⟩
  | p :: P, Q, a, b => by
    constructor
    · rintro ⟨h0, h1, h2⟩
      obtain ⟨c, h3, h4⟩ := pth_append.mp h2
      exact ⟨c, ⟨h0, h1, h3⟩, h4⟩
    · rintro ⟨c, ⟨h0, h1, h3⟩, h4⟩
      exact ⟨h0, h1, pth_append.mpr ⟨c, h3, h4⟩⟩
/-- the least of the ways of least steps -/
structure LeastP (n : Int) (es : List Edge) (ls : List Int) (a : Nat) (P : List Int) (b : Nat) : Prop where
  pth : PthR n es ls a P b
  dst : DstR (Stp n es ls) a P.length b
  least : ∀ P', PthR n es ls a P' b → P'.length = P.length → ¬ P' < P
theorem snoc_lt : ∀ {a b : List Int} {x y : Int}, a.length = b.length → (a ++ [x] < b ++ [y] ↔ a < b ∨ (a = b ∧ x < y))
  | [], [], x, y, _ => by
    show [x] < [y] ↔ _
    rw [List.cons_lt_cons_iff]
    constructor
    · rintro (h | ⟨_, h⟩)
      · exact .inr ⟨rfl, h⟩
      · exact absurd h (List.lt_irrefl _)
    · rintro (h | ⟨_, h⟩)
      · exact absurd h (List.lt_irrefl _)
      · exact .inl h
  | [], _ :: _, _, _, h => nomatch h
  | _ :: _, [], _, _, h => nomatch h
  | u :: a, v :: b, x, y, hl => by
    rw [List.cons_append, List.cons_append, List.cons_lt_cons_iff, List.cons_lt_cons_iff, snoc_lt (by simpa using hl)]
    constructor
    · rintro (z | ⟨e, z | ⟨e', z⟩⟩)
      · exact .inl (.inl z)
      · exact .inl (.inr ⟨e, z⟩)
      · exact .inr ⟨by rw [e, e'], z⟩
    · rintro ((z | ⟨e, z⟩) | ⟨e, z⟩)
      · exact .inl z
      · exact .inr ⟨e, .inl z⟩
      · injection e with e1 e2
        exact .inr ⟨e1, .inr ⟨e2, z⟩⟩
structure WayI (n : Int) (es : List Edge) (ls : List Int) (a b K s : Nat) (P : List Int) (k : Nat) : Prop where
  pth : PthR n es ls a P s
  dst : DstR (Stp n es ls) b k s
  len : P.length + k = K
  dK : DstR (Stp n es ls) a K b
  least : ∀ P', PthR n es ls a P' b → P'.length = K → ¬ P'.take P.length < P
theorem WayI.zero {a b K : Nat} (W : WebOk n es) (h : DstR (Stp n es ls) b K a) : WayI n es ls a b K a [] K :=
  ⟨rfl, h, by simp, dst_symm (stp_symm W ls) h, fun P' _ _ => by simp⟩
theorem WayI.step {a b K s k : Nat} {P : List Int} {p : Int} (W : WebOk n es) (I : WayI n es ls a b K s P (k + 1)) (h0 : 0 ≤ p) (h1 : rdyB n es ls s p.toNat = true) (h2 : DstR (Stp n es ls) b k (s ^^^ 2 ^ p.toNat))
    (h3 : ∀ p', 0 ≤ p' → rdyB n es ls s p'.toNat = true → DstR (Stp n es ls) b k (s ^^^ 2 ^ p'.toNat) → p ≤ p') : WayI n es ls a b K (s ^^^ 2 ^ p.toNat) (P ++ [p]) k := by
  refine ⟨pth_append.mpr ⟨s, I.pth, h0, h1, rfl⟩, h2, by rw [List.length_append]; have := I.len; simp only [List.length_cons, List.length_nil]; omega, I.dK, fun P' hp hl => ?_⟩
  have hlen := I.len
  have hlt : P.length < P'.length := by omega
  have et : P'.take (P ++ [p]).length = P'.take P.length ++ [P'[P.length]] := by
    rw [List.length_append]
    show P'.take (P.length + 1) = _
    rw [List.take_succ, List.getElem?_eq_getElem hlt]; rfl
  rw [et, snoc_lt (by rw [List.length_take]; omega)]
  rintro (z | ⟨z, y⟩)
  · exact I.least P' hp hl z
  · have e : P' = P ++ P'[P.length] :: P'.drop (P.length + 1) := by
      rw [← List.drop_eq_getElem_cons hlt]
      have := List.take_append_drop P.length P'
      rw [z] at this
      exact this.symm
    obtain ⟨c, g1, g2⟩ := pth_append.mp (e ▸ hp)
    have ec : c = s := by
      have uniq : ∀ (P : List Int) (a c d : Nat), PthR n es ls a P c → PthR n es ls a P d → c = d := by
        intro P
        induction P with
        | nil => intro a c d h h'; exact (show a = c from h).symm.trans h'
        | cons q P ih => intro a c d h h'; exact ih _ _ _ h.2.2 h'.2.2
      exact uniq P a c s g1 I.pth
    subst ec
    obtain ⟨q0, q1, q2⟩ := g2
    have w := wlk_symm (stp_symm W ls) _ (pth_wlk q2)
    rw [List.length_drop, show P'.length - (P.length + 1) = k by omega] at w
    refine absurd (h3 _ q0 q1 ?_) (by omega)
    obtain ⟨j, hj, d⟩ := wlk_dst k w
    obtain ⟨i, hi, d'⟩ := dst_nxt d (show Stp n es ls (c ^^^ 2 ^ P'[P.length].toNat) c from stp_symm W ls _ _ ⟨_, q1, rfl⟩)
    have := d'.uniq I.dst
    have : j = k := by omega
    rw [← this]; exact d
theorem WayI.fin {a b K s : Nat} {P : List Int} (I : WayI n es ls a b K s P 0) : LeastP n es ls a P b := by
  have e : b = s := dst_zero.mp I.dst
  have hl : P.length = K := by have := I.len; omega
  refine ⟨by rw [e]; exact I.pth, by rw [hl]; exact I.dK, fun P' hp hl' z => ?_⟩
  refine I.least P' hp (by omega) ?_
  rw [List.take_of_length_le (by omega)]
  exact z
theorem LeastP.uniq {a b : Nat} {P Q : List Int} (h : LeastP n es ls a P b) (h' : LeastP n es ls a Q b) : P = Q := by
  have hl := h.dst.uniq h'.dst
  exact List.le_antisymm (List.not_lt.mp (h.least Q h'.pth hl.symm)) (List.not_lt.mp (h'.least P h.pth hl))
/-! ### how many are taken -/
theorem bits_len_flip (s j : Nat) : (bitsOf (s ^^^ 2 ^ j)).length = (bitsOf s).length + 1 ∨ (bitsOf s).length = (bitsOf (s ^^^ 2 ^ j)).length + 1 := by
  by_cases h : s.testBit j = true
  · exact .inr (bits_len_xor h)
  · refine .inl ?_
    have : (s ^^^ 2 ^ j).testBit j = true := by
      rw [Nat.testBit_xor, tb_pow, Bool.eq_false_iff.mpr h, decide_eq_true rfl]; rfl
    have e := bits_len_xor this
    rwa [xor_back] at e
theorem wlk_len : ∀ k {a b : Nat}, WlkR (Stp n es ls) k a b → (bitsOf b).length ≤ (bitsOf a).length + k ∧ ((bitsOf b).length + (bitsOf a).length + k) % 2 = 0
  | 0, a, b, e => by
    have : a = b := e
    subst this
    exact ⟨by omega, by omega⟩
  | k + 1, a, b, ⟨c, w, j, _, e⟩ => by
    obtain ⟨h1, h2⟩ := wlk_len k w
    subst e
    rcases bits_len_flip c j with h | h <;> exact ⟨by omega, by omega⟩
end
end DL
/-! DR: states told as tuples, one coin taken or put back; ways from the first laying and to the last. -/
namespace DL
open PySem PySem.Spec PyProof.Rows L2
theorem bits_nodupR (s : Nat) : (bitsOf s).Nodup := (bitsOf_asc s).imp fun {a b} h => by omega
theorem flip_sorted {s k : Nat} {ns : List Int} (hp : ns.Perm (((bitsOf s).filter fun x => !decide (x = (k : Int))) ++ if (bitsOf s).contains (k : Int) = true then [] else [(k : Int)])) (hs : ns.Pairwise (· ≤ ·)) : ns = bitsOf (s ^^^ 2 ^ k) := by
  have nd : ns.Nodup := by
    refine hp.nodup_iff.mpr (List.nodup_append.mpr ⟨(bits_nodupR s).filter _, ?_, fun x hx y hy e => ?_⟩)
    · split
      · exact .nil
      · simp
    · subst e
      split at hy
      · cases hy
      · have : x = (k : Int) := by simpa using hy
        subst this
        have := (List.mem_filter.mp hx).2
        simp at this
  refine asc_eq ((List.Pairwise.and hs nd).imp fun {a b} ⟨h, ne⟩ => by omega) (bitsOf_asc _) fun x => ?_
  rw [hp.mem_iff, List.mem_append, List.mem_filter]
  by_cases e : x = (k : Int)
  · subst e
    rw [mem_bitsOf (m := s ^^^ 2 ^ k), Int.toNat_natCast, Nat.testBit_xor, tb_pow, show decide (k = k) = true from decide_eq_true rfl, Bool.xor_true, Bool.not_eq_true']
    constructor
    · rintro (⟨_, h⟩ | h)
      · simp at h
      · split at h
        · cases h
        · rename_i hc
          refine ⟨by omega, ?_⟩
          have : s.testBit k = false := Bool.eq_false_iff.mpr fun z => hc (List.contains_iff_mem.mpr (mem_bitsOf.mpr ⟨by omega, by rw [Int.toNat_natCast]; exact z⟩))
          rw [this]; rfl
    · rintro ⟨h0, h1⟩
      refine .inr ?_
      have : ¬ (bitsOf s).contains (k : Int) = true := fun z => by
        have := (mem_bitsOf.mp (List.contains_iff_mem.mp z)).2
        rw [Int.toNat_natCast] at this
        rw [this] at h1
        cases h1
      rw [if_neg this]; simp
  · rw [bits_xor_ne e]
    constructor
    · rintro (⟨h, _⟩ | h)
      · exact h
      · split at h
        · cases h
        · exact absurd (by simpa using h) e
    · intro h
      exact .inl ⟨h, by simp [e]⟩
theorem bits_allR (N : Nat) : bitsOf (2 ^ N - 1) = (List.range N).map fun (k : Nat) => (k : Int) := by
  refine asc_eq (bitsOf_asc _) ?_ fun x => ?_
  · rw [List.pairwise_map]
    exact List.pairwise_lt_range.imp fun {a b} h => by omega
  · rw [mem_bitsOf, Nat.testBit_two_pow_sub_one, decide_eq_true_eq, List.mem_map]
    constructor
    · rintro ⟨h1, h2⟩
      exact ⟨x.toNat, List.mem_range.mpr h2, by omega⟩
    · rintro ⟨k, h1, rfl⟩
      exact ⟨by omega, by rw [Int.toNat_natCast]; exact List.mem_range.mp h1⟩
theorem range_bits (N : Nat) : rangeD 0 N = (bitsOf (2 ^ N - 1)).map PyData.int := by
  unfold rangeD
  rw [bits_allR, List.map_map]
  apply List.map_congr_left
  intro k _
  show PyData.int (0 + (k : Int)) = .int (k : Int)
  rw [Int.zero_add]
section
variable {n : Int} {es : List Edge} {ls : List Int}
theorem pth_uniq : ∀ (P : List Int) {a c d : Nat}, PthR n es ls a P c → PthR n es ls a P d → c = d
  | [], _, _, _, h, h' => Eq.trans (Eq.symm h) h'
  | _ :: P, _, _, _, h, h' => pth_uniq P h.2.2 h'.2.2
theorem pth_at {P : List Int} {a b s i : Nat} {p : Int} (h : PthR n es ls a P b) (hi : P[i]? = some p) (hs : PthR n es ls a (P.take i) s) : 0 ≤ p ∧ rdyB n es ls s p.toNat = true ∧ PthR n es ls a (P.take (i + 1)) (s ^^^ 2 ^ p.toNat) := by
  have hl := (List.getElem?_eq_some_iff.mp hi).1
  have hg := (List.getElem?_eq_some_iff.mp hi).2
  have e : P = P.take i ++ p :: P.drop (i + 1) := by
    rw [← hg, ← List.drop_eq_getElem_cons hl, List.take_append_drop]
  obtain ⟨c, g1, g2⟩ := pth_append.mp (e ▸ h)
  obtain rfl := pth_uniq _ g1 hs
  obtain ⟨q0, q1, _⟩ := g2
  refine ⟨q0, q1, ?_⟩
  rw [List.take_succ, hi]
  exact pth_append.mpr ⟨c, hs, q0, q1, rfl⟩
theorem head_rdy {s p : Nat} (h : (p : Int) ∈ headsL (stB n es ls s)) : rdyB n es ls s p = true ∧ s.testBit p = false := by
  obtain ⟨h0, h1, h2, _⟩ := stB_head h
  rw [Int.toNat_natCast] at h2
  refine ⟨?_, h2⟩
  obtain ⟨_, _, h3⟩ := mem_heads_beh.mp h
  rw [Int.toNat_natCast] at h3
  unfold behP at h3
  rw [if_neg (fun z => by have := (mem_bitsOf.mp z).2; rw [Int.toNat_natCast, h2] at this; cases this)] at h3
  unfold rdyB
  rw [decide_eq_true h3, decide_eq_true (by omega : p < n.toNat)]; rfl
theorem toS_wlk {to : List Nat} (T : ToOk n es ls to) : ∀ t, t < 2 ^ n.toNat → 0 < to.getD t 0 → WlkR (Stp n es ls) (bitsOf t).length 0 t := by
  intro t
  induction t using Nat.strongRecOn with
  | _ t ih =>
    intro ht hpos
    by_cases h0 : t = 0
    · subst h0
      rw [bits_zero]; rfl
    · rw [T.eq t ht] at hpos
      unfold toS at hpos
      rw [if_neg h0, Nat.zero_add] at hpos
      obtain ⟨p, hp, hv⟩ := (sum_ex _ _).mp hpos
      split at hv
      · rename_i hc
        rw [Bool.and_eq_true] at hc
        obtain ⟨c1, c2⟩ := hc
        have hlt := xor_lt c1
        have w := ih _ hlt (by omega) hv
        unfold hdB at c2
        obtain ⟨r1, _⟩ := head_rdy (of_decide_eq_true c2)
        rw [bits_len_xor c1]
        exact ⟨_, w, p, r1, (xor_back t p).symm⟩
      · omega
theorem cnt_wlk (W : WebOk n es) (F : Full n ls) : ∀ m s, s < 2 ^ n.toNat → (bitsOf s).length + m = n.toNat → 0 < cnt es m (stB n es ls s) → WlkR (Stp n es ls) m s (2 ^ n.toNat - 1)
  | 0, s, hs, hl, _ => full_bits (by have := W.lo; omega) hs (by omega)
  | m + 1, s, hs, hl, hc => by
    unfold cnt at hc
    obtain ⟨k, hk, hv⟩ := (sum_ex _ _).mp hc
    obtain ⟨k0, k1, k2, _⟩ := stB_head hk
    obtain ⟨p, rfl⟩ := Int.eq_ofNat_of_zero_le k0
    rw [Int.toNat_natCast] at k2
    rw [stB_step W F k1 k2] at hv
    have e : s ||| 2 ^ p = s ^^^ 2 ^ p := by
      apply Nat.eq_of_testBit_eq
      intro j
      rw [Nat.testBit_or, Nat.testBit_xor, tb_pow]
      by_cases e : p = j
      · subst e; rw [k2, decide_eq_true rfl]; rfl
      · rw [decide_eq_false e, Bool.or_false, Bool.xor_false]
    have w := cnt_wlk W F m (s ||| 2 ^ p) (or_lt hs k1) (by rw [bits_len_or k2]; omega) hv
    exact wlk_front ⟨p, (head_rdy hk).1, e⟩ m w
/-- no fewer steps than coins taken -/
theorem dst_from0 {k t : Nat} (w : WlkR (Stp n es ls) k 0 t) (h : (bitsOf t).length = k) : DstR (Stp n es ls) 0 k t :=
  ⟨w, fun j hj w' => by
    have := (wlk_len j w').1
    rw [bits_zero] at this
    simp only [List.length_nil] at this
    omega⟩
end
end DL
namespace DL
open PySem PySem.Spec PyProof.Rows L2
def topS (i : Nat) : Stmt := PySem.Challenge.pw_cointakes_k87_across_puttings_back.main.body.getD i (.Pass ⟨0, 0, 0, 0⟩)
abbrev s_is_integer : Stmt := topS 7
theorem sc_is_integer : FnScope ["value"] ["value"] (defScope s_is_integer) := ⟨rfl, rfl, rfl, by decide +kernel, rfl, by decide +kernel, by decide +kernel⟩
abbrev s_is_between : Stmt := topS 8
theorem sc_is_between : FnScope ["value", "low", "high"] ["value", "low", "high"] (defScope s_is_between) := ⟨rfl, rfl, rfl, by decide +kernel, rfl, by decide +kernel, by decide +kernel⟩
abbrev s_is_tuple_of : Stmt := topS 9
theorem sc_is_tuple_of : FnScope ["value", "many"] ["value", "many"] (defScope s_is_tuple_of) := ⟨rfl, rfl, rfl, by decide +kernel, rfl, by decide +kernel, by decide +kernel⟩
abbrev s_is_rising : Stmt := topS 10
theorem sc_is_rising : FnScope ["value", "many", "item"] ["value", "many"] (defScope s_is_rising) := ⟨rfl, rfl, rfl, by decide +kernel, rfl, by decide +kernel, by decide +kernel⟩
abbrev s_are_rising : Stmt := topS 11
theorem sc_are_rising : FnScope ["items", "index"] ["items"] (defScope s_are_rising) := ⟨rfl, rfl, rfl, by decide +kernel, rfl, by decide +kernel, by decide +kernel⟩
abbrev s_is_edge : Stmt := topS 12
theorem sc_is_edge : FnScope ["value", "many"] ["value", "many"] (defScope s_is_edge) := ⟨rfl, rfl, rfl, by decide +kernel, rfl, by decide +kernel, by decide +kernel⟩
abbrev s_check_web : Stmt := topS 13
theorem sc_check_web : FnScope ["web", "many", "edges", "index", "edge"] ["web"] (defScope s_check_web) := ⟨rfl, rfl, rfl, by decide +kernel, rfl, by decide +kernel, by decide +kernel⟩
abbrev s_check_full : Stmt := topS 14
theorem sc_check_full : FnScope ["web", "laying", "index", "coin"] ["web", "laying"] (defScope s_check_full) := ⟨rfl, rfl, rfl, by decide +kernel, rfl, by decide +kernel, by decide +kernel⟩
abbrev s_check_state : Stmt := topS 15
theorem sc_check_state : FnScope ["web", "state"] ["web", "state"] (defScope s_check_state) := ⟨rfl, rfl, rfl, by decide +kernel, rfl, by decide +kernel, by decide +kernel⟩
abbrev s_mask_of : Stmt := topS 17
theorem sc_mask_of : FnScope ["places", "mask", "place"] ["places"] (defScope s_mask_of) := ⟨rfl, rfl, rfl, by decide +kernel, rfl, by decide +kernel, by decide +kernel⟩
abbrev s_places_in : Stmt := topS 18
theorem sc_places_in : FnScope ["mask", "place"] ["mask"] (defScope s_places_in) := ⟨rfl, rfl, rfl, by decide +kernel, rfl, by decide +kernel, by decide +kernel⟩
abbrev s_lowest_in : Stmt := topS 19
theorem sc_lowest_in : FnScope ["mask"] ["mask"] (defScope s_lowest_in) := ⟨rfl, rfl, rfl, by decide +kernel, rfl, by decide +kernel, by decide +kernel⟩
abbrev s_head_mask : Stmt := topS 20
theorem sc_head_mask : FnScope ["laying", "place", "coin"] ["laying"] (defScope s_head_mask) := ⟨rfl, rfl, rfl, by decide +kernel, rfl, by decide +kernel, by decide +kernel⟩
abbrev s_lying_mask : Stmt := topS 21
theorem sc_lying_mask : FnScope ["laying", "place", "coin"] ["laying"] (defScope s_lying_mask) := ⟨rfl, rfl, rfl, by decide +kernel, rfl, by decide +kernel, by decide +kernel⟩
abbrev s_near_masks : Stmt := topS 22
theorem sc_near_masks : FnScope ["web", "many", "edges", "near", "low", "high"] ["web"] (defScope s_near_masks) := ⟨rfl, rfl, rfl, by decide +kernel, rfl, by decide +kernel, by decide +kernel⟩
abbrev s_turned_table : Stmt := topS 24
theorem sc_turned_table : FnScope ["web", "heads", "near", "turned", "state"] ["web", "heads"] (defScope s_turned_table) := ⟨rfl, rfl, rfl, by decide +kernel, rfl, by decide +kernel, by decide +kernel⟩
abbrev s_ready_table : Stmt := topS 25
theorem sc_ready_table : FnScope ["web", "laying", "lying", "state", "heads"] ["web", "laying"] (defScope s_ready_table) := ⟨rfl, rfl, rfl, by decide +kernel, rfl, by decide +kernel, by decide +kernel⟩
abbrev s_on_table : Stmt := topS 26
theorem sc_on_table : FnScope ["ready", "on", "state", "place"] ["ready"] (defScope s_on_table) := ⟨rfl, rfl, rfl, by decide +kernel, rfl, by decide +kernel, by decide +kernel⟩
abbrev s_to_table : Stmt := topS 27
theorem sc_to_table : FnScope ["ready", "to", "state", "heads", "place"] ["ready"] (defScope s_to_table) := ⟨rfl, rfl, rfl, by decide +kernel, rfl, by decide +kernel, by decide +kernel⟩
abbrev s_check_all : Stmt := topS 29
theorem sc_check_all : FnScope ["web", "laying", "state"] ["web", "laying", "state"] (defScope s_check_all) := ⟨rfl, rfl, rfl, by decide +kernel, rfl, by decide +kernel, by decide +kernel⟩
abbrev s_ways_to : Stmt := topS 30
theorem sc_ways_to : FnScope ["web", "laying", "state"] ["web", "laying", "state"] (defScope s_ways_to) := ⟨rfl, rfl, rfl, by decide +kernel, rfl, by decide +kernel, by decide +kernel⟩
abbrev s_check_both : Stmt := topS 32
theorem sc_check_both : FnScope ["web", "laying", "one", "other"] ["web", "laying", "one", "other"] (defScope s_check_both) := ⟨rfl, rfl, rfl, by decide +kernel, rfl, by decide +kernel, by decide +kernel⟩
abbrev s_step_table : Stmt := topS 33
theorem sc_step_table : FnScope ["web", "laying", "ready", "steps", "state", "heads", "place"] ["web", "laying"] (defScope s_step_table) := ⟨rfl, rfl, rfl, by decide +kernel, rfl, by decide +kernel, by decide +kernel⟩
abbrev s_steps_from : Stmt := topS 34
theorem sc_steps_from : FnScope ["steps", "start", "found", "fresh", "further", "state", "place", "other"] ["steps", "start"] (defScope s_steps_from) := ⟨rfl, rfl, rfl, by decide +kernel, rfl, by decide +kernel, by decide +kernel⟩
abbrev s_steps_between : Stmt := topS 35
theorem sc_steps_between : FnScope ["web", "laying", "one", "other"] ["web", "laying", "one", "other"] (defScope s_steps_between) := ⟨rfl, rfl, rfl, by decide +kernel, rfl, by decide +kernel, by decide +kernel⟩
abbrev s_way_between : Stmt := topS 36
theorem sc_way_between : FnScope ["web", "laying", "one", "other", "steps", "left", "state", "way", "nearer", "place"] ["web", "laying", "one", "other"] (defScope s_way_between) := ⟨rfl, rfl, rfl, by decide +kernel, rfl, by decide +kernel, by decide +kernel⟩
abbrev s_joined_count : Stmt := topS 37
theorem sc_joined_count : FnScope ["web", "laying", "state"] ["web", "laying", "state"] (defScope s_joined_count) := ⟨rfl, rfl, rfl, by decide +kernel, rfl, by decide +kernel, by decide +kernel⟩
abbrev s_farthest : Stmt := topS 38
theorem sc_farthest : FnScope ["web", "laying", "state", "found", "most", "other", "number"] ["web", "laying", "state"] (defScope s_farthest) := ⟨rfl, rfl, rfl, by decide +kernel, rfl, by decide +kernel, by decide +kernel⟩
abbrev s_state_parts : Stmt := topS 39
theorem sc_state_parts : FnScope ["web", "laying", "steps", "seen", "sizes", "state", "part"] ["web", "laying"] (defScope s_state_parts) := ⟨rfl, rfl, rfl, by decide +kernel, rfl, by decide +kernel, by decide +kernel⟩
abbrev s_order_count : Stmt := topS 41
theorem sc_order_count : FnScope ["web", "laying"] ["web", "laying"] (defScope s_order_count) := ⟨rfl, rfl, rfl, by decide +kernel, rfl, by decide +kernel, by decide +kernel⟩
abbrev s_can_clear : Stmt := topS 42
theorem sc_can_clear : FnScope ["web", "laying"] ["web", "laying"] (defScope s_can_clear) := ⟨rfl, rfl, rfl, by decide +kernel, rfl, by decide +kernel, by decide +kernel⟩
abbrev s__law_taken : Stmt := topS 44
theorem sc__law_taken : FnScope ["row", "many", "found", "cell"] ["row", "many"] (defScope s__law_taken) := ⟨rfl, rfl, rfl, by decide +kernel, rfl, by decide +kernel, by decide +kernel⟩
abbrev s__law_order : Stmt := topS 45
theorem sc__law_order : FnScope ["row", "many", "left", "found", "turn", "at"] ["row", "many"] (defScope s__law_order) := ⟨rfl, rfl, rfl, by decide +kernel, rfl, by decide +kernel, by decide +kernel⟩
abbrev s__law_web : Stmt := topS 46
theorem sc__law_web : FnScope ["row", "most", "many", "edges", "way", "names", "k", "a", "b", "turn"] ["row", "most"] (defScope s__law_web) := ⟨rfl, rfl, rfl, by decide +kernel, rfl, by decide +kernel, by decide +kernel⟩
abbrev s__law_near : Stmt := topS 47
theorem sc__law_near : FnScope ["web", "a", "b", "k"] ["web"] (defScope s__law_near) := ⟨rfl, rfl, rfl, by decide +kernel, rfl, by decide +kernel, by decide +kernel⟩
abbrev s__law_laying : Stmt := topS 48
theorem sc__law_laying : FnScope ["web", "order", "found", "near", "k", "place", "behind", "x"] ["web", "order"] (defScope s__law_laying) := ⟨rfl, rfl, rfl, by decide +kernel, rfl, by decide +kernel, by decide +kernel⟩
abbrev s__law_full : Stmt := topS 49
theorem sc__law_full : FnScope ["row", "web", "k"] ["row", "web"] (defScope s__law_full) := ⟨rfl, rfl, rfl, by decide +kernel, rfl, by decide +kernel, by decide +kernel⟩
abbrev s__law_pick : Stmt := topS 50
theorem sc__law_pick : FnScope ["row", "things"] ["row", "things"] (defScope s__law_pick) := ⟨rfl, rfl, rfl, by decide +kernel, rfl, by decide +kernel, by decide +kernel⟩
abbrev s__law_state : Stmt := topS 51
theorem sc__law_state : FnScope ["row", "many", "thin", "k"] ["row", "many"] (defScope s__law_state) := ⟨rfl, rfl, rfl, by decide +kernel, rfl, by decide +kernel, by decide +kernel⟩
abbrev s_law : Stmt := topS 52
theorem sc_law : FnScope ["script", "row", "web", "laying", "many", "one", "other", "every", "steps", "way", "here", "k", "x"] ["script"] (defScope s_law) := ⟨rfl, rfl, rfl, by decide +kernel, rfl, by decide +kernel, by decide +kernel⟩
/-- what the top leaves: the defs, the constants, which built-ins are still themselves -/
structure Top (K : PySem.W.Frag) (mg : Str → Option Value) : Prop where
  b_all : mg "all" = none
  b_bool : mg "bool" = none
  b_enumerate : mg "enumerate" = none
  b_int : mg "int" = none
  b_isinstance : mg "isinstance" = none
  b_len : mg "len" = none
  b_list : mg "list" = none
  b_max : mg "max" = none
  b_min : mg "min" = none
  b_range : mg "range" = none
  b_reversed : mg "reversed" = none
  b_sorted : mg "sorted" = none
  b_sum : mg "sum" = none
  b_tuple : mg "tuple" = none
  c_MOST_PLACES : ∃ u, mg "MOST_PLACES" = some u ∧ RelV (.int 9) u
  d_is_integer : Def K mg "is_integer" s_is_integer ["value"]
  d_is_between : Def K mg "is_between" s_is_between ["value", "low", "high"]
  d_is_tuple_of : Def K mg "is_tuple_of" s_is_tuple_of ["value", "many"]
  d_is_rising : Def K mg "is_rising" s_is_rising ["value", "many"]
  d_are_rising : Def K mg "are_rising" s_are_rising ["items"]
  d_is_edge : Def K mg "is_edge" s_is_edge ["value", "many"]
  d_check_web : Def K mg "check_web" s_check_web ["web"]
  d_check_full : Def K mg "check_full" s_check_full ["web", "laying"]
  d_check_state : Def K mg "check_state" s_check_state ["web", "state"]
  d_mask_of : Def K mg "mask_of" s_mask_of ["places"]
  d_places_in : Def K mg "places_in" s_places_in ["mask"]
  d_lowest_in : Def K mg "lowest_in" s_lowest_in ["mask"]
  d_head_mask : Def K mg "head_mask" s_head_mask ["laying"]
  d_lying_mask : Def K mg "lying_mask" s_lying_mask ["laying"]
  d_near_masks : Def K mg "near_masks" s_near_masks ["web"]
  d_turned_table : Def K mg "turned_table" s_turned_table ["web", "heads"]
  d_ready_table : Def K mg "ready_table" s_ready_table ["web", "laying"]
  d_on_table : Def K mg "on_table" s_on_table ["ready"]
  d_to_table : Def K mg "to_table" s_to_table ["ready"]
  d_check_all : Def K mg "check_all" s_check_all ["web", "laying", "state"]
  d_ways_to : Def K mg "ways_to" s_ways_to ["web", "laying", "state"]
  d_check_both : Def K mg "check_both" s_check_both ["web", "laying", "one", "other"]
  d_step_table : Def K mg "step_table" s_step_table ["web", "laying"]
  d_steps_from : Def K mg "steps_from" s_steps_from ["steps", "start"]
  d_steps_between : Def K mg "steps_between" s_steps_between ["web", "laying", "one", "other"]
  d_way_between : Def K mg "way_between" s_way_between ["web", "laying", "one", "other"]
  d_joined_count : Def K mg "joined_count" s_joined_count ["web", "laying", "state"]
  d_farthest : Def K mg "farthest" s_farthest ["web", "laying", "state"]
  d_state_parts : Def K mg "state_parts" s_state_parts ["web", "laying"]
  d_order_count : Def K mg "order_count" s_order_count ["web", "laying"]
  d_can_clear : Def K mg "can_clear" s_can_clear ["web", "laying"]
  d__law_taken : Def K mg "_law_taken" s__law_taken ["row", "many"]
  d__law_order : Def K mg "_law_order" s__law_order ["row", "many"]
  d__law_web : Def K mg "_law_web" s__law_web ["row", "most"]
  d__law_near : Def K mg "_law_near" s__law_near ["web"]
  d__law_laying : Def K mg "_law_laying" s__law_laying ["web", "order"]
  d__law_full : Def K mg "_law_full" s__law_full ["row", "web"]
  d__law_pick : Def K mg "_law_pick" s__law_pick ["row", "things"]
  d__law_state : Def K mg "_law_state" s__law_state ["row", "many"]
def sd_is_between : SD := fun ds q => ∃ d lo hi, ds = [d, .int lo, .int hi] ∧ q (.bool (betw d lo hi))
def sd_is_tuple_of : SD := fun ds q => ∃ d n, ds = [d, .int n] ∧ q (.bool (tupOf d n))
def sd_is_edge : SD := fun ds q => ∃ a b n, ds = [pD (a, b), .int n] ∧ q (.bool (betw (.int a) 0 (n - 1) && betw (.int b) (a + 1) (n - 1)))
def sd_check_web : SD := fun ds q => ∃ n es, ds = [wD n es] ∧ WebOk n es ∧ q .none
def sd_places_in : SD := fun ds q => ∃ m : Nat, ds = [.int m] ∧ m < 2 ^ 9 ∧ q (.list ((bitsOf m).map .int))
def sd_near_masks : SD := fun ds q => ∃ n es, ds = [wD n es] ∧ WebOk n es ∧ ∀ ms : List Nat, NearOk n es ms → q (.list (ms.map fun (m : Nat) => PyData.int (m : Int)))
def sd__law_taken : SD := fun ds q => ∃ n : Int, ds = [.int n] ∧ 0 < n ∧ n < 1073741824 ∧ ∀ k : Int, 0 ≤ k → k < n → q (.int k)
def sd__law_order : SD := fun ds q => ∃ n : Int, ds = [.int n] ∧ 0 ≤ n ∧ n ≤ 9 ∧ ∀ ks : List Int, ks.Nodup → (ks.length : Int) = n → (∀ k ∈ ks, 0 ≤ k ∧ k < n) → q (.list (ks.map .int))
def sd__law_near : SD := fun ds q => ∃ n es, ds = [wD n es] ∧ WebOk n es ∧ q (.list ((List.range n.toNat).map fun (k : Nat) => .list ((nbr es k).map .int)))
def sd__law_pick : SD := fun ds q => ∃ xs, (ds = [.list xs] ∨ ds = [.tuple xs]) ∧ 0 < xs.length ∧ xs.length < 1073741824 ∧ ∀ x ∈ xs, q x
def sd__law_web : SD := fun ds q => ∃ most : Int, ds = [.int most] ∧ 1 ≤ most ∧ most ≤ 9 ∧ ∀ n es, WebOk n es → n ≤ most → q (wD n es)
def sd_check_full : SD := fun ds q => ∃ n es ls, ds = [wD n es, lD ls] ∧ Full n ls ∧ q .none
def sd_mask_of : SD := fun ds q => ∃ ks : List Int, (ds = [.tuple (List.map PyData.int ks)] ∨ ds = [.list (List.map PyData.int ks)]) ∧ (∀ k ∈ ks, 0 ≤ k ∧ k < 9) ∧ ∀ m : Nat, MaskOk ks m → q (.int m)
def sd__law_laying : SD := fun ds q => ∃ n es ks, ds = [wD n es, .tuple (List.map PyData.int ks)] ∧ WebOk n es ∧ OrdOk n ks ∧ q (lD (layOf n es ks))
def sd__law_full : SD := fun ds q => ∃ n es, ds = [wD n es] ∧ WebOk n es ∧ ∀ ls, Full n ls → q (lD ls)
def sd_check_state : SD := fun ds q => ∃ n es S, ds = [wD n es, .tuple (List.map PyData.int S)] ∧ n ≤ 9 ∧ StOk n S ∧ q .none
def sd_lowest_in : SD := fun ds q => ∃ s k : Nat, ds = [.int s] ∧ 0 < s ∧ s.testBit k = true ∧ (∀ j, (s &&& (s - 1)).testBit j = (s.testBit j && !decide (j = k))) ∧ q (.int k)
def sd_head_mask : SD := fun ds q => ∃ n ls, ds = [lD ls] ∧ Full n ls ∧ n ≤ 9 ∧ ∀ m : Nat, MaskOk (headsL ls) m → q (.int m)
def sd_ready_table : SD := fun ds q => ∃ n es ls, ds = [wD n es, lD ls] ∧ WebOk n es ∧ Full n ls ∧ ∀ rs : List Nat, RTab n es ls rs → q (.list (rs.map fun (m : Nat) => PyData.int (m : Int)))
def sd_check_all : SD := fun ds q => ∃ n es ls S, ds = [wD n es, lD ls, .tuple (List.map PyData.int S)] ∧ WebOk n es ∧ Full n ls ∧ StOk n S ∧ q .none
def sd__law_state : SD := fun ds q => ∃ n : Int, ds = [.int n] ∧ 0 ≤ n ∧ n ≤ 9 ∧ ∀ S, StOk n S → q (.tuple (List.map PyData.int S))
def sd_is_integer : SD := fun ds q => ∃ d, ds = [d] ∧ q (.bool (isIntD d))
def sd_are_rising : SD := fun ds q => ∃ S : List Int, ds = [.tuple (List.map PyData.int S)] ∧ S.Pairwise (· < ·) ∧ S.length ≤ 9 ∧ q (.bool true)
def sd_is_rising : SD := fun ds q => ∃ (n : Int) (S : List Int), ds = [.tuple (List.map PyData.int S), .int n] ∧ n ≤ 9 ∧ StOk n S ∧ q (.bool true)
def sd_lying_mask : SD := fun ds q => ∃ n ls, ds = [lD ls] ∧ Full n ls ∧ n ≤ 9 ∧ ∀ m : Nat, MaskOk ((List.range n.toNat).map fun (j : Nat) => (j : Int)) m → q (.int m)
def sd_turned_table : SD := fun ds q => ∃ n es ls, ∃ m0 : Nat, ds = [wD n es, .int (m0 : Int)] ∧ WebOk n es ∧ Full n ls ∧ MaskOk (headsL ls) m0 ∧ ∀ ts : List Nat, ts.length = 2 ^ n.toNat → TabOk n es ls ts → q (.list (ts.map fun (m : Nat) => PyData.int (m : Int)))
def sd_to_table : SD := fun ds q => ∃ n es ls rs, ds = [.list (List.map (fun (m : Nat) => PyData.int (m : Int)) rs)] ∧ WebOk n es ∧ Full n ls ∧ RTab n es ls rs ∧ ∀ to : List Nat, ToOk n es ls to → q (.list (to.map fun (m : Nat) => PyData.int (m : Int)))
def sd_on_table : SD := fun ds q => ∃ n es ls rs, ds = [.list (List.map (fun (m : Nat) => PyData.int (m : Int)) rs)] ∧ WebOk n es ∧ Full n ls ∧ RTab n es ls rs ∧ ∀ on : List Nat, OnOk n es ls on → q (.list (on.map fun (m : Nat) => PyData.int (m : Int)))
def sd_order_count : SD := fun ds q => ∃ n es ls, ds = [wD n es, lD ls] ∧ WebOk n es ∧ Full n ls ∧ q (.int (cnt es n.toNat ls : Nat))
def sd_can_clear : SD := fun ds q => ∃ n es ls, ds = [wD n es, lD ls] ∧ WebOk n es ∧ Full n ls ∧ q (.bool (decide (0 < cnt es n.toNat ls)))
def sd_ways_to : SD := fun ds q => ∃ n es ls S, ds = [wD n es, lD ls, .tuple (List.map PyData.int S)] ∧ WebOk n es ∧ Full n ls ∧ StOk n S ∧ ∀ (to : List Nat) (m : Nat), ToOk n es ls to → m < 2 ^ n.toNat → bitsOf m = S → q (.int (to.getD m 0 : Nat))
def sd_step_table : SD := fun ds q => ∃ n es ls, ds = [wD n es, lD ls] ∧ WebOk n es ∧ Full n ls ∧ ∀ st : List Nat, StTab n es ls st → q (.list (st.map fun (m : Nat) => PyData.int (m : Int)))
def sd_steps_from : SD := fun ds q => ∃ n es ls, ∃ (st : List Nat) (a : Nat), ds = [.list (st.map fun (m : Nat) => PyData.int (m : Int)), .int (a : Int)] ∧ WebOk n es ∧ StTab n es ls st ∧ a < 2 ^ n.toNat ∧ ∀ kc, DisOk (Stp n es ls) a kc → q (dK (dN kc))
def sd_check_both : SD := fun ds q => ∃ n es ls S T, ds = [wD n es, lD ls, .tuple (List.map PyData.int S), .tuple (List.map PyData.int T)] ∧ WebOk n es ∧ Full n ls ∧ StOk n S ∧ StOk n T ∧ q .none
def sd_joined_count : SD := fun ds q => ∃ n es ls a, ds = [wD n es, lD ls, tI (bitsOf a)] ∧ WebOk n es ∧ Full n ls ∧ a < 2 ^ n.toNat ∧ q (.int (szR (Stp n es ls) (2 ^ n.toNat) a : Nat))
def sd_steps_between : SD := fun ds q => ∃ n es ls a b, ds = [wD n es, lD ls, tI (bitsOf a), tI (bitsOf b)] ∧ WebOk n es ∧ Full n ls ∧ a < 2 ^ n.toNat ∧ b < 2 ^ n.toNat ∧ (∀ k : Nat, DstR (Stp n es ls) a k b → q (.int (k : Nat))) ∧ (¬ Jn (Stp n es ls) a b → q .none)
def sd_way_between : SD := fun ds q => ∃ n es ls a b, ds = [wD n es, lD ls, tI (bitsOf a), tI (bitsOf b)] ∧ WebOk n es ∧ Full n ls ∧ a < 2 ^ n.toNat ∧ b < 2 ^ n.toNat ∧ (∀ P : List Int, LeastP n es ls a P b → q (tI P)) ∧ (¬ Jn (Stp n es ls) a b → q .none)
def sd_farthest : SD := fun ds q => ∃ n es ls a, ds = [wD n es, lD ls, tI (bitsOf a)] ∧ WebOk n es ∧ Full n ls ∧ a < 2 ^ n.toNat ∧ ∀ (m : Nat) (ss : List (List Int)), (∃ s, DstR (Stp n es ls) a m s) → (∀ k s, DstR (Stp n es ls) a k s → k ≤ m) → ss.Nodup → (∀ x, x ∈ ss ↔ ∃ s, DstR (Stp n es ls) a m s ∧ x = bitsOf s) → ss.Pairwise (· ≤ ·) → q (.tuple [.int (m : Nat), .tuple (ss.map tI)])
def sd_state_parts : SD := fun ds q => ∃ n es ls, ds = [wD n es, lD ls] ∧ WebOk n es ∧ Full n ls ∧ ∀ ts : List Int, ts.Pairwise (· ≤ ·) → ts.Perm ((repsR (Stp n es ls) (2 ^ n.toNat)).map fun r => ((szR (Stp n es ls) (2 ^ n.toNat) r : Nat) : Int)) → q (tI ts)
section
variable {P : Program} {w : World} {K : PySem.W.Frag} {mg : Str → Option Value} {base : Heap}
theorem fn_is_integer (T : Top K mg) : Fn P w K mg base 1 "is_integer" (spD K 1 sd_is_integer) := by
  refine defD T.d_is_integer sc_is_integer (by decide) (fun f cdv A outer s H E hr => (dss_one (ds_ret (de_and (de_isi (T := "int") (by decide) rfl T.b_isinstance rfl T.b_int (by decide +kernel) (dbv 0)) (de_one (de_not (de_isi (T := "bool") (by decide) rfl T.b_isinstance rfl T.b_bool (by decide +kernel) (dbv 0)))))))) ?_
  rintro ds q hl ⟨d, rfl, hq⟩
  simp only [tdSeq, tdIfS, tdRet, tdRetN, tdNext, tdNever, tdDrop, tdBreak, tdCont, tdSet, tdOwn, tdAsg, tdAppend, tdExtend, tdPop, tdAug, tdAugSub, tdPar, tdParOO, tdParSO, tdAsgSOS, tdParSD, tdPutT, tdSortKeys, tdFor, tdLc, tdYes, gdName, gdNil, gdCons, gdTup, gdSub, tdSh, tdLent, tdC, td1, td2, tf1, tdB, tdAnd, tdOr, tdNot, tdAndV, tdOrV, tdNotV, tdIf, tdNil, tdCons, tdTup, tdLst, tdChain, tdIxB, tdRep, tdCat, tdCall, tdCallR, tiL, tiT, tiR1, tiR2, rI, rI0, rU, rLen, rInts, rBools, rInt, rTuple, rList, rIxD, nn_none, nn_int, nn_tup, noOwn, wipeD, Slot.addr, truD, List.getElem?_cons_zero, List.getElem?_cons_succ, List.set_cons_zero, List.set_cons_succ, List.map_cons, List.map_nil, List.length_cons, List.length_nil, List.cons_append, List.nil_append, List.replicate, Nat.sub_self, Nat.zero_add, Nat.add_one_sub_one, Nat.reduceAdd, Nat.reduceSub, Nat.succ_sub_succ_eq_sub, Nat.sub_zero, List.all_cons, List.all_nil, Option.isNone_none, Bool.and_self, Bool.and_true, List.reduceReplicate, true_and, and_true, wD, bD, lD, pD, if_true, if_false, Bool.not_true, Bool.not_false, Bool.false_eq_true]
  cases d <;> simp only [ii, ib, it, il, is', ti, tb, tt, tl, ts', li, lb, lt', ll, ls', ni, nb, nt, nl, ns', bi, bb, bt, bl', bs, si, sb, st', sl, ss, di, db, dt, dl, ds', if_true, if_false, Bool.not_true, Bool.not_false, Bool.false_eq_true, Bool.or_self, Bool.or_true, Bool.true_or, Bool.or_false, Bool.false_or] <;> exact hq
theorem fn_is_between (T : Top K mg) (F_is_integer : Fn P w K mg base 1 "is_integer" (spD K 1 sd_is_integer)) : Fn P w K mg base 2 "is_between" (spD K 3 sd_is_between) := by
  refine defD T.d_is_between sc_is_between (by decide) (fun f cdv A outer s H E hr => (dss_one (ds_ret (de_and (dcall F_is_integer hr (da_cons (dv 0) da_nil)) (de_one (de_chain l_le l_le (dv 1) (dv 0) (dv 2))))))) ?_
  rintro ds q hl ⟨d, lo, hi, rfl, hq⟩
  simp only [tdSeq, tdIfS, tdRet, tdRetN, tdNext, tdNever, tdDrop, tdBreak, tdCont, tdSet, tdOwn, tdAsg, tdAppend, tdExtend, tdPop, tdAug, tdAugSub, tdPar, tdParOO, tdParSO, tdAsgSOS, tdParSD, tdPutT, tdSortKeys, tdFor, tdLc, tdYes, gdName, gdNil, gdCons, gdTup, gdSub, tdSh, tdLent, tdC, td1, td2, tf1, tdB, tdAnd, tdOr, tdNot, tdAndV, tdOrV, tdNotV, tdIf, tdNil, tdCons, tdTup, tdLst, tdChain, tdIxB, tdRep, tdCat, tdCall, tdCallR, tiL, tiT, tiR1, tiR2, rI, rI0, rU, rLen, rInts, rBools, rInt, rTuple, rList, rIxD, nn_none, nn_int, nn_tup, noOwn, wipeD, Slot.addr, truD, List.getElem?_cons_zero, List.getElem?_cons_succ, List.set_cons_zero, List.set_cons_succ, List.map_cons, List.map_nil, List.length_cons, List.length_nil, List.cons_append, List.nil_append, List.replicate, Nat.sub_self, Nat.zero_add, Nat.add_one_sub_one, Nat.reduceAdd, Nat.reduceSub, Nat.succ_sub_succ_eq_sub, Nat.sub_zero, List.all_cons, List.all_nil, Option.isNone_none, Bool.and_self, Bool.and_true, List.reduceReplicate, true_and, and_true, wD, bD, lD, pD, if_true, if_false, Bool.not_true, Bool.not_false, Bool.false_eq_true]
  refine ⟨d, rfl, ?_⟩
  cases d <;> first | exact hq | skip
  rename_i i
  unfold betw at hq
  by_cases h1 : lo ≤ i <;> by_cases h2 : i ≤ hi <;> simp only [isIntD, h1, h2, decide_true, decide_false, if_true, if_false, and_self, and_true, and_false, false_and, true_and, Bool.false_eq_true] at hq ⊢ <;> exact hq
theorem fn_is_tuple_of (T : Top K mg) : Fn P w K mg base 1 "is_tuple_of" (spD K 2 sd_is_tuple_of) := by
  refine defD T.d_is_tuple_of sc_is_tuple_of (by decide) (fun f cdv A outer s H E hr => (dss_one (ds_ret (de_and (de_isi (T := "tuple") (by decide) rfl T.b_isinstance rfl T.b_tuple (by decide +kernel) (dbv 0)) (de_one (de_cmp (l_eq hr.units) (de_b1 call_len_seq l1_len rfl T.b_len (by decide +kernel) (d1 (dbv 0))) (dv 1) (nomark _))))))) ?_
  rintro ds q hl ⟨d, n, rfl, hq⟩
  simp only [tdSeq, tdIfS, tdRet, tdRetN, tdNext, tdNever, tdDrop, tdBreak, tdCont, tdSet, tdOwn, tdAsg, tdAppend, tdExtend, tdPop, tdAug, tdAugSub, tdPar, tdParOO, tdParSO, tdAsgSOS, tdParSD, tdPutT, tdSortKeys, tdFor, tdLc, tdYes, gdName, gdNil, gdCons, gdTup, gdSub, tdSh, tdLent, tdC, td1, td2, tf1, tdB, tdAnd, tdOr, tdNot, tdAndV, tdOrV, tdNotV, tdIf, tdNil, tdCons, tdTup, tdLst, tdChain, tdIxB, tdRep, tdCat, tdCall, tdCallR, tiL, tiT, tiR1, tiR2, rI, rI0, rU, rLen, rInts, rBools, rInt, rTuple, rList, rIxD, nn_none, nn_int, nn_tup, noOwn, wipeD, Slot.addr, truD, List.getElem?_cons_zero, List.getElem?_cons_succ, List.set_cons_zero, List.set_cons_succ, List.map_cons, List.map_nil, List.length_cons, List.length_nil, List.cons_append, List.nil_append, List.replicate, Nat.sub_self, Nat.zero_add, Nat.add_one_sub_one, Nat.reduceAdd, Nat.reduceSub, Nat.succ_sub_succ_eq_sub, Nat.sub_zero, List.all_cons, List.all_nil, Option.isNone_none, Bool.and_self, Bool.and_true, List.reduceReplicate, true_and, and_true, wD, bD, lD, pD, if_true, if_false, Bool.not_true, Bool.not_false, Bool.false_eq_true]
  cases d <;> simp only [ii, ib, it, il, is', ti, tb, tt, tl, ts', li, lb, lt', ll, ls', ni, nb, nt, nl, ns', bi, bb, bt, bl', bs, si, sb, st', sl, ss, di, db, dt, dl, ds', if_true, if_false, Bool.not_true, Bool.not_false, Bool.false_eq_true, Bool.or_self, Bool.or_true, Bool.true_or, Bool.or_false, Bool.false_or] <;> first | exact hq | (rename_i xs; simp only [sh_int, eqv_int, true_and]; exact hq)
theorem fn_are_rising (T : Top K mg) : Fn P w K mg base 1 "are_rising" (spD K 1 sd_are_rising) := by
  refine defD T.d_are_rising sc_are_rising (by decide) (fun f cdv A outer s H E hr => (dss_one (ds_ret (de_b1 (cr_all rfl) l1_all rfl T.b_all (by decide +kernel) (d1 (DE.lend (DF.de (df_lc (own := [("index", 1)]) rfl sc_are_rising.nd (di_range2 rfl T.b_range (da_cons de_int (da_cons (de_b1 call_len_seq l1_len rfl T.b_len (by decide +kernel) (d1 (dbv 0))) da_nil))) (blkOk_by (N := ["items", "index"]) (sc := defScope s_are_rising) (by decide +kernel)) (fun _ _ _ _ _ => (dgn 1 sc_are_rising.nd)) (fun _ _ _ _ _ => dts_nil) (fun _ _ _ _ _ => (de_cmp l_lt (de_ix (dv 0) (de_op l_sub (dv 1) de_int) (fun _ _ => rfl)) (de_ix (dv 0) (dv 1) (fun _ _ => rfl)) (nomark _))))))))))) ?_
  rintro ds q hl ⟨S, rfl, hS, hlen, hq⟩
  simp only [tdSeq, tdIfS, tdRet, tdRetN, tdNext, tdNever, tdDrop, tdBreak, tdCont, tdSet, tdOwn, tdAsg, tdAppend, tdExtend, tdPop, tdAug, tdAugSub, tdPar, tdParOO, tdParSO, tdAsgSOS, tdParSD, tdPutT, tdSortKeys, tdFor, tdLc, tdYes, gdName, gdNil, gdCons, gdTup, gdSub, tdSh, tdLent, tdC, td1, td2, tf1, tdB, tdAnd, tdOr, tdNot, tdAndV, tdOrV, tdNotV, tdIf, tdNil, tdCons, tdTup, tdLst, tdChain, tdIxB, tdRep, tdCat, tdCall, tdCallR, tiL, tiT, tiR1, tiR2, rI, rI0, rU, rLen, rInts, rBools, rInt, rTuple, rList, rIxD, nn_none, nn_int, nn_tup, noOwn, wipeD, Slot.addr, truD, List.getElem?_cons_zero, List.getElem?_cons_succ, List.set_cons_zero, List.set_cons_succ, List.map_cons, List.map_nil, List.length_cons, List.length_nil, List.cons_append, List.nil_append, List.replicate, Nat.sub_self, Nat.zero_add, Nat.add_one_sub_one, Nat.reduceAdd, Nat.reduceSub, Nat.succ_sub_succ_eq_sub, Nat.sub_zero, List.all_cons, List.all_nil, Option.isNone_none, Bool.and_self, Bool.and_true, List.reduceReplicate, true_and, and_true, wD, bD, lD, pD, if_true, if_false, Bool.not_true, Bool.not_false, Bool.false_eq_true]
  rw [List.length_map]
  refine ⟨⟨by omega, by omega, by omega, by omega⟩, ?_⟩
  refine wLc_map (fun (k : Nat) => PyData.int (1 + (k : Int))) (fun _ => true) (fun _ => .bool true) (List.range ((S.length : Int) - 1).toNat) (by rw [List.length_range]; unfold sizeLine; omega) ?_ ?_
  · intro j hj k1 k2 hk1 hk2
    have hj' := List.mem_range.mp hj
    have j1 : j < S.length := by omega
    have j2 : j + 1 < S.length := by omega
    simp only [tdSeq, tdIfS, tdRet, tdRetN, tdNext, tdNever, tdDrop, tdBreak, tdCont, tdSet, tdOwn, tdAsg, tdAppend, tdExtend, tdPop, tdAug, tdAugSub, tdPar, tdParOO, tdParSO, tdAsgSOS, tdParSD, tdPutT, tdSortKeys, tdFor, tdLc, tdYes, gdName, gdNil, gdCons, gdTup, gdSub, tdSh, tdLent, tdC, td1, td2, tf1, tdB, tdAnd, tdOr, tdNot, tdAndV, tdOrV, tdNotV, tdIf, tdNil, tdCons, tdTup, tdLst, tdChain, tdIxB, tdRep, tdCat, tdCall, tdCallR, tiL, tiT, tiR1, tiR2, rI, rI0, rU, rLen, rInts, rBools, rInt, rTuple, rList, rIxD, nn_none, nn_int, nn_tup, noOwn, wipeD, Slot.addr, truD, List.getElem?_cons_zero, List.getElem?_cons_succ, List.set_cons_zero, List.set_cons_succ, List.map_cons, List.map_nil, List.length_cons, List.length_nil, List.cons_append, List.nil_append, List.replicate, Nat.sub_self, Nat.zero_add, Nat.add_one_sub_one, Nat.reduceAdd, Nat.reduceSub, Nat.succ_sub_succ_eq_sub, Nat.sub_zero, List.all_cons, List.all_nil, Option.isNone_none, Bool.and_self, Bool.and_true, List.reduceReplicate, true_and, and_true, wD, bD, lD, pD, if_true, if_false, Bool.not_true, Bool.not_false, Bool.false_eq_true]
    refine ⟨.int S[j], ?_, .int S[j + 1], ?_, ?_⟩
    · rw [show (1 : Int) + (j : Int) - 1 = (j : Int) by omega, atI_nat (by rw [List.length_map]; exact j1), List.getElem?_map, List.getElem?_eq_getElem j1]; rfl
    · rw [show (1 : Int) + (j : Int) = ((j + 1 : Nat) : Int) by omega, atI_nat (by rw [List.length_map]; exact j2), List.getElem?_map, List.getElem?_eq_getElem j2]; rfl
    simp only [tdSeq, tdIfS, tdRet, tdRetN, tdNext, tdNever, tdDrop, tdBreak, tdCont, tdSet, tdOwn, tdAsg, tdAppend, tdExtend, tdPop, tdAug, tdAugSub, tdPar, tdParOO, tdParSO, tdAsgSOS, tdParSD, tdPutT, tdSortKeys, tdFor, tdLc, tdYes, gdName, gdNil, gdCons, gdTup, gdSub, tdSh, tdLent, tdC, td1, td2, tf1, tdB, tdAnd, tdOr, tdNot, tdAndV, tdOrV, tdNotV, tdIf, tdNil, tdCons, tdTup, tdLst, tdChain, tdIxB, tdRep, tdCat, tdCall, tdCallR, tiL, tiT, tiR1, tiR2, rI, rI0, rU, rLen, rInts, rBools, rInt, rTuple, rList, rIxD, nn_none, nn_int, nn_tup, noOwn, wipeD, Slot.addr, truD, List.getElem?_cons_zero, List.getElem?_cons_succ, List.set_cons_zero, List.set_cons_succ, List.map_cons, List.map_nil, List.length_cons, List.length_nil, List.cons_append, List.nil_append, List.replicate, Nat.sub_self, Nat.zero_add, Nat.add_one_sub_one, Nat.reduceAdd, Nat.reduceSub, Nat.succ_sub_succ_eq_sub, Nat.sub_zero, List.all_cons, List.all_nil, Option.isNone_none, Bool.and_self, Bool.and_true, List.reduceReplicate, true_and, and_true, wD, bD, lD, pD, if_true, if_false, Bool.not_true, Bool.not_false, Bool.false_eq_true]
    have := List.pairwise_iff_getElem.mp hS j (j + 1) j1 j2 (by omega)
    rw [decide_eq_true this]
    exact hk1 rfl
  · rw [filt_true]
    refine ⟨(List.range ((S.length : Int) - 1).toNat).map fun _ => true, by rw [List.map_map]; rfl, ?_⟩
    rw [show (((List.range ((S.length : Int) - 1).toNat).map fun _ => true).all id) = true by rw [List.all_map]; exact List.all_eq_true.mpr fun _ _ => rfl]
    exact hq
theorem fn_is_rising (T : Top K mg) (F_are_rising : Fn P w K mg base 1 "are_rising" (spD K 1 sd_are_rising)) (F_is_between : Fn P w K mg base 2 "is_between" (spD K 3 sd_is_between)) : Fn P w K mg base 3 "is_rising" (spD K 2 sd_is_rising) := by
  refine defD T.d_is_rising sc_is_rising (by decide) (fun f cdv A outer s H E hr => (dss_cons (ds_if (DW.dt (dw_or (dt_not (dt_val (de_isi (T := "tuple") (by decide) rfl T.b_isinstance rfl T.b_tuple (by decide +kernel) (dbv 0)))) (dw_or1 (dt_not (dt_val (de_b1 (cr_all rfl) l1_all rfl T.b_all (by decide +kernel) (d1 (DE.lend (DF.de (df_lc (own := [("item", 2)]) rfl sc_is_rising.nd (di_tup (dv 0)) (blkOk_by (N := ["value", "many", "item"]) (sc := defScope s_is_rising) (by decide +kernel)) (fun _ _ _ _ _ => (dgn 2 sc_is_rising.nd)) (fun _ _ _ _ _ => dts_nil) (fun _ _ _ _ _ => (dcall F_is_between hr (da_cons (dv 2) (da_cons de_int (da_cons (de_op l_sub (dv 1) de_int) da_nil))))))))))))))) (dss_one (ds_ret de_bl)) dss_nil)
  (dss_one (ds_ret (dcall F_are_rising hr (da_cons (dv 0) da_nil)))))) ?_
  rintro ds q hl ⟨n, S, rfl, h9, O, hq⟩
  have hlen := O.len h9
  have e : (S.map fun i => betw (.int i) 0 (n - 1)).all id = true := by
    rw [List.all_map, List.all_eq_true]
    intro i hi
    have := O.rng i hi
    show betw (.int i) 0 (n - 1) = true
    rw [betw_int]; exact decide_eq_true (by omega)
  simp only [tdSeq, tdIfS, tdRet, tdRetN, tdNext, tdNever, tdDrop, tdBreak, tdCont, tdSet, tdOwn, tdAsg, tdAppend, tdExtend, tdPop, tdAug, tdAugSub, tdPar, tdParOO, tdParSO, tdAsgSOS, tdParSD, tdPutT, tdSortKeys, tdFor, tdLc, tdYes, gdName, gdNil, gdCons, gdTup, gdSub, tdSh, tdLent, tdC, td1, td2, tf1, tdB, tdAnd, tdOr, tdNot, tdAndV, tdOrV, tdNotV, tdIf, tdNil, tdCons, tdTup, tdLst, tdChain, tdIxB, tdRep, tdCat, tdCall, tdCallR, tiL, tiT, tiR1, tiR2, rI, rI0, rU, rLen, rInts, rBools, rInt, rTuple, rList, rIxD, nn_none, nn_int, nn_tup, noOwn, wipeD, Slot.addr, truD, List.getElem?_cons_zero, List.getElem?_cons_succ, List.set_cons_zero, List.set_cons_succ, List.map_cons, List.map_nil, List.length_cons, List.length_nil, List.cons_append, List.nil_append, List.replicate, Nat.sub_self, Nat.zero_add, Nat.add_one_sub_one, Nat.reduceAdd, Nat.reduceSub, Nat.succ_sub_succ_eq_sub, Nat.sub_zero, List.all_cons, List.all_nil, Option.isNone_none, Bool.and_self, Bool.and_true, List.reduceReplicate, true_and, and_true, wD, bD, lD, pD, if_true, if_false, Bool.not_true, Bool.not_false, Bool.false_eq_true]
  simp only [ii, ib, it, il, is', ti, tb, tt, tl, ts', li, lb, lt', ll, ls', ni, nb, nt, nl, ns', bi, bb, bt, bl', bs, si, sb, st', sl, ss, di, db, dt, dl, ds', if_true, if_false, Bool.not_true, Bool.not_false, Bool.false_eq_true, Bool.or_self, Bool.or_true, Bool.true_or, Bool.or_false, Bool.false_or]
  refine wLc_map PyData.int (fun _ => true) (fun i => .bool (betw (.int i) 0 (n - 1))) S (by unfold sizeLine; omega) ?_ ?_
  · intro i hi k1 k2 hk1 hk2
    simp only [tdSeq, tdIfS, tdRet, tdRetN, tdNext, tdNever, tdDrop, tdBreak, tdCont, tdSet, tdOwn, tdAsg, tdAppend, tdExtend, tdPop, tdAug, tdAugSub, tdPar, tdParOO, tdParSO, tdAsgSOS, tdParSD, tdPutT, tdSortKeys, tdFor, tdLc, tdYes, gdName, gdNil, gdCons, gdTup, gdSub, tdSh, tdLent, tdC, td1, td2, tf1, tdB, tdAnd, tdOr, tdNot, tdAndV, tdOrV, tdNotV, tdIf, tdNil, tdCons, tdTup, tdLst, tdChain, tdIxB, tdRep, tdCat, tdCall, tdCallR, tiL, tiT, tiR1, tiR2, rI, rI0, rU, rLen, rInts, rBools, rInt, rTuple, rList, rIxD, nn_none, nn_int, nn_tup, noOwn, wipeD, Slot.addr, truD, List.getElem?_cons_zero, List.getElem?_cons_succ, List.set_cons_zero, List.set_cons_succ, List.map_cons, List.map_nil, List.length_cons, List.length_nil, List.cons_append, List.nil_append, List.replicate, Nat.sub_self, Nat.zero_add, Nat.add_one_sub_one, Nat.reduceAdd, Nat.reduceSub, Nat.succ_sub_succ_eq_sub, Nat.sub_zero, List.all_cons, List.all_nil, Option.isNone_none, Bool.and_self, Bool.and_true, List.reduceReplicate, true_and, and_true, wD, bD, lD, pD, if_true, if_false, Bool.not_true, Bool.not_false, Bool.false_eq_true]
    exact ⟨_, _, _, rfl, hk1 rfl⟩
  · rw [filt_true]
    refine ⟨S.map fun i => betw (.int i) 0 (n - 1), by rw [List.map_map]; rfl, ?_⟩
    rw [e]
    simp only [tdSeq, tdIfS, tdRet, tdRetN, tdNext, tdNever, tdDrop, tdBreak, tdCont, tdSet, tdOwn, tdAsg, tdAppend, tdExtend, tdPop, tdAug, tdAugSub, tdPar, tdParOO, tdParSO, tdAsgSOS, tdParSD, tdPutT, tdSortKeys, tdFor, tdLc, tdYes, gdName, gdNil, gdCons, gdTup, gdSub, tdSh, tdLent, tdC, td1, td2, tf1, tdB, tdAnd, tdOr, tdNot, tdAndV, tdOrV, tdNotV, tdIf, tdNil, tdCons, tdTup, tdLst, tdChain, tdIxB, tdRep, tdCat, tdCall, tdCallR, tiL, tiT, tiR1, tiR2, rI, rI0, rU, rLen, rInts, rBools, rInt, rTuple, rList, rIxD, nn_none, nn_int, nn_tup, noOwn, wipeD, Slot.addr, truD, List.getElem?_cons_zero, List.getElem?_cons_succ, List.set_cons_zero, List.set_cons_succ, List.map_cons, List.map_nil, List.length_cons, List.length_nil, List.cons_append, List.nil_append, List.replicate, Nat.sub_self, Nat.zero_add, Nat.add_one_sub_one, Nat.reduceAdd, Nat.reduceSub, Nat.succ_sub_succ_eq_sub, Nat.sub_zero, List.all_cons, List.all_nil, Option.isNone_none, Bool.and_self, Bool.and_true, List.reduceReplicate, true_and, and_true, wD, bD, lD, pD, if_true, if_false, Bool.not_true, Bool.not_false, Bool.false_eq_true]
    exact ⟨_, rfl, O.asc, hlen, hq⟩
theorem fn_is_edge (T : Top K mg) (F_is_tuple_of : Fn P w K mg base 1 "is_tuple_of" (spD K 2 sd_is_tuple_of)) (F_is_between : Fn P w K mg base 2 "is_between" (spD K 3 sd_is_between)) : Fn P w K mg base 3 "is_edge" (spD K 2 sd_is_edge) := by
  refine defD T.d_is_edge sc_is_edge (by decide) (fun f cdv A outer s H E hr => (dss_cons (ds_if (dt_not (dt_val (dcall F_is_tuple_of hr (da_cons (dv 0) (da_cons de_int da_nil))))) (dss_one (ds_ret de_bl)) dss_nil)
  (dss_one (ds_ret (de_and (dcall F_is_between hr (da_cons (de_ix (dv 0) de_int (fun _ _ => rfl)) (da_cons de_int (da_cons (de_op l_sub (dv 1) de_int) da_nil)))) (de_one (dcall F_is_between hr (da_cons (de_ix (dv 0) de_int (fun _ _ => rfl)) (da_cons (de_op l_add (de_ix (dv 0) de_int (fun _ _ => rfl)) de_int) (da_cons (de_op l_sub (dv 1) de_int) da_nil)))))))))) ?_
  rintro ds q hl ⟨a, b, n, rfl, hq⟩
  simp only [tdSeq, tdIfS, tdRet, tdRetN, tdNext, tdNever, tdDrop, tdBreak, tdCont, tdSet, tdOwn, tdAsg, tdAppend, tdExtend, tdPop, tdAug, tdAugSub, tdPar, tdParOO, tdParSO, tdAsgSOS, tdParSD, tdPutT, tdSortKeys, tdFor, tdLc, tdYes, gdName, gdNil, gdCons, gdTup, gdSub, tdSh, tdLent, tdC, td1, td2, tf1, tdB, tdAnd, tdOr, tdNot, tdAndV, tdOrV, tdNotV, tdIf, tdNil, tdCons, tdTup, tdLst, tdChain, tdIxB, tdRep, tdCat, tdCall, tdCallR, tiL, tiT, tiR1, tiR2, rI, rI0, rU, rLen, rInts, rBools, rInt, rTuple, rList, rIxD, nn_none, nn_int, nn_tup, noOwn, wipeD, Slot.addr, truD, List.getElem?_cons_zero, List.getElem?_cons_succ, List.set_cons_zero, List.set_cons_succ, List.map_cons, List.map_nil, List.length_cons, List.length_nil, List.cons_append, List.nil_append, List.replicate, Nat.sub_self, Nat.zero_add, Nat.add_one_sub_one, Nat.reduceAdd, Nat.reduceSub, Nat.succ_sub_succ_eq_sub, Nat.sub_zero, List.all_cons, List.all_nil, Option.isNone_none, Bool.and_self, Bool.and_true, List.reduceReplicate, true_and, and_true, wD, bD, lD, pD, if_true, if_false, Bool.not_true, Bool.not_false, Bool.false_eq_true]
  refine ⟨_, _, rfl, ?_⟩
  rw [show tupOf (.tuple [.int a, .int b]) 2 = true from rfl]
  simp only [tdSeq, tdIfS, tdRet, tdRetN, tdNext, tdNever, tdDrop, tdBreak, tdCont, tdSet, tdOwn, tdAsg, tdAppend, tdExtend, tdPop, tdAug, tdAugSub, tdPar, tdParOO, tdParSO, tdAsgSOS, tdParSD, tdPutT, tdSortKeys, tdFor, tdLc, tdYes, gdName, gdNil, gdCons, gdTup, gdSub, tdSh, tdLent, tdC, td1, td2, tf1, tdB, tdAnd, tdOr, tdNot, tdAndV, tdOrV, tdNotV, tdIf, tdNil, tdCons, tdTup, tdLst, tdChain, tdIxB, tdRep, tdCat, tdCall, tdCallR, tiL, tiT, tiR1, tiR2, rI, rI0, rU, rLen, rInts, rBools, rInt, rTuple, rList, rIxD, nn_none, nn_int, nn_tup, noOwn, wipeD, Slot.addr, truD, List.getElem?_cons_zero, List.getElem?_cons_succ, List.set_cons_zero, List.set_cons_succ, List.map_cons, List.map_nil, List.length_cons, List.length_nil, List.cons_append, List.nil_append, List.replicate, Nat.sub_self, Nat.zero_add, Nat.add_one_sub_one, Nat.reduceAdd, Nat.reduceSub, Nat.succ_sub_succ_eq_sub, Nat.sub_zero, List.all_cons, List.all_nil, Option.isNone_none, Bool.and_self, Bool.and_true, List.reduceReplicate, true_and, and_true, wD, bD, lD, pD, if_true, if_false, Bool.not_true, Bool.not_false, Bool.false_eq_true]
  refine ⟨_, rfl, _, _, _, rfl, ?_⟩
  cases h : betw (.int a) 0 (n - 1) with
  | false => rw [h] at hq; simp only [tdSeq, tdIfS, tdRet, tdRetN, tdNext, tdNever, tdDrop, tdBreak, tdCont, tdSet, tdOwn, tdAsg, tdAppend, tdExtend, tdPop, tdAug, tdAugSub, tdPar, tdParOO, tdParSO, tdAsgSOS, tdParSD, tdPutT, tdSortKeys, tdFor, tdLc, tdYes, gdName, gdNil, gdCons, gdTup, gdSub, tdSh, tdLent, tdC, td1, td2, tf1, tdB, tdAnd, tdOr, tdNot, tdAndV, tdOrV, tdNotV, tdIf, tdNil, tdCons, tdTup, tdLst, tdChain, tdIxB, tdRep, tdCat, tdCall, tdCallR, tiL, tiT, tiR1, tiR2, rI, rI0, rU, rLen, rInts, rBools, rInt, rTuple, rList, rIxD, nn_none, nn_int, nn_tup, noOwn, wipeD, Slot.addr, truD, List.getElem?_cons_zero, List.getElem?_cons_succ, List.set_cons_zero, List.set_cons_succ, List.map_cons, List.map_nil, List.length_cons, List.length_nil, List.cons_append, List.nil_append, List.replicate, Nat.sub_self, Nat.zero_add, Nat.add_one_sub_one, Nat.reduceAdd, Nat.reduceSub, Nat.succ_sub_succ_eq_sub, Nat.sub_zero, List.all_cons, List.all_nil, Option.isNone_none, Bool.and_self, Bool.and_true, List.reduceReplicate, true_and, and_true, wD, bD, lD, pD, if_true, if_false, Bool.not_true, Bool.not_false, Bool.false_eq_true]; exact hq
  | true => rw [h] at hq; simp only [tdSeq, tdIfS, tdRet, tdRetN, tdNext, tdNever, tdDrop, tdBreak, tdCont, tdSet, tdOwn, tdAsg, tdAppend, tdExtend, tdPop, tdAug, tdAugSub, tdPar, tdParOO, tdParSO, tdAsgSOS, tdParSD, tdPutT, tdSortKeys, tdFor, tdLc, tdYes, gdName, gdNil, gdCons, gdTup, gdSub, tdSh, tdLent, tdC, td1, td2, tf1, tdB, tdAnd, tdOr, tdNot, tdAndV, tdOrV, tdNotV, tdIf, tdNil, tdCons, tdTup, tdLst, tdChain, tdIxB, tdRep, tdCat, tdCall, tdCallR, tiL, tiT, tiR1, tiR2, rI, rI0, rU, rLen, rInts, rBools, rInt, rTuple, rList, rIxD, nn_none, nn_int, nn_tup, noOwn, wipeD, Slot.addr, truD, List.getElem?_cons_zero, List.getElem?_cons_succ, List.set_cons_zero, List.set_cons_succ, List.map_cons, List.map_nil, List.length_cons, List.length_nil, List.cons_append, List.nil_append, List.replicate, Nat.sub_self, Nat.zero_add, Nat.add_one_sub_one, Nat.reduceAdd, Nat.reduceSub, Nat.succ_sub_succ_eq_sub, Nat.sub_zero, List.all_cons, List.all_nil, Option.isNone_none, Bool.and_self, Bool.and_true, List.reduceReplicate, true_and, and_true, wD, bD, lD, pD, if_true, if_false, Bool.not_true, Bool.not_false, Bool.false_eq_true]; exact ⟨_, rfl, _, rfl, _, _, _, rfl, hq⟩
theorem fn_check_web (T : Top K mg) (F_is_tuple_of : Fn P w K mg base 1 "is_tuple_of" (spD K 2 sd_is_tuple_of)) (F_is_between : Fn P w K mg base 2 "is_between" (spD K 3 sd_is_between)) (F_is_edge : Fn P w K mg base 3 "is_edge" (spD K 2 sd_is_edge)) : Fn P w K mg base 4 "check_web" (spD K 1 sd_check_web) := by
  refine defD T.d_check_web sc_check_web (by decide) (fun f cdv A outer s H E hr => (dss_cons (ds_if (DW.dt (dw_or (dt_not (dt_val (dcall F_is_tuple_of hr (da_cons (dv 0) (da_cons de_int da_nil))))) (dw_or (dt_not (dt_val (dcall F_is_between hr (da_cons (de_ix (dv 0) de_int (fun _ _ => rfl)) (da_cons de_int (da_cons (de_globI rfl T.c_MOST_PLACES) da_nil)))))) (dw_or1 (dt_not (dt_val (de_isi (T := "tuple") (by decide) rfl T.b_isinstance rfl T.b_tuple (by decide +kernel) (DE.lend (de_ix (dv 0) de_int (fun _ _ => rfl)))))))))) (dss_one ds_never) dss_nil)
  (dss_cons (ds_asg (dv 0) (dg_tup (n := 2) rfl (dgs_cons (dgn 1 sc_check_web.nd) (dgs_cons (dgn 2 sc_check_web.nd) dgs_nil))))
  (dss_one (ds_for PassesOwn.never rfl (di_enumT rfl T.b_enumerate (dv 2)) (dg_tup (n := 2) rfl (dgs_cons (dgn 3 sc_check_web.nd) (dgs_cons (dgn 4 sc_check_web.nd) dgs_nil)))
   (dss_one (ds_if (DW.dt (dw_or (dt_not (dt_val (dcall F_is_edge hr (da_cons (dv 4) (da_cons (dv 1) da_nil))))) (dw_or1 (DW.dt (dw_and (dt_cmp l_gt (dv 3) de_int (nomark _)) (dw_and1 (dt_cmp (l_leT hr.units0) (dv 4) (de_ix (dv 2) (de_op l_sub (dv 3) de_int) (fun _ _ => rfl)) (nomark _)))))))) (dss_one ds_never) dss_nil))))))) ?_
  rintro ds q hl ⟨n, es, rfl, W, hq⟩
  have h1 := W.lo
  have h2 := W.hi
  have e1 : tupOf (wD n es) 2 = true := rfl
  have e2 : betw (.int n) 1 9 = true := by unfold betw; exact decide_eq_true ⟨h1, h2⟩
  simp only [tdSeq, tdIfS, tdRet, tdRetN, tdNext, tdNever, tdDrop, tdBreak, tdCont, tdSet, tdOwn, tdAsg, tdAppend, tdExtend, tdPop, tdAug, tdAugSub, tdPar, tdParOO, tdParSO, tdAsgSOS, tdParSD, tdPutT, tdSortKeys, tdFor, tdLc, tdYes, gdName, gdNil, gdCons, gdTup, gdSub, tdSh, tdLent, tdC, td1, td2, tf1, tdB, tdAnd, tdOr, tdNot, tdAndV, tdOrV, tdNotV, tdIf, tdNil, tdCons, tdTup, tdLst, tdChain, tdIxB, tdRep, tdCat, tdCall, tdCallR, tiL, tiT, tiR1, tiR2, rI, rI0, rU, rLen, rInts, rBools, rInt, rTuple, rList, rIxD, nn_none, nn_int, nn_tup, noOwn, wipeD, Slot.addr, truD, List.getElem?_cons_zero, List.getElem?_cons_succ, List.set_cons_zero, List.set_cons_succ, List.map_cons, List.map_nil, List.length_cons, List.length_nil, List.cons_append, List.nil_append, List.replicate, Nat.sub_self, Nat.zero_add, Nat.add_one_sub_one, Nat.reduceAdd, Nat.reduceSub, Nat.succ_sub_succ_eq_sub, Nat.sub_zero, List.all_cons, List.all_nil, Option.isNone_none, Bool.and_self, Bool.and_true, List.reduceReplicate, true_and, and_true, wD, bD, lD, pD, if_true, if_false, Bool.not_true, Bool.not_false, Bool.false_eq_true]
  refine ⟨_, _, rfl, ?_⟩
  rw [show tupOf (.tuple [.int n, .tuple (es.map pD)]) 2 = true from rfl]
  simp only [tdSeq, tdIfS, tdRet, tdRetN, tdNext, tdNever, tdDrop, tdBreak, tdCont, tdSet, tdOwn, tdAsg, tdAppend, tdExtend, tdPop, tdAug, tdAugSub, tdPar, tdParOO, tdParSO, tdAsgSOS, tdParSD, tdPutT, tdSortKeys, tdFor, tdLc, tdYes, gdName, gdNil, gdCons, gdTup, gdSub, tdSh, tdLent, tdC, td1, td2, tf1, tdB, tdAnd, tdOr, tdNot, tdAndV, tdOrV, tdNotV, tdIf, tdNil, tdCons, tdTup, tdLst, tdChain, tdIxB, tdRep, tdCat, tdCall, tdCallR, tiL, tiT, tiR1, tiR2, rI, rI0, rU, rLen, rInts, rBools, rInt, rTuple, rList, rIxD, nn_none, nn_int, nn_tup, noOwn, wipeD, Slot.addr, truD, List.getElem?_cons_zero, List.getElem?_cons_succ, List.set_cons_zero, List.set_cons_succ, List.map_cons, List.map_nil, List.length_cons, List.length_nil, List.cons_append, List.nil_append, List.replicate, Nat.sub_self, Nat.zero_add, Nat.add_one_sub_one, Nat.reduceAdd, Nat.reduceSub, Nat.succ_sub_succ_eq_sub, Nat.sub_zero, List.all_cons, List.all_nil, Option.isNone_none, Bool.and_self, Bool.and_true, List.reduceReplicate, true_and, and_true, wD, bD, lD, pD, if_true, if_false, Bool.not_true, Bool.not_false, Bool.false_eq_true]
  refine ⟨_, rfl, _, _, _, rfl, ?_⟩
  rw [e2]
  simp only [tdSeq, tdIfS, tdRet, tdRetN, tdNext, tdNever, tdDrop, tdBreak, tdCont, tdSet, tdOwn, tdAsg, tdAppend, tdExtend, tdPop, tdAug, tdAugSub, tdPar, tdParOO, tdParSO, tdAsgSOS, tdParSD, tdPutT, tdSortKeys, tdFor, tdLc, tdYes, gdName, gdNil, gdCons, gdTup, gdSub, tdSh, tdLent, tdC, td1, td2, tf1, tdB, tdAnd, tdOr, tdNot, tdAndV, tdOrV, tdNotV, tdIf, tdNil, tdCons, tdTup, tdLst, tdChain, tdIxB, tdRep, tdCat, tdCall, tdCallR, tiL, tiT, tiR1, tiR2, rI, rI0, rU, rLen, rInts, rBools, rInt, rTuple, rList, rIxD, nn_none, nn_int, nn_tup, noOwn, wipeD, Slot.addr, truD, List.getElem?_cons_zero, List.getElem?_cons_succ, List.set_cons_zero, List.set_cons_succ, List.map_cons, List.map_nil, List.length_cons, List.length_nil, List.cons_append, List.nil_append, List.replicate, Nat.sub_self, Nat.zero_add, Nat.add_one_sub_one, Nat.reduceAdd, Nat.reduceSub, Nat.succ_sub_succ_eq_sub, Nat.sub_zero, List.all_cons, List.all_nil, Option.isNone_none, Bool.and_self, Bool.and_true, List.reduceReplicate, true_and, and_true, wD, bD, lD, pD, if_true, if_false, Bool.not_true, Bool.not_false, Bool.false_eq_true]
  refine ⟨_, rfl, ?_⟩
  simp only [ii, ib, it, il, is', ti, tb, tt, tl, ts', li, lb, lt', ll, ls', ni, nb, nt, nl, ns', bi, bb, bt, bl', bs, si, sb, st', sl, ss, di, db, dt, dl, ds', if_true, if_false, Bool.not_true, Bool.not_false, Bool.false_eq_true, Bool.or_self, Bool.or_true, Bool.true_or, Bool.or_false, Bool.false_or]
  refine wFor_ind (fun ds ρ => ∃ (j : Nat) (x y : Slot), ds = (enumD (es.map pD)).drop j ∧ ρ = [.sh (wD n es), .sh (.int n), .sh (.tuple (es.map pD)), x, y]) ?_ ?_ _ _ ⟨0, .un, .un, rfl, rfl⟩
  · intro ρ _; exact hq
  · rintro d ds ρ k ⟨j, x, y, hd, rfl⟩ hk
    obtain ⟨x', hx, rfl, rfl⟩ := enum_step hd
    rw [List.getElem?_map] at hx
    obtain ⟨⟨a, b⟩, hab, rfl⟩ := Option.map_eq_some_iff.mp hx
    obtain ⟨g1, g2, g3⟩ := W.ed _ (List.mem_of_getElem? hab)
    simp only at g1 g2 g3
    simp only [tdSeq, tdIfS, tdRet, tdRetN, tdNext, tdNever, tdDrop, tdBreak, tdCont, tdSet, tdOwn, tdAsg, tdAppend, tdExtend, tdPop, tdAug, tdAugSub, tdPar, tdParOO, tdParSO, tdAsgSOS, tdParSD, tdPutT, tdSortKeys, tdFor, tdLc, tdYes, gdName, gdNil, gdCons, gdTup, gdSub, tdSh, tdLent, tdC, td1, td2, tf1, tdB, tdAnd, tdOr, tdNot, tdAndV, tdOrV, tdNotV, tdIf, tdNil, tdCons, tdTup, tdLst, tdChain, tdIxB, tdRep, tdCat, tdCall, tdCallR, tiL, tiT, tiR1, tiR2, rI, rI0, rU, rLen, rInts, rBools, rInt, rTuple, rList, rIxD, nn_none, nn_int, nn_tup, noOwn, wipeD, Slot.addr, truD, List.getElem?_cons_zero, List.getElem?_cons_succ, List.set_cons_zero, List.set_cons_succ, List.map_cons, List.map_nil, List.length_cons, List.length_nil, List.cons_append, List.nil_append, List.replicate, Nat.sub_self, Nat.zero_add, Nat.add_one_sub_one, Nat.reduceAdd, Nat.reduceSub, Nat.succ_sub_succ_eq_sub, Nat.sub_zero, List.all_cons, List.all_nil, Option.isNone_none, Bool.and_self, Bool.and_true, List.reduceReplicate, true_and, and_true, wD, bD, lD, pD, if_true, if_false, Bool.not_true, Bool.not_false, Bool.false_eq_true]
    refine ⟨_, _, _, rfl, ?_⟩
    have e3 : (betw (.int a) 0 (n - 1) && betw (.int b) (a + 1) (n - 1)) = true := by
      rw [betw_int, betw_int, decide_eq_true (by omega), decide_eq_true (by omega)]; rfl
    rw [e3]
    simp only [tdSeq, tdIfS, tdRet, tdRetN, tdNext, tdNever, tdDrop, tdBreak, tdCont, tdSet, tdOwn, tdAsg, tdAppend, tdExtend, tdPop, tdAug, tdAugSub, tdPar, tdParOO, tdParSO, tdAsgSOS, tdParSD, tdPutT, tdSortKeys, tdFor, tdLc, tdYes, gdName, gdNil, gdCons, gdTup, gdSub, tdSh, tdLent, tdC, td1, td2, tf1, tdB, tdAnd, tdOr, tdNot, tdAndV, tdOrV, tdNotV, tdIf, tdNil, tdCons, tdTup, tdLst, tdChain, tdIxB, tdRep, tdCat, tdCall, tdCallR, tiL, tiT, tiR1, tiR2, rI, rI0, rU, rLen, rInts, rBools, rInt, rTuple, rList, rIxD, nn_none, nn_int, nn_tup, noOwn, wipeD, Slot.addr, truD, List.getElem?_cons_zero, List.getElem?_cons_succ, List.set_cons_zero, List.set_cons_succ, List.map_cons, List.map_nil, List.length_cons, List.length_nil, List.cons_append, List.nil_append, List.replicate, Nat.sub_self, Nat.zero_add, Nat.add_one_sub_one, Nat.reduceAdd, Nat.reduceSub, Nat.succ_sub_succ_eq_sub, Nat.sub_zero, List.all_cons, List.all_nil, Option.isNone_none, Bool.and_self, Bool.and_true, List.reduceReplicate, true_and, and_true, wD, bD, lD, pD, if_true, if_false, Bool.not_true, Bool.not_false, Bool.false_eq_true]
    by_cases h0 : 0 < (j : Int)
    · simp only [h0, decide_true, if_true]
      have hj : j < es.length := (List.getElem?_eq_some_iff.mp hab).1
      have hj1 : j - 1 < es.length := by omega
      have hp : (es.map pD)[j - 1]? = some (pD es[j - 1]) := by rw [List.getElem?_map, List.getElem?_eq_getElem hj1]; rfl
      refine ⟨pD es[j - 1], ?_, ?_⟩
      · have : ((j : Int) - 1) = ((j - 1 : Nat) : Int) := by omega
        rw [this, atI_nat (by simpa using hj1)]; exact hp
      · simp only [tdSeq, tdIfS, tdRet, tdRetN, tdNext, tdNever, tdDrop, tdBreak, tdCont, tdSet, tdOwn, tdAsg, tdAppend, tdExtend, tdPop, tdAug, tdAugSub, tdPar, tdParOO, tdParSO, tdAsgSOS, tdParSD, tdPutT, tdSortKeys, tdFor, tdLc, tdYes, gdName, gdNil, gdCons, gdTup, gdSub, tdSh, tdLent, tdC, td1, td2, tf1, tdB, tdAnd, tdOr, tdNot, tdAndV, tdOrV, tdNotV, tdIf, tdNil, tdCons, tdTup, tdLst, tdChain, tdIxB, tdRep, tdCat, tdCall, tdCallR, tiL, tiT, tiR1, tiR2, rI, rI0, rU, rLen, rInts, rBools, rInt, rTuple, rList, rIxD, nn_none, nn_int, nn_tup, noOwn, wipeD, Slot.addr, truD, List.getElem?_cons_zero, List.getElem?_cons_succ, List.set_cons_zero, List.set_cons_succ, List.map_cons, List.map_nil, List.length_cons, List.length_nil, List.cons_append, List.nil_append, List.replicate, Nat.sub_self, Nat.zero_add, Nat.add_one_sub_one, Nat.reduceAdd, Nat.reduceSub, Nat.succ_sub_succ_eq_sub, Nat.sub_zero, List.all_cons, List.all_nil, Option.isNone_none, Bool.and_self, Bool.and_true, List.reduceReplicate, true_and, and_true, wD, bD, lD, pD, if_true, if_false, Bool.not_true, Bool.not_false, Bool.false_eq_true]
        refine ⟨[a, b], [es[j - 1].1, es[j - 1].2], rfl, rfl, ?_⟩
        rw [lexAt_pair]
        have hlt := List.pairwise_iff_getElem.mp W.so (j - 1) j hj1 hj (by omega)
        have : es[j] = (a, b) := (List.getElem?_eq_some_iff.mp hab).2
        rw [this] at hlt
        have : ¬ lexLe (a, b) (es[j - 1].1, es[j - 1].2) := by
          unfold lexLe lexLt at *
          simp only at hlt ⊢
          omega
        rw [decide_eq_false this]
        simp only [tdSeq, tdIfS, tdRet, tdRetN, tdNext, tdNever, tdDrop, tdBreak, tdCont, tdSet, tdOwn, tdAsg, tdAppend, tdExtend, tdPop, tdAug, tdAugSub, tdPar, tdParOO, tdParSO, tdAsgSOS, tdParSD, tdPutT, tdSortKeys, tdFor, tdLc, tdYes, gdName, gdNil, gdCons, gdTup, gdSub, tdSh, tdLent, tdC, td1, td2, tf1, tdB, tdAnd, tdOr, tdNot, tdAndV, tdOrV, tdNotV, tdIf, tdNil, tdCons, tdTup, tdLst, tdChain, tdIxB, tdRep, tdCat, tdCall, tdCallR, tiL, tiT, tiR1, tiR2, rI, rI0, rU, rLen, rInts, rBools, rInt, rTuple, rList, rIxD, nn_none, nn_int, nn_tup, noOwn, wipeD, Slot.addr, truD, List.getElem?_cons_zero, List.getElem?_cons_succ, List.set_cons_zero, List.set_cons_succ, List.map_cons, List.map_nil, List.length_cons, List.length_nil, List.cons_append, List.nil_append, List.replicate, Nat.sub_self, Nat.zero_add, Nat.add_one_sub_one, Nat.reduceAdd, Nat.reduceSub, Nat.succ_sub_succ_eq_sub, Nat.sub_zero, List.all_cons, List.all_nil, Option.isNone_none, Bool.and_self, Bool.and_true, List.reduceReplicate, true_and, and_true, wD, bD, lD, pD, if_true, if_false, Bool.not_true, Bool.not_false, Bool.false_eq_true]
        exact hk _ ⟨j + 1, _, _, rfl, rfl⟩
    · simp only [h0, decide_false]
      simp only [tdSeq, tdIfS, tdRet, tdRetN, tdNext, tdNever, tdDrop, tdBreak, tdCont, tdSet, tdOwn, tdAsg, tdAppend, tdExtend, tdPop, tdAug, tdAugSub, tdPar, tdParOO, tdParSO, tdAsgSOS, tdParSD, tdPutT, tdSortKeys, tdFor, tdLc, tdYes, gdName, gdNil, gdCons, gdTup, gdSub, tdSh, tdLent, tdC, td1, td2, tf1, tdB, tdAnd, tdOr, tdNot, tdAndV, tdOrV, tdNotV, tdIf, tdNil, tdCons, tdTup, tdLst, tdChain, tdIxB, tdRep, tdCat, tdCall, tdCallR, tiL, tiT, tiR1, tiR2, rI, rI0, rU, rLen, rInts, rBools, rInt, rTuple, rList, rIxD, nn_none, nn_int, nn_tup, noOwn, wipeD, Slot.addr, truD, List.getElem?_cons_zero, List.getElem?_cons_succ, List.set_cons_zero, List.set_cons_succ, List.map_cons, List.map_nil, List.length_cons, List.length_nil, List.cons_append, List.nil_append, List.replicate, Nat.sub_self, Nat.zero_add, Nat.add_one_sub_one, Nat.reduceAdd, Nat.reduceSub, Nat.succ_sub_succ_eq_sub, Nat.sub_zero, List.all_cons, List.all_nil, Option.isNone_none, Bool.and_self, Bool.and_true, List.reduceReplicate, true_and, and_true, wD, bD, lD, pD, if_true, if_false, Bool.not_true, Bool.not_false, Bool.false_eq_true]
      exact hk _ ⟨j + 1, _, _, rfl, rfl⟩
theorem fn_check_full (T : Top K mg) (F_is_tuple_of : Fn P w K mg base 1 "is_tuple_of" (spD K 2 sd_is_tuple_of)) (F_is_between : Fn P w K mg base 2 "is_between" (spD K 3 sd_is_between)) : Fn P w K mg base 3 "check_full" (spD K 2 sd_check_full) := by
  refine defD T.d_check_full sc_check_full (by decide) (fun f cdv A outer s H E hr => (dss_cons (ds_if (dt_not (dt_val (dcall F_is_tuple_of hr (da_cons (dv 1) (da_cons (de_ix (dv 0) de_int (fun _ _ => rfl)) da_nil))))) (dss_one ds_never) dss_nil)
  (dss_one (ds_for PassesOwn.never rfl (di_enumT rfl T.b_enumerate (dv 1)) (dg_tup (n := 2) rfl (dgs_cons (dgn 2 sc_check_full.nd) (dgs_cons (dgn 3 sc_check_full.nd) dgs_nil)))
   (dss_one (ds_if (dt_not (dt_val (dcall F_is_between hr (da_cons (dv 3) (da_cons de_int (da_cons de_int da_nil)))))) (dss_one ds_never) dss_nil)))))) ?_
  rintro ds q hl ⟨n, es, ls, rfl, L, hq⟩
  have e1 : tupOf (lD ls) n = true := by unfold tupOf lD; exact decide_eq_true (by rw [List.length_map]; exact L.len)
  simp only [tdSeq, tdIfS, tdRet, tdRetN, tdNext, tdNever, tdDrop, tdBreak, tdCont, tdSet, tdOwn, tdAsg, tdAppend, tdExtend, tdPop, tdAug, tdAugSub, tdPar, tdParOO, tdParSO, tdAsgSOS, tdParSD, tdPutT, tdSortKeys, tdFor, tdLc, tdYes, gdName, gdNil, gdCons, gdTup, gdSub, tdSh, tdLent, tdC, td1, td2, tf1, tdB, tdAnd, tdOr, tdNot, tdAndV, tdOrV, tdNotV, tdIf, tdNil, tdCons, tdTup, tdLst, tdChain, tdIxB, tdRep, tdCat, tdCall, tdCallR, tiL, tiT, tiR1, tiR2, rI, rI0, rU, rLen, rInts, rBools, rInt, rTuple, rList, rIxD, nn_none, nn_int, nn_tup, noOwn, wipeD, Slot.addr, truD, List.getElem?_cons_zero, List.getElem?_cons_succ, List.set_cons_zero, List.set_cons_succ, List.map_cons, List.map_nil, List.length_cons, List.length_nil, List.cons_append, List.nil_append, List.replicate, Nat.sub_self, Nat.zero_add, Nat.add_one_sub_one, Nat.reduceAdd, Nat.reduceSub, Nat.succ_sub_succ_eq_sub, Nat.sub_zero, List.all_cons, List.all_nil, Option.isNone_none, Bool.and_self, Bool.and_true, List.reduceReplicate, true_and, and_true, wD, bD, lD, pD, if_true, if_false, Bool.not_true, Bool.not_false, Bool.false_eq_true]
  refine ⟨_, rfl, _, _, rfl, ?_⟩
  rw [show PyData.tuple (List.map PyData.int ls) = lD ls from rfl, e1]
  simp only [tdSeq, tdIfS, tdRet, tdRetN, tdNext, tdNever, tdDrop, tdBreak, tdCont, tdSet, tdOwn, tdAsg, tdAppend, tdExtend, tdPop, tdAug, tdAugSub, tdPar, tdParOO, tdParSO, tdAsgSOS, tdParSD, tdPutT, tdSortKeys, tdFor, tdLc, tdYes, gdName, gdNil, gdCons, gdTup, gdSub, tdSh, tdLent, tdC, td1, td2, tf1, tdB, tdAnd, tdOr, tdNot, tdAndV, tdOrV, tdNotV, tdIf, tdNil, tdCons, tdTup, tdLst, tdChain, tdIxB, tdRep, tdCat, tdCall, tdCallR, tiL, tiT, tiR1, tiR2, rI, rI0, rU, rLen, rInts, rBools, rInt, rTuple, rList, rIxD, nn_none, nn_int, nn_tup, noOwn, wipeD, Slot.addr, truD, List.getElem?_cons_zero, List.getElem?_cons_succ, List.set_cons_zero, List.set_cons_succ, List.map_cons, List.map_nil, List.length_cons, List.length_nil, List.cons_append, List.nil_append, List.replicate, Nat.sub_self, Nat.zero_add, Nat.add_one_sub_one, Nat.reduceAdd, Nat.reduceSub, Nat.succ_sub_succ_eq_sub, Nat.sub_zero, List.all_cons, List.all_nil, Option.isNone_none, Bool.and_self, Bool.and_true, List.reduceReplicate, true_and, and_true, wD, bD, lD, pD, if_true, if_false, Bool.not_true, Bool.not_false, Bool.false_eq_true]
  refine wFor_ind (fun ds ρ => ∃ (j : Nat) (x y : Slot), ds = (enumD (ls.map .int)).drop j ∧ ρ = [.sh (wD n es), .sh (lD ls), x, y]) ?_ ?_ _ _ ⟨0, .un, .un, rfl, rfl⟩
  · intro ρ _; exact hq
  · rintro d ds ρ k ⟨j, x, y, hd, rfl⟩ hk
    obtain ⟨x', hx, rfl, rfl⟩ := enum_step hd
    rw [List.getElem?_map] at hx
    obtain ⟨v, hv, rfl⟩ := Option.map_eq_some_iff.mp hx
    have g := L.val v (List.mem_of_getElem? hv)
    simp only [tdSeq, tdIfS, tdRet, tdRetN, tdNext, tdNever, tdDrop, tdBreak, tdCont, tdSet, tdOwn, tdAsg, tdAppend, tdExtend, tdPop, tdAug, tdAugSub, tdPar, tdParOO, tdParSO, tdAsgSOS, tdParSD, tdPutT, tdSortKeys, tdFor, tdLc, tdYes, gdName, gdNil, gdCons, gdTup, gdSub, tdSh, tdLent, tdC, td1, td2, tf1, tdB, tdAnd, tdOr, tdNot, tdAndV, tdOrV, tdNotV, tdIf, tdNil, tdCons, tdTup, tdLst, tdChain, tdIxB, tdRep, tdCat, tdCall, tdCallR, tiL, tiT, tiR1, tiR2, rI, rI0, rU, rLen, rInts, rBools, rInt, rTuple, rList, rIxD, nn_none, nn_int, nn_tup, noOwn, wipeD, Slot.addr, truD, List.getElem?_cons_zero, List.getElem?_cons_succ, List.set_cons_zero, List.set_cons_succ, List.map_cons, List.map_nil, List.length_cons, List.length_nil, List.cons_append, List.nil_append, List.replicate, Nat.sub_self, Nat.zero_add, Nat.add_one_sub_one, Nat.reduceAdd, Nat.reduceSub, Nat.succ_sub_succ_eq_sub, Nat.sub_zero, List.all_cons, List.all_nil, Option.isNone_none, Bool.and_self, Bool.and_true, List.reduceReplicate, true_and, and_true, wD, bD, lD, pD, if_true, if_false, Bool.not_true, Bool.not_false, Bool.false_eq_true]
    refine ⟨_, _, _, rfl, ?_⟩
    have e3 : betw (.int v) 0 1 = true := by rw [betw_int]; exact decide_eq_true (by omega)
    rw [e3]
    simp only [tdSeq, tdIfS, tdRet, tdRetN, tdNext, tdNever, tdDrop, tdBreak, tdCont, tdSet, tdOwn, tdAsg, tdAppend, tdExtend, tdPop, tdAug, tdAugSub, tdPar, tdParOO, tdParSO, tdAsgSOS, tdParSD, tdPutT, tdSortKeys, tdFor, tdLc, tdYes, gdName, gdNil, gdCons, gdTup, gdSub, tdSh, tdLent, tdC, td1, td2, tf1, tdB, tdAnd, tdOr, tdNot, tdAndV, tdOrV, tdNotV, tdIf, tdNil, tdCons, tdTup, tdLst, tdChain, tdIxB, tdRep, tdCat, tdCall, tdCallR, tiL, tiT, tiR1, tiR2, rI, rI0, rU, rLen, rInts, rBools, rInt, rTuple, rList, rIxD, nn_none, nn_int, nn_tup, noOwn, wipeD, Slot.addr, truD, List.getElem?_cons_zero, List.getElem?_cons_succ, List.set_cons_zero, List.set_cons_succ, List.map_cons, List.map_nil, List.length_cons, List.length_nil, List.cons_append, List.nil_append, List.replicate, Nat.sub_self, Nat.zero_add, Nat.add_one_sub_one, Nat.reduceAdd, Nat.reduceSub, Nat.succ_sub_succ_eq_sub, Nat.sub_zero, List.all_cons, List.all_nil, Option.isNone_none, Bool.and_self, Bool.and_true, List.reduceReplicate, true_and, and_true, wD, bD, lD, pD, if_true, if_false, Bool.not_true, Bool.not_false, Bool.false_eq_true]
    exact hk _ ⟨j + 1, _, _, rfl, rfl⟩
theorem fn_check_state (T : Top K mg) (F_is_rising : Fn P w K mg base 3 "is_rising" (spD K 2 sd_is_rising)) : Fn P w K mg base 4 "check_state" (spD K 2 sd_check_state) := by
  refine defD T.d_check_state sc_check_state (by decide) (fun f cdv A outer s H E hr => (dss_one (ds_if (dt_not (dt_val (dcall F_is_rising hr (da_cons (dv 1) (da_cons (de_ix (dv 0) de_int (fun _ _ => rfl)) da_nil))))) (dss_one ds_never) dss_nil))) ?_
  rintro ds q hl ⟨n, es, S, rfl, h9, O, hq⟩
  simp only [tdSeq, tdIfS, tdRet, tdRetN, tdNext, tdNever, tdDrop, tdBreak, tdCont, tdSet, tdOwn, tdAsg, tdAppend, tdExtend, tdPop, tdAug, tdAugSub, tdPar, tdParOO, tdParSO, tdAsgSOS, tdParSD, tdPutT, tdSortKeys, tdFor, tdLc, tdYes, gdName, gdNil, gdCons, gdTup, gdSub, tdSh, tdLent, tdC, td1, td2, tf1, tdB, tdAnd, tdOr, tdNot, tdAndV, tdOrV, tdNotV, tdIf, tdNil, tdCons, tdTup, tdLst, tdChain, tdIxB, tdRep, tdCat, tdCall, tdCallR, tiL, tiT, tiR1, tiR2, rI, rI0, rU, rLen, rInts, rBools, rInt, rTuple, rList, rIxD, nn_none, nn_int, nn_tup, noOwn, wipeD, Slot.addr, truD, List.getElem?_cons_zero, List.getElem?_cons_succ, List.set_cons_zero, List.set_cons_succ, List.map_cons, List.map_nil, List.length_cons, List.length_nil, List.cons_append, List.nil_append, List.replicate, Nat.sub_self, Nat.zero_add, Nat.add_one_sub_one, Nat.reduceAdd, Nat.reduceSub, Nat.succ_sub_succ_eq_sub, Nat.sub_zero, List.all_cons, List.all_nil, Option.isNone_none, Bool.and_self, Bool.and_true, List.reduceReplicate, true_and, and_true, wD, bD, lD, pD, if_true, if_false, Bool.not_true, Bool.not_false, Bool.false_eq_true]
  refine ⟨_, rfl, _, _, rfl, h9, O, ?_⟩
  simp only [tdSeq, tdIfS, tdRet, tdRetN, tdNext, tdNever, tdDrop, tdBreak, tdCont, tdSet, tdOwn, tdAsg, tdAppend, tdExtend, tdPop, tdAug, tdAugSub, tdPar, tdParOO, tdParSO, tdAsgSOS, tdParSD, tdPutT, tdSortKeys, tdFor, tdLc, tdYes, gdName, gdNil, gdCons, gdTup, gdSub, tdSh, tdLent, tdC, td1, td2, tf1, tdB, tdAnd, tdOr, tdNot, tdAndV, tdOrV, tdNotV, tdIf, tdNil, tdCons, tdTup, tdLst, tdChain, tdIxB, tdRep, tdCat, tdCall, tdCallR, tiL, tiT, tiR1, tiR2, rI, rI0, rU, rLen, rInts, rBools, rInt, rTuple, rList, rIxD, nn_none, nn_int, nn_tup, noOwn, wipeD, Slot.addr, truD, List.getElem?_cons_zero, List.getElem?_cons_succ, List.set_cons_zero, List.set_cons_succ, List.map_cons, List.map_nil, List.length_cons, List.length_nil, List.cons_append, List.nil_append, List.replicate, Nat.sub_self, Nat.zero_add, Nat.add_one_sub_one, Nat.reduceAdd, Nat.reduceSub, Nat.succ_sub_succ_eq_sub, Nat.sub_zero, List.all_cons, List.all_nil, Option.isNone_none, Bool.and_self, Bool.and_true, List.reduceReplicate, true_and, and_true, wD, bD, lD, pD, if_true, if_false, Bool.not_true, Bool.not_false, Bool.false_eq_true]
  exact hq
theorem fn_mask_of (T : Top K mg) : Fn P w K mg base 1 "mask_of" (spD K 1 sd_mask_of) := by
  refine defD T.d_mask_of sc_mask_of (by decide) (fun f cdv A outer s H E hr => (dss_cons (dset 1 sc_mask_of.nd de_int)
  (dss_cons (ds_for PassesOwn.never rfl (di_or (di_list (dv 0)) (di_tup (dv 0))) (dgn 2 sc_mask_of.nd)
   (dss_one (daug 1 sc_mask_of.nd (de_op l_shl de_int (dv 2)) li_or)))
  (dss_one (ds_ret (dv 1)))))) ?_
  rintro ds q hl ⟨ks, rfl | rfl, hk, hq⟩
  · simp only [tdSeq, tdIfS, tdRet, tdRetN, tdNext, tdNever, tdDrop, tdBreak, tdCont, tdSet, tdOwn, tdAsg, tdAppend, tdExtend, tdPop, tdAug, tdAugSub, tdPar, tdParOO, tdParSO, tdAsgSOS, tdParSD, tdPutT, tdSortKeys, tdFor, tdLc, tdYes, gdName, gdNil, gdCons, gdTup, gdSub, tdSh, tdLent, tdC, td1, td2, tf1, tdB, tdAnd, tdOr, tdNot, tdAndV, tdOrV, tdNotV, tdIf, tdNil, tdCons, tdTup, tdLst, tdChain, tdIxB, tdRep, tdCat, tdCall, tdCallR, tiL, tiT, tiR1, tiR2, rI, rI0, rU, rLen, rInts, rBools, rInt, rTuple, rList, rIxD, nn_none, nn_int, nn_tup, noOwn, wipeD, Slot.addr, truD, List.getElem?_cons_zero, List.getElem?_cons_succ, List.set_cons_zero, List.set_cons_succ, List.map_cons, List.map_nil, List.length_cons, List.length_nil, List.cons_append, List.nil_append, List.replicate, Nat.sub_self, Nat.zero_add, Nat.add_one_sub_one, Nat.reduceAdd, Nat.reduceSub, Nat.succ_sub_succ_eq_sub, Nat.sub_zero, List.all_cons, List.all_nil, Option.isNone_none, Bool.and_self, Bool.and_true, List.reduceReplicate, true_and, and_true, wD, bD, lD, pD, if_true, if_false, Bool.not_true, Bool.not_false, Bool.false_eq_true]
    refine .inr ?_
    refine wFor_ind (fun ds ρ => ∃ (done rest : List Int) (m : Nat) (x : Slot), ks = done ++ rest ∧ ds = rest.map .int ∧ MaskOk done m ∧ ρ = [.sh (.tuple (ks.map .int)), .sh (.int m), x]) ?_ ?_ _ _ ⟨[], ks, 0, .un, rfl, rfl, mask_zero, rfl⟩
    · rintro ρ ⟨done, rest, m, x, he, hr, M, rfl⟩
      have : rest = [] := by
        cases rest with
        | nil => rfl
        | cons p r => cases hr
      subst this
      rw [List.append_nil] at he
      subst he
      simp only [tdSeq, tdIfS, tdRet, tdRetN, tdNext, tdNever, tdDrop, tdBreak, tdCont, tdSet, tdOwn, tdAsg, tdAppend, tdExtend, tdPop, tdAug, tdAugSub, tdPar, tdParOO, tdParSO, tdAsgSOS, tdParSD, tdPutT, tdSortKeys, tdFor, tdLc, tdYes, gdName, gdNil, gdCons, gdTup, gdSub, tdSh, tdLent, tdC, td1, td2, tf1, tdB, tdAnd, tdOr, tdNot, tdAndV, tdOrV, tdNotV, tdIf, tdNil, tdCons, tdTup, tdLst, tdChain, tdIxB, tdRep, tdCat, tdCall, tdCallR, tiL, tiT, tiR1, tiR2, rI, rI0, rU, rLen, rInts, rBools, rInt, rTuple, rList, rIxD, nn_none, nn_int, nn_tup, noOwn, wipeD, Slot.addr, truD, List.getElem?_cons_zero, List.getElem?_cons_succ, List.set_cons_zero, List.set_cons_succ, List.map_cons, List.map_nil, List.length_cons, List.length_nil, List.cons_append, List.nil_append, List.replicate, Nat.sub_self, Nat.zero_add, Nat.add_one_sub_one, Nat.reduceAdd, Nat.reduceSub, Nat.succ_sub_succ_eq_sub, Nat.sub_zero, List.all_cons, List.all_nil, Option.isNone_none, Bool.and_self, Bool.and_true, List.reduceReplicate, true_and, and_true, wD, bD, lD, pD, if_true, if_false, Bool.not_true, Bool.not_false, Bool.false_eq_true]
      exact hq m M
    · rintro d ds ρ k' ⟨done, rest, m, x, he, hr, M, rfl⟩ hk'
      cases rest with
      | nil => cases hr
      | cons p rest =>
        obtain ⟨rfl, rfl⟩ := List.cons.inj hr
        obtain ⟨g1, g2⟩ := hk p (by rw [he]; simp)
        obtain ⟨p, rfl⟩ := Int.eq_ofNat_of_zero_le g1
        simp only [tdSeq, tdIfS, tdRet, tdRetN, tdNext, tdNever, tdDrop, tdBreak, tdCont, tdSet, tdOwn, tdAsg, tdAppend, tdExtend, tdPop, tdAug, tdAugSub, tdPar, tdParOO, tdParSO, tdAsgSOS, tdParSD, tdPutT, tdSortKeys, tdFor, tdLc, tdYes, gdName, gdNil, gdCons, gdTup, gdSub, tdSh, tdLent, tdC, td1, td2, tf1, tdB, tdAnd, tdOr, tdNot, tdAndV, tdOrV, tdNotV, tdIf, tdNil, tdCons, tdTup, tdLst, tdChain, tdIxB, tdRep, tdCat, tdCall, tdCallR, tiL, tiT, tiR1, tiR2, rI, rI0, rU, rLen, rInts, rBools, rInt, rTuple, rList, rIxD, nn_none, nn_int, nn_tup, noOwn, wipeD, Slot.addr, truD, List.getElem?_cons_zero, List.getElem?_cons_succ, List.set_cons_zero, List.set_cons_succ, List.map_cons, List.map_nil, List.length_cons, List.length_nil, List.cons_append, List.nil_append, List.replicate, Nat.sub_self, Nat.zero_add, Nat.add_one_sub_one, Nat.reduceAdd, Nat.reduceSub, Nat.succ_sub_succ_eq_sub, Nat.sub_zero, List.all_cons, List.all_nil, Option.isNone_none, Bool.and_self, Bool.and_true, List.reduceReplicate, true_and, and_true, wD, bD, lD, pD, if_true, if_false, Bool.not_true, Bool.not_false, Bool.false_eq_true]
        refine ⟨⟨by omega, by omega, by decide⟩, ?_⟩
        rw [or_nat]
        exact hk' _ ⟨done ++ [(p : Int)], rest, _, _, by rw [he]; simp, rfl, mask_step M (by omega), rfl⟩
  · simp only [tdSeq, tdIfS, tdRet, tdRetN, tdNext, tdNever, tdDrop, tdBreak, tdCont, tdSet, tdOwn, tdAsg, tdAppend, tdExtend, tdPop, tdAug, tdAugSub, tdPar, tdParOO, tdParSO, tdAsgSOS, tdParSD, tdPutT, tdSortKeys, tdFor, tdLc, tdYes, gdName, gdNil, gdCons, gdTup, gdSub, tdSh, tdLent, tdC, td1, td2, tf1, tdB, tdAnd, tdOr, tdNot, tdAndV, tdOrV, tdNotV, tdIf, tdNil, tdCons, tdTup, tdLst, tdChain, tdIxB, tdRep, tdCat, tdCall, tdCallR, tiL, tiT, tiR1, tiR2, rI, rI0, rU, rLen, rInts, rBools, rInt, rTuple, rList, rIxD, nn_none, nn_int, nn_tup, noOwn, wipeD, Slot.addr, truD, List.getElem?_cons_zero, List.getElem?_cons_succ, List.set_cons_zero, List.set_cons_succ, List.map_cons, List.map_nil, List.length_cons, List.length_nil, List.cons_append, List.nil_append, List.replicate, Nat.sub_self, Nat.zero_add, Nat.add_one_sub_one, Nat.reduceAdd, Nat.reduceSub, Nat.succ_sub_succ_eq_sub, Nat.sub_zero, List.all_cons, List.all_nil, Option.isNone_none, Bool.and_self, Bool.and_true, List.reduceReplicate, true_and, and_true, wD, bD, lD, pD, if_true, if_false, Bool.not_true, Bool.not_false, Bool.false_eq_true]
    refine .inl ?_
    refine wFor_ind (fun ds ρ => ∃ (done rest : List Int) (m : Nat) (x : Slot), ks = done ++ rest ∧ ds = rest.map .int ∧ MaskOk done m ∧ ρ = [.sh (.list (ks.map .int)), .sh (.int m), x]) ?_ ?_ _ _ ⟨[], ks, 0, .un, rfl, rfl, mask_zero, rfl⟩
    · rintro ρ ⟨done, rest, m, x, he, hr, M, rfl⟩
      have : rest = [] := by
        cases rest with
        | nil => rfl
        | cons p r => cases hr
      subst this
      rw [List.append_nil] at he
      subst he
      simp only [tdSeq, tdIfS, tdRet, tdRetN, tdNext, tdNever, tdDrop, tdBreak, tdCont, tdSet, tdOwn, tdAsg, tdAppend, tdExtend, tdPop, tdAug, tdAugSub, tdPar, tdParOO, tdParSO, tdAsgSOS, tdParSD, tdPutT, tdSortKeys, tdFor, tdLc, tdYes, gdName, gdNil, gdCons, gdTup, gdSub, tdSh, tdLent, tdC, td1, td2, tf1, tdB, tdAnd, tdOr, tdNot, tdAndV, tdOrV, tdNotV, tdIf, tdNil, tdCons, tdTup, tdLst, tdChain, tdIxB, tdRep, tdCat, tdCall, tdCallR, tiL, tiT, tiR1, tiR2, rI, rI0, rU, rLen, rInts, rBools, rInt, rTuple, rList, rIxD, nn_none, nn_int, nn_tup, noOwn, wipeD, Slot.addr, truD, List.getElem?_cons_zero, List.getElem?_cons_succ, List.set_cons_zero, List.set_cons_succ, List.map_cons, List.map_nil, List.length_cons, List.length_nil, List.cons_append, List.nil_append, List.replicate, Nat.sub_self, Nat.zero_add, Nat.add_one_sub_one, Nat.reduceAdd, Nat.reduceSub, Nat.succ_sub_succ_eq_sub, Nat.sub_zero, List.all_cons, List.all_nil, Option.isNone_none, Bool.and_self, Bool.and_true, List.reduceReplicate, true_and, and_true, wD, bD, lD, pD, if_true, if_false, Bool.not_true, Bool.not_false, Bool.false_eq_true]
      exact hq m M
    · rintro d ds ρ k' ⟨done, rest, m, x, he, hr, M, rfl⟩ hk'
      cases rest with
      | nil => cases hr
      | cons p rest =>
        obtain ⟨rfl, rfl⟩ := List.cons.inj hr
        obtain ⟨g1, g2⟩ := hk p (by rw [he]; simp)
        obtain ⟨p, rfl⟩ := Int.eq_ofNat_of_zero_le g1
        simp only [tdSeq, tdIfS, tdRet, tdRetN, tdNext, tdNever, tdDrop, tdBreak, tdCont, tdSet, tdOwn, tdAsg, tdAppend, tdExtend, tdPop, tdAug, tdAugSub, tdPar, tdParOO, tdParSO, tdAsgSOS, tdParSD, tdPutT, tdSortKeys, tdFor, tdLc, tdYes, gdName, gdNil, gdCons, gdTup, gdSub, tdSh, tdLent, tdC, td1, td2, tf1, tdB, tdAnd, tdOr, tdNot, tdAndV, tdOrV, tdNotV, tdIf, tdNil, tdCons, tdTup, tdLst, tdChain, tdIxB, tdRep, tdCat, tdCall, tdCallR, tiL, tiT, tiR1, tiR2, rI, rI0, rU, rLen, rInts, rBools, rInt, rTuple, rList, rIxD, nn_none, nn_int, nn_tup, noOwn, wipeD, Slot.addr, truD, List.getElem?_cons_zero, List.getElem?_cons_succ, List.set_cons_zero, List.set_cons_succ, List.map_cons, List.map_nil, List.length_cons, List.length_nil, List.cons_append, List.nil_append, List.replicate, Nat.sub_self, Nat.zero_add, Nat.add_one_sub_one, Nat.reduceAdd, Nat.reduceSub, Nat.succ_sub_succ_eq_sub, Nat.sub_zero, List.all_cons, List.all_nil, Option.isNone_none, Bool.and_self, Bool.and_true, List.reduceReplicate, true_and, and_true, wD, bD, lD, pD, if_true, if_false, Bool.not_true, Bool.not_false, Bool.false_eq_true]
        refine ⟨⟨by omega, by omega, by decide⟩, ?_⟩
        rw [or_nat]
        exact hk' _ ⟨done ++ [(p : Int)], rest, _, _, by rw [he]; simp, rfl, mask_step M (by omega), rfl⟩
theorem fn_places_in (T : Top K mg) : Fn P w K mg base 1 "places_in" (spD K 1 sd_places_in) := by
  refine defD T.d_places_in sc_places_in (by decide) (fun f cdv A outer s H E hr => (dss_one (ds_ret (DF.de (df_lc (own := [("place", 1)]) rfl sc_places_in.nd (di_range1 rfl T.b_range (da_cons (de_bits (dv 0)) da_nil)) (blkOk_by (N := ["mask", "place"]) (sc := defScope s_places_in) (by decide +kernel)) (fun _ _ _ _ _ => (dgn 1 sc_places_in.nd)) (fun _ _ _ _ _ => (dts_one (dt_truth (DE.lend (de_op l_and (de_op l_shr (dv 0) (dv 1)) de_int))))) (fun _ _ _ _ _ => (dv 1))))))) ?_
  rintro ds q hl ⟨m, rfl, hm, hq⟩
  have hb : Builtin.Int.intBits (m : Int) ≤ 9 := by
    unfold Builtin.Int.intBits
    split
    · omega
    · rw [Int.natAbs_natCast]
      by_cases h0 : m = 0
      · subst h0; decide
      · have := (Nat.log2_lt h0).mpr hm
        omega
  simp only [tdSeq, tdIfS, tdRet, tdRetN, tdNext, tdNever, tdDrop, tdBreak, tdCont, tdSet, tdOwn, tdAsg, tdAppend, tdExtend, tdPop, tdAug, tdAugSub, tdPar, tdParOO, tdParSO, tdAsgSOS, tdParSD, tdPutT, tdSortKeys, tdFor, tdLc, tdYes, gdName, gdNil, gdCons, gdTup, gdSub, tdSh, tdLent, tdC, td1, td2, tf1, tdB, tdAnd, tdOr, tdNot, tdAndV, tdOrV, tdNotV, tdIf, tdNil, tdCons, tdTup, tdLst, tdChain, tdIxB, tdRep, tdCat, tdCall, tdCallR, tiL, tiT, tiR1, tiR2, rI, rI0, rU, rLen, rInts, rBools, rInt, rTuple, rList, rIxD, nn_none, nn_int, nn_tup, noOwn, wipeD, Slot.addr, truD, List.getElem?_cons_zero, List.getElem?_cons_succ, List.set_cons_zero, List.set_cons_succ, List.map_cons, List.map_nil, List.length_cons, List.length_nil, List.cons_append, List.nil_append, List.replicate, Nat.sub_self, Nat.zero_add, Nat.add_one_sub_one, Nat.reduceAdd, Nat.reduceSub, Nat.succ_sub_succ_eq_sub, Nat.sub_zero, List.all_cons, List.all_nil, Option.isNone_none, Bool.and_self, Bool.and_true, List.reduceReplicate, true_and, and_true, wD, bD, lD, pD, if_true, if_false, Bool.not_true, Bool.not_false, Bool.false_eq_true]
  refine ⟨⟨by omega, by omega⟩, ?_⟩
  rw [Int.toNat_natCast]
  refine wLc_map (fun (j : Nat) => .int (0 + (j : Int))) (fun j => m.testBit j) (fun j => .int (j : Int)) (List.range (Builtin.Int.intBits (m : Int))) (by rw [List.length_range]; unfold sizeLine; omega) ?_ ?_
  · intro j hj k1 k2 hk1 hk2
    rw [Int.zero_add]
    simp only [tdSeq, tdIfS, tdRet, tdRetN, tdNext, tdNever, tdDrop, tdBreak, tdCont, tdSet, tdOwn, tdAsg, tdAppend, tdExtend, tdPop, tdAug, tdAugSub, tdPar, tdParOO, tdParSO, tdAsgSOS, tdParSD, tdPutT, tdSortKeys, tdFor, tdLc, tdYes, gdName, gdNil, gdCons, gdTup, gdSub, tdSh, tdLent, tdC, td1, td2, tf1, tdB, tdAnd, tdOr, tdNot, tdAndV, tdOrV, tdNotV, tdIf, tdNil, tdCons, tdTup, tdLst, tdChain, tdIxB, tdRep, tdCat, tdCall, tdCallR, tiL, tiT, tiR1, tiR2, rI, rI0, rU, rLen, rInts, rBools, rInt, rTuple, rList, rIxD, nn_none, nn_int, nn_tup, noOwn, wipeD, Slot.addr, truD, List.getElem?_cons_zero, List.getElem?_cons_succ, List.set_cons_zero, List.set_cons_succ, List.map_cons, List.map_nil, List.length_cons, List.length_nil, List.cons_append, List.nil_append, List.replicate, Nat.sub_self, Nat.zero_add, Nat.add_one_sub_one, Nat.reduceAdd, Nat.reduceSub, Nat.succ_sub_succ_eq_sub, Nat.sub_zero, List.all_cons, List.all_nil, Option.isNone_none, Bool.and_self, Bool.and_true, List.reduceReplicate, true_and, and_true, wD, bD, lD, pD, if_true, if_false, Bool.not_true, Bool.not_false, Bool.false_eq_true]
    refine ⟨by omega, ?_⟩
    rw [bit_nat, bit_test]
    cases h : m.testBit j with
    | true => exact ⟨_, rfl, hk1 h⟩
    | false => exact ⟨_, rfl, hk2 h⟩
  · unfold bitsOf at hq
    rw [List.map_map] at hq
    exact hq
theorem fn_lowest_in (T : Top K mg) : Fn P w K mg base 1 "lowest_in" (spD K 1 sd_lowest_in) := by
  refine defD T.d_lowest_in sc_lowest_in (by decide) (fun f cdv A outer s H E hr => (dss_one (ds_ret (de_op l_sub (de_bits (de_op l_and (dv 0) (de_un l_neg (dv 0)))) de_int)))) ?_
  rintro ds q hl ⟨s, k, rfl, hs, h1, h2, hq⟩
  simp only [tdSeq, tdIfS, tdRet, tdRetN, tdNext, tdNever, tdDrop, tdBreak, tdCont, tdSet, tdOwn, tdAsg, tdAppend, tdExtend, tdPop, tdAug, tdAugSub, tdPar, tdParOO, tdParSO, tdAsgSOS, tdParSD, tdPutT, tdSortKeys, tdFor, tdLc, tdYes, gdName, gdNil, gdCons, gdTup, gdSub, tdSh, tdLent, tdC, td1, td2, tf1, tdB, tdAnd, tdOr, tdNot, tdAndV, tdOrV, tdNotV, tdIf, tdNil, tdCons, tdTup, tdLst, tdChain, tdIxB, tdRep, tdCat, tdCall, tdCallR, tiL, tiT, tiR1, tiR2, rI, rI0, rU, rLen, rInts, rBools, rInt, rTuple, rList, rIxD, nn_none, nn_int, nn_tup, noOwn, wipeD, Slot.addr, truD, List.getElem?_cons_zero, List.getElem?_cons_succ, List.set_cons_zero, List.set_cons_succ, List.map_cons, List.map_nil, List.length_cons, List.length_nil, List.cons_append, List.nil_append, List.replicate, Nat.sub_self, Nat.zero_add, Nat.add_one_sub_one, Nat.reduceAdd, Nat.reduceSub, Nat.succ_sub_succ_eq_sub, Nat.sub_zero, List.all_cons, List.all_nil, Option.isNone_none, Bool.and_self, Bool.and_true, List.reduceReplicate, true_and, and_true, wD, bD, lD, pD, if_true, if_false, Bool.not_true, Bool.not_false, Bool.false_eq_true]
  rw [show -(s : Int) = Builtin.bitNot ((s - 1 : Nat) : Int) by unfold Builtin.bitNot; omega, diff_nat, low_pow h1 h2]
  have e : Builtin.Int.intBits ((2 ^ k : Nat) : Int) = k + 1 := by
    unfold Builtin.Int.intBits
    have hp : 0 < 2 ^ k := Nat.two_pow_pos k
    have : (((2 ^ k : Nat) : Int) == 0) = false := by
      rw [beq_eq_false_iff_ne]; omega
    rw [this]
    show ((2 ^ k : Nat) : Int).natAbs.log2 + 1 = k + 1
    rw [Int.natAbs_natCast, Nat.log2_two_pow]
  rw [e, show (((k + 1 : Nat) : Int) - 1) = (k : Int) by omega]
  exact hq
theorem fn_head_mask (T : Top K mg) (F_mask_of : Fn P w K mg base 1 "mask_of" (spD K 1 sd_mask_of)) : Fn P w K mg base 2 "head_mask" (spD K 1 sd_head_mask) := by
  refine defD T.d_head_mask sc_head_mask (by decide) (fun f cdv A outer s H E hr => (dss_one (ds_ret (dcall F_mask_of hr (da_cons (DF.de (df_lc (own := [("place", 1), ("coin", 2)]) rfl sc_head_mask.nd (di_enumT rfl T.b_enumerate (dv 0)) (blkOk_by (N := ["laying", "place", "coin"]) (sc := defScope s_head_mask) (by decide +kernel)) (fun _ _ _ _ _ => (dg_tup (n := 2) rfl (dgs_cons (dgn 1 sc_head_mask.nd) (dgs_cons (dgn 2 sc_head_mask.nd) dgs_nil)))) (fun _ _ _ _ _ => (dts_one (dt_cmp (l_eq hr.units) (dv 2) de_int (nomark _)))) (fun _ _ _ _ _ => (dv 1)))) da_nil))))) ?_
  rintro ds q hl ⟨n, ls, rfl, F, h9, hq⟩
  have hn := F.len
  simp only [tdSeq, tdIfS, tdRet, tdRetN, tdNext, tdNever, tdDrop, tdBreak, tdCont, tdSet, tdOwn, tdAsg, tdAppend, tdExtend, tdPop, tdAug, tdAugSub, tdPar, tdParOO, tdParSO, tdAsgSOS, tdParSD, tdPutT, tdSortKeys, tdFor, tdLc, tdYes, gdName, gdNil, gdCons, gdTup, gdSub, tdSh, tdLent, tdC, td1, td2, tf1, tdB, tdAnd, tdOr, tdNot, tdAndV, tdOrV, tdNotV, tdIf, tdNil, tdCons, tdTup, tdLst, tdChain, tdIxB, tdRep, tdCat, tdCall, tdCallR, tiL, tiT, tiR1, tiR2, rI, rI0, rU, rLen, rInts, rBools, rInt, rTuple, rList, rIxD, nn_none, nn_int, nn_tup, noOwn, wipeD, Slot.addr, truD, List.getElem?_cons_zero, List.getElem?_cons_succ, List.set_cons_zero, List.set_cons_succ, List.map_cons, List.map_nil, List.length_cons, List.length_nil, List.cons_append, List.nil_append, List.replicate, Nat.sub_self, Nat.zero_add, Nat.add_one_sub_one, Nat.reduceAdd, Nat.reduceSub, Nat.succ_sub_succ_eq_sub, Nat.sub_zero, List.all_cons, List.all_nil, Option.isNone_none, Bool.and_self, Bool.and_true, List.reduceReplicate, true_and, and_true, wD, bD, lD, pD, if_true, if_false, Bool.not_true, Bool.not_false, Bool.false_eq_true]
  unfold enumD
  rw [List.length_map]
  refine wLc_map (fun (i : Nat) => PyData.tuple [.int (i : Int), (ls.map PyData.int).getD i .none]) (fun j => decide (ls[j]? = some 1)) (fun j => .int (j : Int)) (List.range ls.length) (by rw [List.length_range]; unfold sizeLine; omega) ?_ ?_
  · intro j hj k1 k2 hk1 hk2
    have hj' := List.mem_range.mp hj
    simp only [tdSeq, tdIfS, tdRet, tdRetN, tdNext, tdNever, tdDrop, tdBreak, tdCont, tdSet, tdOwn, tdAsg, tdAppend, tdExtend, tdPop, tdAug, tdAugSub, tdPar, tdParOO, tdParSO, tdAsgSOS, tdParSD, tdPutT, tdSortKeys, tdFor, tdLc, tdYes, gdName, gdNil, gdCons, gdTup, gdSub, tdSh, tdLent, tdC, td1, td2, tf1, tdB, tdAnd, tdOr, tdNot, tdAndV, tdOrV, tdNotV, tdIf, tdNil, tdCons, tdTup, tdLst, tdChain, tdIxB, tdRep, tdCat, tdCall, tdCallR, tiL, tiT, tiR1, tiR2, rI, rI0, rU, rLen, rInts, rBools, rInt, rTuple, rList, rIxD, nn_none, nn_int, nn_tup, noOwn, wipeD, Slot.addr, truD, List.getElem?_cons_zero, List.getElem?_cons_succ, List.set_cons_zero, List.set_cons_succ, List.map_cons, List.map_nil, List.length_cons, List.length_nil, List.cons_append, List.nil_append, List.replicate, Nat.sub_self, Nat.zero_add, Nat.add_one_sub_one, Nat.reduceAdd, Nat.reduceSub, Nat.succ_sub_succ_eq_sub, Nat.sub_zero, List.all_cons, List.all_nil, Option.isNone_none, Bool.and_self, Bool.and_true, List.reduceReplicate, true_and, and_true, wD, bD, lD, pD, if_true, if_false, Bool.not_true, Bool.not_false, Bool.false_eq_true]
    rw [getD_map hj']
    refine ⟨sh_int _, sh_int _, ?_⟩
    rw [eqv_int]
    have e : decide (ls[j] = 1) = decide (ls[j]? = some 1) := by rw [List.getElem?_eq_getElem hj']; simp
    rw [e]
    by_cases h : decide (ls[j]? = some 1) = true
    · rw [if_pos h]; exact hk1 h
    · rw [if_neg h]; exact hk2 (Bool.eq_false_iff.mpr h)
  · refine ⟨headsL ls, .inr ?_, fun k hk => ?_, hq⟩
    · unfold headsL
      rw [List.map_map]; rfl
    · obtain ⟨h0, h1⟩ := mem_headsL.mp hk
      have := (List.getElem?_eq_some_iff.mp h1).1
      omega
theorem fn_lying_mask (T : Top K mg) (F_mask_of : Fn P w K mg base 1 "mask_of" (spD K 1 sd_mask_of)) : Fn P w K mg base 2 "lying_mask" (spD K 1 sd_lying_mask) := by
  refine defD T.d_lying_mask sc_lying_mask (by decide) (fun f cdv A outer s H E hr => (dss_one (ds_ret (dcall F_mask_of hr (da_cons (DF.de (df_lc (own := [("place", 1), ("coin", 2)]) rfl sc_lying_mask.nd (di_enumT rfl T.b_enumerate (dv 0)) (blkOk_by (N := ["laying", "place", "coin"]) (sc := defScope s_lying_mask) (by decide +kernel)) (fun _ _ _ _ _ => (dg_tup (n := 2) rfl (dgs_cons (dgn 1 sc_lying_mask.nd) (dgs_cons (dgn 2 sc_lying_mask.nd) dgs_nil)))) (fun _ _ _ _ _ => (dts_one (dt_cmp l_notN (dv 2) de_non (nomark _)))) (fun _ _ _ _ _ => (dv 1)))) da_nil))))) ?_
  rintro ds q hl ⟨n, ls, rfl, F, h9, hq⟩
  have hn := F.len
  simp only [tdSeq, tdIfS, tdRet, tdRetN, tdNext, tdNever, tdDrop, tdBreak, tdCont, tdSet, tdOwn, tdAsg, tdAppend, tdExtend, tdPop, tdAug, tdAugSub, tdPar, tdParOO, tdParSO, tdAsgSOS, tdParSD, tdPutT, tdSortKeys, tdFor, tdLc, tdYes, gdName, gdNil, gdCons, gdTup, gdSub, tdSh, tdLent, tdC, td1, td2, tf1, tdB, tdAnd, tdOr, tdNot, tdAndV, tdOrV, tdNotV, tdIf, tdNil, tdCons, tdTup, tdLst, tdChain, tdIxB, tdRep, tdCat, tdCall, tdCallR, tiL, tiT, tiR1, tiR2, rI, rI0, rU, rLen, rInts, rBools, rInt, rTuple, rList, rIxD, nn_none, nn_int, nn_tup, noOwn, wipeD, Slot.addr, truD, List.getElem?_cons_zero, List.getElem?_cons_succ, List.set_cons_zero, List.set_cons_succ, List.map_cons, List.map_nil, List.length_cons, List.length_nil, List.cons_append, List.nil_append, List.replicate, Nat.sub_self, Nat.zero_add, Nat.add_one_sub_one, Nat.reduceAdd, Nat.reduceSub, Nat.succ_sub_succ_eq_sub, Nat.sub_zero, List.all_cons, List.all_nil, Option.isNone_none, Bool.and_self, Bool.and_true, List.reduceReplicate, true_and, and_true, wD, bD, lD, pD, if_true, if_false, Bool.not_true, Bool.not_false, Bool.false_eq_true]
  unfold enumD
  rw [List.length_map]
  refine wLc_map (fun (i : Nat) => PyData.tuple [.int (i : Int), (ls.map PyData.int).getD i .none]) (fun _ => true) (fun j => .int (j : Int)) (List.range ls.length) (by rw [List.length_range]; unfold sizeLine; omega) ?_ ?_
  · intro j hj k1 k2 hk1 hk2
    have hj' := List.mem_range.mp hj
    simp only [tdSeq, tdIfS, tdRet, tdRetN, tdNext, tdNever, tdDrop, tdBreak, tdCont, tdSet, tdOwn, tdAsg, tdAppend, tdExtend, tdPop, tdAug, tdAugSub, tdPar, tdParOO, tdParSO, tdAsgSOS, tdParSD, tdPutT, tdSortKeys, tdFor, tdLc, tdYes, gdName, gdNil, gdCons, gdTup, gdSub, tdSh, tdLent, tdC, td1, td2, tf1, tdB, tdAnd, tdOr, tdNot, tdAndV, tdOrV, tdNotV, tdIf, tdNil, tdCons, tdTup, tdLst, tdChain, tdIxB, tdRep, tdCat, tdCall, tdCallR, tiL, tiT, tiR1, tiR2, rI, rI0, rU, rLen, rInts, rBools, rInt, rTuple, rList, rIxD, nn_none, nn_int, nn_tup, noOwn, wipeD, Slot.addr, truD, List.getElem?_cons_zero, List.getElem?_cons_succ, List.set_cons_zero, List.set_cons_succ, List.map_cons, List.map_nil, List.length_cons, List.length_nil, List.cons_append, List.nil_append, List.replicate, Nat.sub_self, Nat.zero_add, Nat.add_one_sub_one, Nat.reduceAdd, Nat.reduceSub, Nat.succ_sub_succ_eq_sub, Nat.sub_zero, List.all_cons, List.all_nil, Option.isNone_none, Bool.and_self, Bool.and_true, List.reduceReplicate, true_and, and_true, wD, bD, lD, pD, if_true, if_false, Bool.not_true, Bool.not_false, Bool.false_eq_true]
    rw [getD_map hj']
    simp only [tdSeq, tdIfS, tdRet, tdRetN, tdNext, tdNever, tdDrop, tdBreak, tdCont, tdSet, tdOwn, tdAsg, tdAppend, tdExtend, tdPop, tdAug, tdAugSub, tdPar, tdParOO, tdParSO, tdAsgSOS, tdParSD, tdPutT, tdSortKeys, tdFor, tdLc, tdYes, gdName, gdNil, gdCons, gdTup, gdSub, tdSh, tdLent, tdC, td1, td2, tf1, tdB, tdAnd, tdOr, tdNot, tdAndV, tdOrV, tdNotV, tdIf, tdNil, tdCons, tdTup, tdLst, tdChain, tdIxB, tdRep, tdCat, tdCall, tdCallR, tiL, tiT, tiR1, tiR2, rI, rI0, rU, rLen, rInts, rBools, rInt, rTuple, rList, rIxD, nn_none, nn_int, nn_tup, noOwn, wipeD, Slot.addr, truD, List.getElem?_cons_zero, List.getElem?_cons_succ, List.set_cons_zero, List.set_cons_succ, List.map_cons, List.map_nil, List.length_cons, List.length_nil, List.cons_append, List.nil_append, List.replicate, Nat.sub_self, Nat.zero_add, Nat.add_one_sub_one, Nat.reduceAdd, Nat.reduceSub, Nat.succ_sub_succ_eq_sub, Nat.sub_zero, List.all_cons, List.all_nil, Option.isNone_none, Bool.and_self, Bool.and_true, List.reduceReplicate, true_and, and_true, wD, bD, lD, pD, if_true, if_false, Bool.not_true, Bool.not_false, Bool.false_eq_true]
    exact hk1 rfl
  · rw [filt_true]
    refine ⟨(List.range n.toNat).map fun (j : Nat) => (j : Int), .inr ?_, fun k hk => ?_, hq⟩
    · rw [List.map_map, show ls.length = n.toNat by omega]; rfl
    · obtain ⟨j, hj, rfl⟩ := List.mem_map.mp hk
      have := List.mem_range.mp hj
      omega
theorem fn_near_masks (T : Top K mg) : Fn P w K mg base 1 "near_masks" (spD K 1 sd_near_masks) := by
  refine defD T.d_near_masks sc_near_masks (by decide) (fun f cdv A outer s H E hr => (dss_cons (ds_asg (dv 0) (dg_tup (n := 2) rfl (dgs_cons (dgn 1 sc_near_masks.nd) (dgs_cons (dgn 2 sc_near_masks.nd) dgs_nil))))
  (dss_cons (down 3 sc_near_masks.nd (df_rep (df_lst (da_cons de_int da_nil)) (dv 1)))
  (dss_cons (ds_for PassesOwn.never rfl (di_tup (dv 2)) (dg_tup (n := 2) rfl (dgs_cons (dgn 4 sc_near_masks.nd) (dgs_cons (dgn 5 sc_near_masks.nd) dgs_nil)))
   (dss_cons (daugsub 3 (dv 4) (de_op l_shl de_int (dv 5)) li_or)
  (dss_one (daugsub 3 (dv 5) (de_op l_shl de_int (dv 4)) li_or))))
  (dss_one (ds_ret (dv 3))))))) ?_
  rintro ds q hl ⟨n, es, rfl, W, hq⟩
  have hlo := W.lo
  have hhi := W.hi
  simp only [tdSeq, tdIfS, tdRet, tdRetN, tdNext, tdNever, tdDrop, tdBreak, tdCont, tdSet, tdOwn, tdAsg, tdAppend, tdExtend, tdPop, tdAug, tdAugSub, tdPar, tdParOO, tdParSO, tdAsgSOS, tdParSD, tdPutT, tdSortKeys, tdFor, tdLc, tdYes, gdName, gdNil, gdCons, gdTup, gdSub, tdSh, tdLent, tdC, td1, td2, tf1, tdB, tdAnd, tdOr, tdNot, tdAndV, tdOrV, tdNotV, tdIf, tdNil, tdCons, tdTup, tdLst, tdChain, tdIxB, tdRep, tdCat, tdCall, tdCallR, tiL, tiT, tiR1, tiR2, rI, rI0, rU, rLen, rInts, rBools, rInt, rTuple, rList, rIxD, nn_none, nn_int, nn_tup, noOwn, wipeD, Slot.addr, truD, List.getElem?_cons_zero, List.getElem?_cons_succ, List.set_cons_zero, List.set_cons_succ, List.map_cons, List.map_nil, List.length_cons, List.length_nil, List.cons_append, List.nil_append, List.replicate, Nat.sub_self, Nat.zero_add, Nat.add_one_sub_one, Nat.reduceAdd, Nat.reduceSub, Nat.succ_sub_succ_eq_sub, Nat.sub_zero, List.all_cons, List.all_nil, Option.isNone_none, Bool.and_self, Bool.and_true, List.reduceReplicate, true_and, and_true, wD, bD, lD, pD, if_true, if_false, Bool.not_true, Bool.not_false, Bool.false_eq_true]
  refine ⟨by decide, ⟨by omega, by omega, by unfold sizeLine; omega⟩, ?_⟩
  intro a ha
  refine wFor_ind (fun ds ρ => ∃ (done rest : List Edge) (ms : List Nat) (x y : Slot), es = done ++ rest ∧ ds = rest.map pD ∧ NearDone n done ms ∧ ρ = [.sh (wD n es), .sh (.int n), .sh (.tuple (es.map pD)), .own a (ms.map fun (m : Nat) => PyData.int (m : Int)), x, y]) ?_ ?_ _ _ ⟨[], es, List.replicate n.toNat 0, .un, .un, rfl, rfl, near_zero (by omega), ?_⟩
  · rintro ρ ⟨done, rest, ms, x, y, he, hr, N, rfl⟩
    have : rest = [] := by
      cases rest with
      | nil => rfl
      | cons p r => cases hr
    subst this
    rw [List.append_nil] at he
    subst he
    simp only [tdSeq, tdIfS, tdRet, tdRetN, tdNext, tdNever, tdDrop, tdBreak, tdCont, tdSet, tdOwn, tdAsg, tdAppend, tdExtend, tdPop, tdAug, tdAugSub, tdPar, tdParOO, tdParSO, tdAsgSOS, tdParSD, tdPutT, tdSortKeys, tdFor, tdLc, tdYes, gdName, gdNil, gdCons, gdTup, gdSub, tdSh, tdLent, tdC, td1, td2, tf1, tdB, tdAnd, tdOr, tdNot, tdAndV, tdOrV, tdNotV, tdIf, tdNil, tdCons, tdTup, tdLst, tdChain, tdIxB, tdRep, tdCat, tdCall, tdCallR, tiL, tiT, tiR1, tiR2, rI, rI0, rU, rLen, rInts, rBools, rInt, rTuple, rList, rIxD, nn_none, nn_int, nn_tup, noOwn, wipeD, Slot.addr, truD, List.getElem?_cons_zero, List.getElem?_cons_succ, List.set_cons_zero, List.set_cons_succ, List.map_cons, List.map_nil, List.length_cons, List.length_nil, List.cons_append, List.nil_append, List.replicate, Nat.sub_self, Nat.zero_add, Nat.add_one_sub_one, Nat.reduceAdd, Nat.reduceSub, Nat.succ_sub_succ_eq_sub, Nat.sub_zero, List.all_cons, List.all_nil, Option.isNone_none, Bool.and_self, Bool.and_true, List.reduceReplicate, true_and, and_true, wD, bD, lD, pD, if_true, if_false, Bool.not_true, Bool.not_false, Bool.false_eq_true]
    exact hq ms N
  · rintro d ds ρ k ⟨done, rest, ms, x, y, he, hr, N, rfl⟩ hk
    cases rest with
    | nil => cases hr
    | cons p rest =>
      obtain ⟨a', b'⟩ := p
      obtain ⟨rfl, rfl⟩ := List.cons.inj hr
      obtain ⟨g1, g2, g3⟩ := W.ed (a', b') (by rw [he]; simp)
      simp only at g1 g2 g3
      obtain ⟨A, rfl⟩ := Int.eq_ofNat_of_zero_le g1
      obtain ⟨B, rfl⟩ := Int.eq_ofNat_of_zero_le (show 0 ≤ b' by omega)
      have hA : A < ms.length := by have := N.1; omega
      have hB : B < ms.length := by have := N.1; omega
      have st := near_step N (a := A) (b := B) (by omega) (by omega) (List.getElem?_eq_getElem hA) (List.getElem?_eq_getElem hB)
      simp only [tdSeq, tdIfS, tdRet, tdRetN, tdNext, tdNever, tdDrop, tdBreak, tdCont, tdSet, tdOwn, tdAsg, tdAppend, tdExtend, tdPop, tdAug, tdAugSub, tdPar, tdParOO, tdParSO, tdAsgSOS, tdParSD, tdPutT, tdSortKeys, tdFor, tdLc, tdYes, gdName, gdNil, gdCons, gdTup, gdSub, tdSh, tdLent, tdC, td1, td2, tf1, tdB, tdAnd, tdOr, tdNot, tdAndV, tdOrV, tdNotV, tdIf, tdNil, tdCons, tdTup, tdLst, tdChain, tdIxB, tdRep, tdCat, tdCall, tdCallR, tiL, tiT, tiR1, tiR2, rI, rI0, rU, rLen, rInts, rBools, rInt, rTuple, rList, rIxD, nn_none, nn_int, nn_tup, noOwn, wipeD, Slot.addr, truD, List.getElem?_cons_zero, List.getElem?_cons_succ, List.set_cons_zero, List.set_cons_succ, List.map_cons, List.map_nil, List.length_cons, List.length_nil, List.cons_append, List.nil_append, List.replicate, Nat.sub_self, Nat.zero_add, Nat.add_one_sub_one, Nat.reduceAdd, Nat.reduceSub, Nat.succ_sub_succ_eq_sub, Nat.sub_zero, List.all_cons, List.all_nil, Option.isNone_none, Bool.and_self, Bool.and_true, List.reduceReplicate, true_and, and_true, wD, bD, lD, pD, if_true, if_false, Bool.not_true, Bool.not_false, Bool.false_eq_true]
      refine ⟨.int (ms[A] : Nat), ?_, ?_⟩
      · rw [atI_nat (by rw [List.length_map]; exact hA), List.getElem?_map, List.getElem?_eq_getElem hA]; rfl
      simp only [tdSeq, tdIfS, tdRet, tdRetN, tdNext, tdNever, tdDrop, tdBreak, tdCont, tdSet, tdOwn, tdAsg, tdAppend, tdExtend, tdPop, tdAug, tdAugSub, tdPar, tdParOO, tdParSO, tdAsgSOS, tdParSD, tdPutT, tdSortKeys, tdFor, tdLc, tdYes, gdName, gdNil, gdCons, gdTup, gdSub, tdSh, tdLent, tdC, td1, td2, tf1, tdB, tdAnd, tdOr, tdNot, tdAndV, tdOrV, tdNotV, tdIf, tdNil, tdCons, tdTup, tdLst, tdChain, tdIxB, tdRep, tdCat, tdCall, tdCallR, tiL, tiT, tiR1, tiR2, rI, rI0, rU, rLen, rInts, rBools, rInt, rTuple, rList, rIxD, nn_none, nn_int, nn_tup, noOwn, wipeD, Slot.addr, truD, List.getElem?_cons_zero, List.getElem?_cons_succ, List.set_cons_zero, List.set_cons_succ, List.map_cons, List.map_nil, List.length_cons, List.length_nil, List.cons_append, List.nil_append, List.replicate, Nat.sub_self, Nat.zero_add, Nat.add_one_sub_one, Nat.reduceAdd, Nat.reduceSub, Nat.succ_sub_succ_eq_sub, Nat.sub_zero, List.all_cons, List.all_nil, Option.isNone_none, Bool.and_self, Bool.and_true, List.reduceReplicate, true_and, and_true, wD, bD, lD, pD, if_true, if_false, Bool.not_true, Bool.not_false, Bool.false_eq_true]
      refine ⟨⟨by omega, by omega, by decide⟩, A, ?_, ?_⟩
      · rw [ixN_pos (by omega) (by rw [List.length_map]; omega)]; rfl
      rw [or_nat]
      refine ⟨.int (ms[B] : Nat), ?_, ?_⟩
      · rw [atI_nat (by rw [List.length_set, List.length_map]; exact hB), List.getElem?_set, if_neg (by omega), List.getElem?_map, List.getElem?_eq_getElem hB]; rfl
      simp only [tdSeq, tdIfS, tdRet, tdRetN, tdNext, tdNever, tdDrop, tdBreak, tdCont, tdSet, tdOwn, tdAsg, tdAppend, tdExtend, tdPop, tdAug, tdAugSub, tdPar, tdParOO, tdParSO, tdAsgSOS, tdParSD, tdPutT, tdSortKeys, tdFor, tdLc, tdYes, gdName, gdNil, gdCons, gdTup, gdSub, tdSh, tdLent, tdC, td1, td2, tf1, tdB, tdAnd, tdOr, tdNot, tdAndV, tdOrV, tdNotV, tdIf, tdNil, tdCons, tdTup, tdLst, tdChain, tdIxB, tdRep, tdCat, tdCall, tdCallR, tiL, tiT, tiR1, tiR2, rI, rI0, rU, rLen, rInts, rBools, rInt, rTuple, rList, rIxD, nn_none, nn_int, nn_tup, noOwn, wipeD, Slot.addr, truD, List.getElem?_cons_zero, List.getElem?_cons_succ, List.set_cons_zero, List.set_cons_succ, List.map_cons, List.map_nil, List.length_cons, List.length_nil, List.cons_append, List.nil_append, List.replicate, Nat.sub_self, Nat.zero_add, Nat.add_one_sub_one, Nat.reduceAdd, Nat.reduceSub, Nat.succ_sub_succ_eq_sub, Nat.sub_zero, List.all_cons, List.all_nil, Option.isNone_none, Bool.and_self, Bool.and_true, List.reduceReplicate, true_and, and_true, wD, bD, lD, pD, if_true, if_false, Bool.not_true, Bool.not_false, Bool.false_eq_true]
      refine ⟨⟨by omega, by omega, by decide⟩, B, ?_, ?_⟩
      · rw [ixN_pos (by omega) (by rw [List.length_set, List.length_map]; omega)]; rfl
      rw [or_nat]
      refine hk _ ⟨done ++ [((A : Int), (B : Int))], rest, _, .sh (.int A), .sh (.int B), by rw [he]; simp, rfl, st, ?_⟩
      rw [List.map_set, List.map_set]
      rfl
  · rw [flat_rep]; rfl
theorem fn_turned_table (T : Top K mg) (F_near_masks : Fn P w K mg base 1 "near_masks" (spD K 1 sd_near_masks)) (F_lowest_in : Fn P w K mg base 1 "lowest_in" (spD K 1 sd_lowest_in)) : Fn P w K mg base 2 "turned_table" (spD K 2 sd_turned_table) := by
  refine defD T.d_turned_table sc_turned_table (by decide) (fun f cdv A outer s H E hr => (dss_cons (dset 2 sc_turned_table.nd (dcall F_near_masks hr (da_cons (dv 0) da_nil)))
  (dss_cons (down 3 sc_turned_table.nd (df_lst (da_cons (dv 1) da_nil)))
  (dss_cons (ds_for PassesOwn.never rfl (di_range2 rfl T.b_range (da_cons de_int (da_cons (de_op l_shl de_int (de_ix (dv 0) de_int (fun _ _ => rfl))) da_nil))) (dgn 4 sc_turned_table.nd)
   (dss_one (ds_append (i := 3) rfl (by first | exact Or.inl rfl | exact Or.inr (Or.inl rfl) | exact Or.inr (Or.inr rfl)) (de_op l_xor (de_ixB (dbv 3) (de_op l_and (dv 4) (de_op l_sub (dv 4) de_int)) (fun _ _ => rfl)) (de_ix (dv 2) (dcall F_lowest_in hr (da_cons (dv 4) da_nil)) (fun _ _ => rfl))))))
  (dss_one (ds_ret (dv 3))))))) ?_
  rintro ds q hl ⟨n, es, ls, m0, rfl, W, F, M0, hq⟩
  have hlo := W.lo
  have hhi := W.hi
  have hp : 2 ^ n.toNat ≤ 2 ^ 9 := Nat.pow_le_pow_right (by decide) (by omega)
  have hp1 : 1 ≤ 2 ^ n.toNat := Nat.two_pow_pos _
  simp only [tdSeq, tdIfS, tdRet, tdRetN, tdNext, tdNever, tdDrop, tdBreak, tdCont, tdSet, tdOwn, tdAsg, tdAppend, tdExtend, tdPop, tdAug, tdAugSub, tdPar, tdParOO, tdParSO, tdAsgSOS, tdParSD, tdPutT, tdSortKeys, tdFor, tdLc, tdYes, gdName, gdNil, gdCons, gdTup, gdSub, tdSh, tdLent, tdC, td1, td2, tf1, tdB, tdAnd, tdOr, tdNot, tdAndV, tdOrV, tdNotV, tdIf, tdNil, tdCons, tdTup, tdLst, tdChain, tdIxB, tdRep, tdCat, tdCall, tdCallR, tiL, tiT, tiR1, tiR2, rI, rI0, rU, rLen, rInts, rBools, rInt, rTuple, rList, rIxD, nn_none, nn_int, nn_tup, noOwn, wipeD, Slot.addr, truD, List.getElem?_cons_zero, List.getElem?_cons_succ, List.set_cons_zero, List.set_cons_succ, List.map_cons, List.map_nil, List.length_cons, List.length_nil, List.cons_append, List.nil_append, List.replicate, Nat.sub_self, Nat.zero_add, Nat.add_one_sub_one, Nat.reduceAdd, Nat.reduceSub, Nat.succ_sub_succ_eq_sub, Nat.sub_zero, List.all_cons, List.all_nil, Option.isNone_none, Bool.and_self, Bool.and_true, List.reduceReplicate, true_and, and_true, wD, bD, lD, pD, if_true, if_false, Bool.not_true, Bool.not_false, Bool.false_eq_true]
  refine ⟨_, _, rfl, W, fun ms N => ?_⟩
  try simp only [tdSeq, tdIfS, tdRet, tdRetN, tdNext, tdNever, tdDrop, tdBreak, tdCont, tdSet, tdOwn, tdAsg, tdAppend, tdExtend, tdPop, tdAug, tdAugSub, tdPar, tdParOO, tdParSO, tdAsgSOS, tdParSD, tdPutT, tdSortKeys, tdFor, tdLc, tdYes, gdName, gdNil, gdCons, gdTup, gdSub, tdSh, tdLent, tdC, td1, td2, tf1, tdB, tdAnd, tdOr, tdNot, tdAndV, tdOrV, tdNotV, tdIf, tdNil, tdCons, tdTup, tdLst, tdChain, tdIxB, tdRep, tdCat, tdCall, tdCallR, tiL, tiT, tiR1, tiR2, rI, rI0, rU, rLen, rInts, rBools, rInt, rTuple, rList, rIxD, nn_none, nn_int, nn_tup, noOwn, wipeD, Slot.addr, truD, List.getElem?_cons_zero, List.getElem?_cons_succ, List.set_cons_zero, List.set_cons_succ, List.map_cons, List.map_nil, List.length_cons, List.length_nil, List.cons_append, List.nil_append, List.replicate, Nat.sub_self, Nat.zero_add, Nat.add_one_sub_one, Nat.reduceAdd, Nat.reduceSub, Nat.succ_sub_succ_eq_sub, Nat.sub_zero, List.all_cons, List.all_nil, Option.isNone_none, Bool.and_self, Bool.and_true, List.reduceReplicate, true_and, and_true, wD, bD, lD, pD, if_true, if_false, Bool.not_true, Bool.not_false, Bool.false_eq_true]
  refine ⟨by decide, fun a ha => ⟨_, rfl, ?_⟩⟩
  try simp only [tdSeq, tdIfS, tdRet, tdRetN, tdNext, tdNever, tdDrop, tdBreak, tdCont, tdSet, tdOwn, tdAsg, tdAppend, tdExtend, tdPop, tdAug, tdAugSub, tdPar, tdParOO, tdParSO, tdAsgSOS, tdParSD, tdPutT, tdSortKeys, tdFor, tdLc, tdYes, gdName, gdNil, gdCons, gdTup, gdSub, tdSh, tdLent, tdC, td1, td2, tf1, tdB, tdAnd, tdOr, tdNot, tdAndV, tdOrV, tdNotV, tdIf, tdNil, tdCons, tdTup, tdLst, tdChain, tdIxB, tdRep, tdCat, tdCall, tdCallR, tiL, tiT, tiR1, tiR2, rI, rI0, rU, rLen, rInts, rBools, rInt, rTuple, rList, rIxD, nn_none, nn_int, nn_tup, noOwn, wipeD, Slot.addr, truD, List.getElem?_cons_zero, List.getElem?_cons_succ, List.set_cons_zero, List.set_cons_succ, List.map_cons, List.map_nil, List.length_cons, List.length_nil, List.cons_append, List.nil_append, List.replicate, Nat.sub_self, Nat.zero_add, Nat.add_one_sub_one, Nat.reduceAdd, Nat.reduceSub, Nat.succ_sub_succ_eq_sub, Nat.sub_zero, List.all_cons, List.all_nil, Option.isNone_none, Bool.and_self, Bool.and_true, List.reduceReplicate, true_and, and_true, wD, bD, lD, pD, if_true, if_false, Bool.not_true, Bool.not_false, Bool.false_eq_true]
  obtain ⟨Q, hQ⟩ : ∃ Q : Nat, Q = 2 ^ n.toNat := ⟨_, rfl⟩
  have e1 : (1 * 2 ^ n.toNat : Int) = ((Q : Nat) : Int) := by rw [Int.one_mul, hQ]; exact (Int.natCast_pow 2 _).symm
  rw [e1]
  rw [← hQ] at hp hp1
  refine ⟨⟨by omega, by omega, by decide⟩, ⟨by omega, by omega, by omega, by omega⟩, ?_⟩
  refine wFor_ind (fun ds ρ => ∃ (ts : List Nat) (x4 : Slot), 1 ≤ ts.length ∧ ts.length ≤ Q ∧ ds = (rangeD 1 ((Q : Int) - 1).toNat).drop (ts.length - 1) ∧ TabOk n es ls ts ∧ ρ = [.sh (wD n es), .sh (.int (m0 : Int)), .sh (.list (ms.map fun (m : Nat) => PyData.int (m : Int))), .own a (ts.map fun (m : Nat) => PyData.int (m : Int)), x4]) ?_ ?_ _ _ ⟨[m0], .un, by simp, by simpa using hp1, rfl, tab_zero F M0, rfl⟩
  · rintro ρ ⟨ts, x4, t1, t2, hd, TB, rfl⟩
    have h1 := range_endL hd
    have tl : ts.length = Q := by omega
    try simp only [tdSeq, tdIfS, tdRet, tdRetN, tdNext, tdNever, tdDrop, tdBreak, tdCont, tdSet, tdOwn, tdAsg, tdAppend, tdExtend, tdPop, tdAug, tdAugSub, tdPar, tdParOO, tdParSO, tdAsgSOS, tdParSD, tdPutT, tdSortKeys, tdFor, tdLc, tdYes, gdName, gdNil, gdCons, gdTup, gdSub, tdSh, tdLent, tdC, td1, td2, tf1, tdB, tdAnd, tdOr, tdNot, tdAndV, tdOrV, tdNotV, tdIf, tdNil, tdCons, tdTup, tdLst, tdChain, tdIxB, tdRep, tdCat, tdCall, tdCallR, tiL, tiT, tiR1, tiR2, rI, rI0, rU, rLen, rInts, rBools, rInt, rTuple, rList, rIxD, nn_none, nn_int, nn_tup, noOwn, wipeD, Slot.addr, truD, List.getElem?_cons_zero, List.getElem?_cons_succ, List.set_cons_zero, List.set_cons_succ, List.map_cons, List.map_nil, List.length_cons, List.length_nil, List.cons_append, List.nil_append, List.replicate, Nat.sub_self, Nat.zero_add, Nat.add_one_sub_one, Nat.reduceAdd, Nat.reduceSub, Nat.succ_sub_succ_eq_sub, Nat.sub_zero, List.all_cons, List.all_nil, Option.isNone_none, Bool.and_self, Bool.and_true, List.reduceReplicate, true_and, and_true, wD, bD, lD, pD, if_true, if_false, Bool.not_true, Bool.not_false, Bool.false_eq_true]
    exact hq ts (by rw [tl, hQ]) TB
  · rintro d ds ρ k' ⟨ts, x4, t1, t2, hd, TB, rfl⟩ hk'
    obtain ⟨hj, rfl, rfl⟩ := range_stepL hd
    rw [show (1 : Int) + ((ts.length - 1 : Nat) : Int) = (ts.length : Int) by omega]
    obtain ⟨k, h1, h2⟩ := low_bit ts.length (by omega)
    have hk : k < n.toNat := by
      have g := Nat.ge_two_pow_of_testBit h1
      have : 2 ^ k < 2 ^ n.toNat := by rw [← hQ]; omega
      exact (Nat.pow_lt_pow_iff_right (by decide)).mp this
    have hkm : k < ms.length := by have := N.1; omega
    have hal : (ts.length &&& (ts.length - 1)) < ts.length := Nat.lt_of_le_of_lt Nat.and_le_right (by omega)
    have hx := List.getElem?_eq_getElem hal
    have hy := List.getElem?_eq_getElem hkm
    have st := tab_step W F TB N (by omega) h1 h2 hx hy
    simp only [tdSeq, tdIfS, tdRet, tdRetN, tdNext, tdNever, tdDrop, tdBreak, tdCont, tdSet, tdOwn, tdAsg, tdAppend, tdExtend, tdPop, tdAug, tdAugSub, tdPar, tdParOO, tdParSO, tdAsgSOS, tdParSD, tdPutT, tdSortKeys, tdFor, tdLc, tdYes, gdName, gdNil, gdCons, gdTup, gdSub, tdSh, tdLent, tdC, td1, td2, tf1, tdB, tdAnd, tdOr, tdNot, tdAndV, tdOrV, tdNotV, tdIf, tdNil, tdCons, tdTup, tdLst, tdChain, tdIxB, tdRep, tdCat, tdCall, tdCallR, tiL, tiT, tiR1, tiR2, rI, rI0, rU, rLen, rInts, rBools, rInt, rTuple, rList, rIxD, nn_none, nn_int, nn_tup, noOwn, wipeD, Slot.addr, truD, List.getElem?_cons_zero, List.getElem?_cons_succ, List.set_cons_zero, List.set_cons_succ, List.map_cons, List.map_nil, List.length_cons, List.length_nil, List.cons_append, List.nil_append, List.replicate, Nat.sub_self, Nat.zero_add, Nat.add_one_sub_one, Nat.reduceAdd, Nat.reduceSub, Nat.succ_sub_succ_eq_sub, Nat.sub_zero, List.all_cons, List.all_nil, Option.isNone_none, Bool.and_self, Bool.and_true, List.reduceReplicate, true_and, and_true, wD, bD, lD, pD, if_true, if_false, Bool.not_true, Bool.not_false, Bool.false_eq_true]
    rw [show (ts.length : Int) - 1 = ((ts.length - 1 : Nat) : Int) by omega, and_nat]
    refine ⟨_, by rw [atI_nat (by rw [List.length_map]; exact hal), List.getElem?_map, hx]; rfl, ?_⟩
    refine ⟨ts.length, k, rfl, by omega, h1, h2, ?_⟩
    simp only [tdSeq, tdIfS, tdRet, tdRetN, tdNext, tdNever, tdDrop, tdBreak, tdCont, tdSet, tdOwn, tdAsg, tdAppend, tdExtend, tdPop, tdAug, tdAugSub, tdPar, tdParOO, tdParSO, tdAsgSOS, tdParSD, tdPutT, tdSortKeys, tdFor, tdLc, tdYes, gdName, gdNil, gdCons, gdTup, gdSub, tdSh, tdLent, tdC, td1, td2, tf1, tdB, tdAnd, tdOr, tdNot, tdAndV, tdOrV, tdNotV, tdIf, tdNil, tdCons, tdTup, tdLst, tdChain, tdIxB, tdRep, tdCat, tdCall, tdCallR, tiL, tiT, tiR1, tiR2, rI, rI0, rU, rLen, rInts, rBools, rInt, rTuple, rList, rIxD, nn_none, nn_int, nn_tup, noOwn, wipeD, Slot.addr, truD, List.getElem?_cons_zero, List.getElem?_cons_succ, List.set_cons_zero, List.set_cons_succ, List.map_cons, List.map_nil, List.length_cons, List.length_nil, List.cons_append, List.nil_append, List.replicate, Nat.sub_self, Nat.zero_add, Nat.add_one_sub_one, Nat.reduceAdd, Nat.reduceSub, Nat.succ_sub_succ_eq_sub, Nat.sub_zero, List.all_cons, List.all_nil, Option.isNone_none, Bool.and_self, Bool.and_true, List.reduceReplicate, true_and, and_true, wD, bD, lD, pD, if_true, if_false, Bool.not_true, Bool.not_false, Bool.false_eq_true]
    refine ⟨_, by rw [atI_nat (by rw [List.length_map]; exact hkm), List.getElem?_map, hy]; rfl, ?_⟩
    simp only [tdSeq, tdIfS, tdRet, tdRetN, tdNext, tdNever, tdDrop, tdBreak, tdCont, tdSet, tdOwn, tdAsg, tdAppend, tdExtend, tdPop, tdAug, tdAugSub, tdPar, tdParOO, tdParSO, tdAsgSOS, tdParSD, tdPutT, tdSortKeys, tdFor, tdLc, tdYes, gdName, gdNil, gdCons, gdTup, gdSub, tdSh, tdLent, tdC, td1, td2, tf1, tdB, tdAnd, tdOr, tdNot, tdAndV, tdOrV, tdNotV, tdIf, tdNil, tdCons, tdTup, tdLst, tdChain, tdIxB, tdRep, tdCat, tdCall, tdCallR, tiL, tiT, tiR1, tiR2, rI, rI0, rU, rLen, rInts, rBools, rInt, rTuple, rList, rIxD, nn_none, nn_int, nn_tup, noOwn, wipeD, Slot.addr, truD, List.getElem?_cons_zero, List.getElem?_cons_succ, List.set_cons_zero, List.set_cons_succ, List.map_cons, List.map_nil, List.length_cons, List.length_nil, List.cons_append, List.nil_append, List.replicate, Nat.sub_self, Nat.zero_add, Nat.add_one_sub_one, Nat.reduceAdd, Nat.reduceSub, Nat.succ_sub_succ_eq_sub, Nat.sub_zero, List.all_cons, List.all_nil, Option.isNone_none, Bool.and_self, Bool.and_true, List.reduceReplicate, true_and, and_true, wD, bD, lD, pD, if_true, if_false, Bool.not_true, Bool.not_false, Bool.false_eq_true]
    refine ⟨by rw [List.length_map]; unfold sizeLine; omega, ?_⟩
    refine hk' _ ⟨ts ++ [ts[ts.length &&& (ts.length - 1)] ^^^ ms[k]], .sh (.int ts.length), by simp, by rw [List.length_append]; simp only [List.length_cons, List.length_nil]; omega, by rw [List.length_append]; simp only [List.length_cons, List.length_nil]; rw [show ts.length + (0 + 1) - 1 = ts.length - 1 + 1 by omega], st, ?_⟩
    rw [List.map_append, Bits.bitXor_pp (Int.natCast_nonneg _) (Int.natCast_nonneg _), Int.toNat_natCast, Int.toNat_natCast]
    rfl
theorem fn_ready_table (T : Top K mg) (F_lying_mask : Fn P w K mg base 2 "lying_mask" (spD K 1 sd_lying_mask)) (F_turned_table : Fn P w K mg base 2 "turned_table" (spD K 2 sd_turned_table)) (F_head_mask : Fn P w K mg base 2 "head_mask" (spD K 1 sd_head_mask)) : Fn P w K mg base 3 "ready_table" (spD K 2 sd_ready_table) := by
  refine defD T.d_ready_table sc_ready_table (by decide) (fun f cdv A outer s H E hr => (dss_cons (dset 2 sc_ready_table.nd (dcall F_lying_mask hr (da_cons (dv 1) da_nil)))
  (dss_one (ds_ret (DF.de (df_lc (own := [("state", 3), ("heads", 4)]) rfl sc_ready_table.nd (di_enumL rfl T.b_enumerate (dcall F_turned_table hr (da_cons (dv 0) (da_cons (dcall F_head_mask hr (da_cons (dv 1) da_nil)) da_nil)))) (blkOk_by (N := ["web", "laying", "lying", "state", "heads"]) (sc := defScope s_ready_table) (by decide +kernel)) (fun _ _ _ _ _ => (dg_tup (n := 2) rfl (dgs_cons (dgn 3 sc_ready_table.nd) (dgs_cons (dgn 4 sc_ready_table.nd) dgs_nil)))) (fun _ _ _ _ _ => dts_nil) (fun _ _ _ _ _ => (de_op l_and (de_op l_and (dv 4) (dv 2)) (de_un l_inv (dv 3)))))))))) ?_
  rintro ds q hl ⟨n, es, ls, rfl, W, F, hq⟩
  have hlo := W.lo
  have hhi := W.hi
  have hp : 2 ^ n.toNat ≤ 2 ^ 9 := Nat.pow_le_pow_right (by decide) (by omega)
  simp only [tdSeq, tdIfS, tdRet, tdRetN, tdNext, tdNever, tdDrop, tdBreak, tdCont, tdSet, tdOwn, tdAsg, tdAppend, tdExtend, tdPop, tdAug, tdAugSub, tdPar, tdParOO, tdParSO, tdAsgSOS, tdParSD, tdPutT, tdSortKeys, tdFor, tdLc, tdYes, gdName, gdNil, gdCons, gdTup, gdSub, tdSh, tdLent, tdC, td1, td2, tf1, tdB, tdAnd, tdOr, tdNot, tdAndV, tdOrV, tdNotV, tdIf, tdNil, tdCons, tdTup, tdLst, tdChain, tdIxB, tdRep, tdCat, tdCall, tdCallR, tiL, tiT, tiR1, tiR2, rI, rI0, rU, rLen, rInts, rBools, rInt, rTuple, rList, rIxD, nn_none, nn_int, nn_tup, noOwn, wipeD, Slot.addr, truD, List.getElem?_cons_zero, List.getElem?_cons_succ, List.set_cons_zero, List.set_cons_succ, List.map_cons, List.map_nil, List.length_cons, List.length_nil, List.cons_append, List.nil_append, List.replicate, Nat.sub_self, Nat.zero_add, Nat.add_one_sub_one, Nat.reduceAdd, Nat.reduceSub, Nat.succ_sub_succ_eq_sub, Nat.sub_zero, List.all_cons, List.all_nil, Option.isNone_none, Bool.and_self, Bool.and_true, List.reduceReplicate, true_and, and_true, wD, bD, lD, pD, if_true, if_false, Bool.not_true, Bool.not_false, Bool.false_eq_true]
  refine ⟨n, ls, rfl, F, hhi, fun ml ML => ?_⟩
  try simp only [tdSeq, tdIfS, tdRet, tdRetN, tdNext, tdNever, tdDrop, tdBreak, tdCont, tdSet, tdOwn, tdAsg, tdAppend, tdExtend, tdPop, tdAug, tdAugSub, tdPar, tdParOO, tdParSO, tdAsgSOS, tdParSD, tdPutT, tdSortKeys, tdFor, tdLc, tdYes, gdName, gdNil, gdCons, gdTup, gdSub, tdSh, tdLent, tdC, td1, td2, tf1, tdB, tdAnd, tdOr, tdNot, tdAndV, tdOrV, tdNotV, tdIf, tdNil, tdCons, tdTup, tdLst, tdChain, tdIxB, tdRep, tdCat, tdCall, tdCallR, tiL, tiT, tiR1, tiR2, rI, rI0, rU, rLen, rInts, rBools, rInt, rTuple, rList, rIxD, nn_none, nn_int, nn_tup, noOwn, wipeD, Slot.addr, truD, List.getElem?_cons_zero, List.getElem?_cons_succ, List.set_cons_zero, List.set_cons_succ, List.map_cons, List.map_nil, List.length_cons, List.length_nil, List.cons_append, List.nil_append, List.replicate, Nat.sub_self, Nat.zero_add, Nat.add_one_sub_one, Nat.reduceAdd, Nat.reduceSub, Nat.succ_sub_succ_eq_sub, Nat.sub_zero, List.all_cons, List.all_nil, Option.isNone_none, Bool.and_self, Bool.and_true, List.reduceReplicate, true_and, and_true, wD, bD, lD, pD, if_true, if_false, Bool.not_true, Bool.not_false, Bool.false_eq_true]
  refine ⟨n, ls, rfl, F, hhi, fun m0 M0 => ?_⟩
  try simp only [tdSeq, tdIfS, tdRet, tdRetN, tdNext, tdNever, tdDrop, tdBreak, tdCont, tdSet, tdOwn, tdAsg, tdAppend, tdExtend, tdPop, tdAug, tdAugSub, tdPar, tdParOO, tdParSO, tdAsgSOS, tdParSD, tdPutT, tdSortKeys, tdFor, tdLc, tdYes, gdName, gdNil, gdCons, gdTup, gdSub, tdSh, tdLent, tdC, td1, td2, tf1, tdB, tdAnd, tdOr, tdNot, tdAndV, tdOrV, tdNotV, tdIf, tdNil, tdCons, tdTup, tdLst, tdChain, tdIxB, tdRep, tdCat, tdCall, tdCallR, tiL, tiT, tiR1, tiR2, rI, rI0, rU, rLen, rInts, rBools, rInt, rTuple, rList, rIxD, nn_none, nn_int, nn_tup, noOwn, wipeD, Slot.addr, truD, List.getElem?_cons_zero, List.getElem?_cons_succ, List.set_cons_zero, List.set_cons_succ, List.map_cons, List.map_nil, List.length_cons, List.length_nil, List.cons_append, List.nil_append, List.replicate, Nat.sub_self, Nat.zero_add, Nat.add_one_sub_one, Nat.reduceAdd, Nat.reduceSub, Nat.succ_sub_succ_eq_sub, Nat.sub_zero, List.all_cons, List.all_nil, Option.isNone_none, Bool.and_self, Bool.and_true, List.reduceReplicate, true_and, and_true, wD, bD, lD, pD, if_true, if_false, Bool.not_true, Bool.not_false, Bool.false_eq_true]
  refine ⟨n, es, ls, m0, rfl, W, F, M0, fun ts tl TB => ?_⟩
  try simp only [tdSeq, tdIfS, tdRet, tdRetN, tdNext, tdNever, tdDrop, tdBreak, tdCont, tdSet, tdOwn, tdAsg, tdAppend, tdExtend, tdPop, tdAug, tdAugSub, tdPar, tdParOO, tdParSO, tdAsgSOS, tdParSD, tdPutT, tdSortKeys, tdFor, tdLc, tdYes, gdName, gdNil, gdCons, gdTup, gdSub, tdSh, tdLent, tdC, td1, td2, tf1, tdB, tdAnd, tdOr, tdNot, tdAndV, tdOrV, tdNotV, tdIf, tdNil, tdCons, tdTup, tdLst, tdChain, tdIxB, tdRep, tdCat, tdCall, tdCallR, tiL, tiT, tiR1, tiR2, rI, rI0, rU, rLen, rInts, rBools, rInt, rTuple, rList, rIxD, nn_none, nn_int, nn_tup, noOwn, wipeD, Slot.addr, truD, List.getElem?_cons_zero, List.getElem?_cons_succ, List.set_cons_zero, List.set_cons_succ, List.map_cons, List.map_nil, List.length_cons, List.length_nil, List.cons_append, List.nil_append, List.replicate, Nat.sub_self, Nat.zero_add, Nat.add_one_sub_one, Nat.reduceAdd, Nat.reduceSub, Nat.succ_sub_succ_eq_sub, Nat.sub_zero, List.all_cons, List.all_nil, Option.isNone_none, Bool.and_self, Bool.and_true, List.reduceReplicate, true_and, and_true, wD, bD, lD, pD, if_true, if_false, Bool.not_true, Bool.not_false, Bool.false_eq_true]
  unfold enumD
  rw [List.length_map]
  refine wLc_map (fun (i : Nat) => PyData.tuple [.int (i : Int), (ts.map fun (m : Nat) => PyData.int (m : Int)).getD i .none]) (fun _ => true) (fun (i : Nat) => .int (((ts.getD i 0 &&& ml) ^^^ ((ts.getD i 0 &&& ml) &&& i) : Nat) : Int)) (List.range ts.length) (by rw [List.length_range]; unfold sizeLine; omega) ?_ ?_
  · intro i hi k1 k2 hk1 hk2
    have hi' := List.mem_range.mp hi
    have := hk1 rfl
    rw [List.getD_eq_getElem?_getD, List.getElem?_eq_getElem hi'] at this
    rw [getD_map hi']
    simp only [tdSeq, tdIfS, tdRet, tdRetN, tdNext, tdNever, tdDrop, tdBreak, tdCont, tdSet, tdOwn, tdAsg, tdAppend, tdExtend, tdPop, tdAug, tdAugSub, tdPar, tdParOO, tdParSO, tdAsgSOS, tdParSD, tdPutT, tdSortKeys, tdFor, tdLc, tdYes, gdName, gdNil, gdCons, gdTup, gdSub, tdSh, tdLent, tdC, td1, td2, tf1, tdB, tdAnd, tdOr, tdNot, tdAndV, tdOrV, tdNotV, tdIf, tdNil, tdCons, tdTup, tdLst, tdChain, tdIxB, tdRep, tdCat, tdCall, tdCallR, tiL, tiT, tiR1, tiR2, rI, rI0, rU, rLen, rInts, rBools, rInt, rTuple, rList, rIxD, nn_none, nn_int, nn_tup, noOwn, wipeD, Slot.addr, truD, List.getElem?_cons_zero, List.getElem?_cons_succ, List.set_cons_zero, List.set_cons_succ, List.map_cons, List.map_nil, List.length_cons, List.length_nil, List.cons_append, List.nil_append, List.replicate, Nat.sub_self, Nat.zero_add, Nat.add_one_sub_one, Nat.reduceAdd, Nat.reduceSub, Nat.succ_sub_succ_eq_sub, Nat.sub_zero, List.all_cons, List.all_nil, Option.isNone_none, Bool.and_self, Bool.and_true, List.reduceReplicate, true_and, and_true, wD, bD, lD, pD, if_true, if_false, Bool.not_true, Bool.not_false, Bool.false_eq_true]
    rw [and_nat, diff_nat]
    exact this
  · rw [filt_true]
    have := hq ((List.range ts.length).map fun i => (ts.getD i 0 &&& ml) ^^^ ((ts.getD i 0 &&& ml) &&& i)) ⟨by rw [List.length_map, List.length_range, tl], fun s m h => ?_⟩
    · rw [List.map_map] at this
      exact this
    · rw [map_range_get] at h
      split at h
      · rename_i hs
        have e := Option.some.inj h
        rw [List.getD_eq_getElem?_getD, List.getElem?_eq_getElem hs] at e
        obtain ⟨a1, a2⟩ := TB s _ (List.getElem?_eq_getElem hs)
        have a3 : (ts[s] &&& ml) < 2 ^ 9 := Nat.lt_of_le_of_lt Nat.and_le_left a1
        subst e
        refine ⟨Nat.xor_lt_two_pow a3 (Nat.lt_of_le_of_lt Nat.and_le_left a3), fun j => ?_⟩
        show ((ts[s] &&& ml) ^^^ ((ts[s] &&& ml) &&& s)).testBit j = _
        rw [diff_bit, Nat.testBit_and, a2, ML.2]
        by_cases hj : j < n.toNat
        · rw [decide_eq_true (List.mem_map.mpr ⟨j, List.mem_range.mpr hj, rfl⟩), Bool.and_true]
        · have : rdyB n es ls s j = false := by unfold rdyB; rw [decide_eq_false hj]; rfl
          rw [this]; rfl
      · cases h
theorem fn_on_table (T : Top K mg) (F_places_in : Fn P w K mg base 1 "places_in" (spD K 1 sd_places_in)) : Fn P w K mg base 2 "on_table" (spD K 1 sd_on_table) := by
  refine defD T.d_on_table sc_on_table (by decide) (fun f cdv A outer s H E hr => (dss_cons (down 1 sc_on_table.nd (df_rep (df_lst (da_cons de_int da_nil)) (de_b1 call_len_seq l1_len rfl T.b_len (by decide +kernel) (d1 (dbv 0)))))
  (dss_cons (ds_asg de_int (dgsub 1 (de_un l_neg de_int)))
  (dss_cons (ds_for PassesOwn.never rfl (di_rev rfl T.b_reversed rfl T.b_range (de_op l_sub (de_b1 call_len_seq l1_len rfl T.b_len (by decide +kernel) (d1 (dbv 0))) de_int)) (dgn 2 sc_on_table.nd)
   (dss_one (ds_asg (de_b1 (cr_sum2 rfl) l1_sum2 rfl T.b_sum (by decide +kernel) (d1 (DE.lend (DF.de (df_lc (own := [("place", 3)]) rfl sc_on_table.nd (di_list (dcall F_places_in hr (da_cons (de_ix (dv 0) (dv 2) (fun _ _ => rfl)) da_nil))) (blkOk_by (N := ["ready", "on", "state", "place"]) (sc := defScope s_on_table) (by decide +kernel)) (fun _ _ _ _ _ => (dgn 3 sc_on_table.nd)) (fun _ _ _ _ _ => dts_nil) (fun _ _ _ _ _ => (de_ixB (dbv 1) (de_op l_or (dv 2) (de_op l_shl de_int (dv 3))) (fun _ _ => rfl)))))))) (dgsub 1 (dv 2)))))
  (dss_one (ds_ret (dv 1))))))) ?_
  rintro ds q hl ⟨n, es, ls, rs, rfl, W, F, RT, hq⟩
  have hlo := W.lo
  have hhi := W.hi
  have hp : 2 ^ n.toNat ≤ 2 ^ 9 := Nat.pow_le_pow_right (by decide) (by omega)
  have hp1 : 2 ≤ 2 ^ n.toNat := Nat.pow_le_pow_right (n := 2) (by decide) (show 1 ≤ n.toNat by omega)
  obtain ⟨Q, hQ⟩ : ∃ Q : Nat, Q = 2 ^ n.toNat := ⟨_, rfl⟩
  have hrl := RT.1
  simp only [tdSeq, tdIfS, tdRet, tdRetN, tdNext, tdNever, tdDrop, tdBreak, tdCont, tdSet, tdOwn, tdAsg, tdAppend, tdExtend, tdPop, tdAug, tdAugSub, tdPar, tdParOO, tdParSO, tdAsgSOS, tdParSD, tdPutT, tdSortKeys, tdFor, tdLc, tdYes, gdName, gdNil, gdCons, gdTup, gdSub, tdSh, tdLent, tdC, td1, td2, tf1, tdB, tdAnd, tdOr, tdNot, tdAndV, tdOrV, tdNotV, tdIf, tdNil, tdCons, tdTup, tdLst, tdChain, tdIxB, tdRep, tdCat, tdCall, tdCallR, tiL, tiT, tiR1, tiR2, rI, rI0, rU, rLen, rInts, rBools, rInt, rTuple, rList, rIxD, nn_none, nn_int, nn_tup, noOwn, wipeD, Slot.addr, truD, List.getElem?_cons_zero, List.getElem?_cons_succ, List.set_cons_zero, List.set_cons_succ, List.map_cons, List.map_nil, List.length_cons, List.length_nil, List.cons_append, List.nil_append, List.replicate, Nat.sub_self, Nat.zero_add, Nat.add_one_sub_one, Nat.reduceAdd, Nat.reduceSub, Nat.succ_sub_succ_eq_sub, Nat.sub_zero, List.all_cons, List.all_nil, Option.isNone_none, Bool.and_self, Bool.and_true, List.reduceReplicate, true_and, and_true, wD, bD, lD, pD, if_true, if_false, Bool.not_true, Bool.not_false, Bool.false_eq_true]
  unfold tiRev
  simp only [tdSeq, tdIfS, tdRet, tdRetN, tdNext, tdNever, tdDrop, tdBreak, tdCont, tdSet, tdOwn, tdAsg, tdAppend, tdExtend, tdPop, tdAug, tdAugSub, tdPar, tdParOO, tdParSO, tdAsgSOS, tdParSD, tdPutT, tdSortKeys, tdFor, tdLc, tdYes, gdName, gdNil, gdCons, gdTup, gdSub, tdSh, tdLent, tdC, td1, td2, tf1, tdB, tdAnd, tdOr, tdNot, tdAndV, tdOrV, tdNotV, tdIf, tdNil, tdCons, tdTup, tdLst, tdChain, tdIxB, tdRep, tdCat, tdCall, tdCallR, tiL, tiT, tiR1, tiR2, rI, rI0, rU, rLen, rInts, rBools, rInt, rTuple, rList, rIxD, nn_none, nn_int, nn_tup, noOwn, wipeD, Slot.addr, truD, List.getElem?_cons_zero, List.getElem?_cons_succ, List.set_cons_zero, List.set_cons_succ, List.map_cons, List.map_nil, List.length_cons, List.length_nil, List.cons_append, List.nil_append, List.replicate, Nat.sub_self, Nat.zero_add, Nat.add_one_sub_one, Nat.reduceAdd, Nat.reduceSub, Nat.succ_sub_succ_eq_sub, Nat.sub_zero, List.all_cons, List.all_nil, Option.isNone_none, Bool.and_self, Bool.and_true, List.reduceReplicate, true_and, and_true, wD, bD, lD, pD, if_true, if_false, Bool.not_true, Bool.not_false, Bool.false_eq_true]
  rw [List.length_map]
  refine ⟨by decide, ⟨by omega, by omega, by rw [hrl]; unfold sizeLine; omega⟩, fun a ha => ⟨rs.length - 1, ?_, ?_⟩⟩
  · rw [flat_rep, List.length_map, List.length_replicate, Int.toNat_natCast]
    unfold ixN
    rw [if_neg (by omega), if_pos (by omega)]
    congr 1
    omega
  refine ⟨⟨by omega, by omega⟩, ?_⟩
  refine wFor_ind (fun ds ρ => ∃ (j : Nat) (cur : List Nat) (x2 x3 : Slot), j ≤ Q - 1 ∧ ds = (revD ((rs.length : Int) - 1).toNat).drop j ∧ OnSt n es ls (Q - 1 - j) cur ∧ (x3 = .un ∨ ∃ d, x3 = .sh d) ∧ ρ = [.sh (.list (rs.map fun (m : Nat) => PyData.int (m : Int))), .own a (cur.map fun (m : Nat) => PyData.int (m : Int)), x2, x3]) ?_ ?_ _ _ ⟨0, (List.replicate (2 ^ n.toNat) 0).set (2 ^ n.toNat - 1) 1, .un, .un, by omega, rfl, by rw [hQ]; exact on_start, .inl rfl, ?_⟩
  · rintro ρ ⟨j, cur, x2, x3, hj, hd, OS, hx3, rfl⟩
    have h1 : ((rs.length : Int) - 1).toNat ≤ j := by
      have := congrArg List.length hd
      rw [List.length_drop, revD_len] at this
      simp only [List.length_nil] at this
      omega
    simp only [tdSeq, tdIfS, tdRet, tdRetN, tdNext, tdNever, tdDrop, tdBreak, tdCont, tdSet, tdOwn, tdAsg, tdAppend, tdExtend, tdPop, tdAug, tdAugSub, tdPar, tdParOO, tdParSO, tdAsgSOS, tdParSD, tdPutT, tdSortKeys, tdFor, tdLc, tdYes, gdName, gdNil, gdCons, gdTup, gdSub, tdSh, tdLent, tdC, td1, td2, tf1, tdB, tdAnd, tdOr, tdNot, tdAndV, tdOrV, tdNotV, tdIf, tdNil, tdCons, tdTup, tdLst, tdChain, tdIxB, tdRep, tdCat, tdCall, tdCallR, tiL, tiT, tiR1, tiR2, rI, rI0, rU, rLen, rInts, rBools, rInt, rTuple, rList, rIxD, nn_none, nn_int, nn_tup, noOwn, wipeD, Slot.addr, truD, List.getElem?_cons_zero, List.getElem?_cons_succ, List.set_cons_zero, List.set_cons_succ, List.map_cons, List.map_nil, List.length_cons, List.length_nil, List.cons_append, List.nil_append, List.replicate, Nat.sub_self, Nat.zero_add, Nat.add_one_sub_one, Nat.reduceAdd, Nat.reduceSub, Nat.succ_sub_succ_eq_sub, Nat.sub_zero, List.all_cons, List.all_nil, Option.isNone_none, Bool.and_self, Bool.and_true, List.reduceReplicate, true_and, and_true, wD, bD, lD, pD, if_true, if_false, Bool.not_true, Bool.not_false, Bool.false_eq_true]
    rw [show Q - 1 - j = 0 by omega] at OS
    exact hq _ (on_end OS)
  · rintro d ds ρ k ⟨j, cur, x2, x3, hj, hd, OS, hx3, rfl⟩ hk
    obtain ⟨hj2, rfl, rfl⟩ := rev_step hd
    obtain ⟨i, hi⟩ : ∃ i : Nat, i + 1 = Q - 1 - j := ⟨Q - 1 - j - 1, by omega⟩
    have ei : ((((rs.length : Int) - 1).toNat : Nat) : Int) - 1 - (j : Int) = (i : Int) := by omega
    rw [ei]
    rw [← hi] at OS
    have hir : i < rs.length := by omega
    have hr := List.getElem?_eq_getElem hir
    have hbits := rtab_heads hhi RT hr
    have st := on_step OS (by omega)
    have hcl := OS.len
    simp only [tdSeq, tdIfS, tdRet, tdRetN, tdNext, tdNever, tdDrop, tdBreak, tdCont, tdSet, tdOwn, tdAsg, tdAppend, tdExtend, tdPop, tdAug, tdAugSub, tdPar, tdParOO, tdParSO, tdAsgSOS, tdParSD, tdPutT, tdSortKeys, tdFor, tdLc, tdYes, gdName, gdNil, gdCons, gdTup, gdSub, tdSh, tdLent, tdC, td1, td2, tf1, tdB, tdAnd, tdOr, tdNot, tdAndV, tdOrV, tdNotV, tdIf, tdNil, tdCons, tdTup, tdLst, tdChain, tdIxB, tdRep, tdCat, tdCall, tdCallR, tiL, tiT, tiR1, tiR2, rI, rI0, rU, rLen, rInts, rBools, rInt, rTuple, rList, rIxD, nn_none, nn_int, nn_tup, noOwn, wipeD, Slot.addr, truD, List.getElem?_cons_zero, List.getElem?_cons_succ, List.set_cons_zero, List.set_cons_succ, List.map_cons, List.map_nil, List.length_cons, List.length_nil, List.cons_append, List.nil_append, List.replicate, Nat.sub_self, Nat.zero_add, Nat.add_one_sub_one, Nat.reduceAdd, Nat.reduceSub, Nat.succ_sub_succ_eq_sub, Nat.sub_zero, List.all_cons, List.all_nil, Option.isNone_none, Bool.and_self, Bool.and_true, List.reduceReplicate, true_and, and_true, wD, bD, lD, pD, if_true, if_false, Bool.not_true, Bool.not_false, Bool.false_eq_true]
    refine ⟨_, by rw [atI_nat (by rw [List.length_map]; exact hir), List.getElem?_map, hr]; rfl, ?_⟩
    refine ⟨rs[i], rfl, (RT.2 i _ hr).1, ?_⟩
    rw [hbits]
    simp only [tdSeq, tdIfS, tdRet, tdRetN, tdNext, tdNever, tdDrop, tdBreak, tdCont, tdSet, tdOwn, tdAsg, tdAppend, tdExtend, tdPop, tdAug, tdAugSub, tdPar, tdParOO, tdParSO, tdAsgSOS, tdParSD, tdPutT, tdSortKeys, tdFor, tdLc, tdYes, gdName, gdNil, gdCons, gdTup, gdSub, tdSh, tdLent, tdC, td1, td2, tf1, tdB, tdAnd, tdOr, tdNot, tdAndV, tdOrV, tdNotV, tdIf, tdNil, tdCons, tdTup, tdLst, tdChain, tdIxB, tdRep, tdCat, tdCall, tdCallR, tiL, tiT, tiR1, tiR2, rI, rI0, rU, rLen, rInts, rBools, rInt, rTuple, rList, rIxD, nn_none, nn_int, nn_tup, noOwn, wipeD, Slot.addr, truD, List.getElem?_cons_zero, List.getElem?_cons_succ, List.set_cons_zero, List.set_cons_succ, List.map_cons, List.map_nil, List.length_cons, List.length_nil, List.cons_append, List.nil_append, List.replicate, Nat.sub_self, Nat.zero_add, Nat.add_one_sub_one, Nat.reduceAdd, Nat.reduceSub, Nat.succ_sub_succ_eq_sub, Nat.sub_zero, List.all_cons, List.all_nil, Option.isNone_none, Bool.and_self, Bool.and_true, List.reduceReplicate, true_and, and_true, wD, bD, lD, pD, if_true, if_false, Bool.not_true, Bool.not_false, Bool.false_eq_true]
    refine ⟨by rcases hx3 with rfl | ⟨d, rfl⟩ <;> rfl, ?_⟩
    refine wLc_map .int (fun _ => true) (fun (k : Int) => .int (cur.getD (i ||| 2 ^ k.toNat) 0 : Nat)) (headsL (stB n es ls i)) (by have := heads_len (behL_ok (n := n) (by omega) es F (bitsOf i)); unfold stB sizeLine; omega) ?_ ?_
    · intro p hp1 k1 k2 hk1 hk2
      obtain ⟨g0, g1, g2, g3⟩ := stB_head hp1
      obtain ⟨p, rfl⟩ := Int.eq_ofNat_of_zero_le g0
      have l2 : i ||| 2 ^ p < cur.length := by rw [hcl]; exact or_lt (by omega) g1
      have e1 : cur[i ||| 2 ^ p]? = some (cur.getD (i ||| 2 ^ p) 0) := by rw [List.getD_eq_getElem?_getD, List.getElem?_eq_getElem l2]; rfl
      simp only [tdSeq, tdIfS, tdRet, tdRetN, tdNext, tdNever, tdDrop, tdBreak, tdCont, tdSet, tdOwn, tdAsg, tdAppend, tdExtend, tdPop, tdAug, tdAugSub, tdPar, tdParOO, tdParSO, tdAsgSOS, tdParSD, tdPutT, tdSortKeys, tdFor, tdLc, tdYes, gdName, gdNil, gdCons, gdTup, gdSub, tdSh, tdLent, tdC, td1, td2, tf1, tdB, tdAnd, tdOr, tdNot, tdAndV, tdOrV, tdNotV, tdIf, tdNil, tdCons, tdTup, tdLst, tdChain, tdIxB, tdRep, tdCat, tdCall, tdCallR, tiL, tiT, tiR1, tiR2, rI, rI0, rU, rLen, rInts, rBools, rInt, rTuple, rList, rIxD, nn_none, nn_int, nn_tup, noOwn, wipeD, Slot.addr, truD, List.getElem?_cons_zero, List.getElem?_cons_succ, List.set_cons_zero, List.set_cons_succ, List.map_cons, List.map_nil, List.length_cons, List.length_nil, List.cons_append, List.nil_append, List.replicate, Nat.sub_self, Nat.zero_add, Nat.add_one_sub_one, Nat.reduceAdd, Nat.reduceSub, Nat.succ_sub_succ_eq_sub, Nat.sub_zero, List.all_cons, List.all_nil, Option.isNone_none, Bool.and_self, Bool.and_true, List.reduceReplicate, true_and, and_true, wD, bD, lD, pD, if_true, if_false, Bool.not_true, Bool.not_false, Bool.false_eq_true]
      refine ⟨⟨by omega, by omega, by decide⟩, ?_⟩
      rw [or_nat]
      refine ⟨.int (cur.getD (i ||| 2 ^ p) 0 : Nat), by rw [atI_nat (by rw [List.length_map]; exact l2), List.getElem?_map, e1]; rfl, ?_⟩
      exact hk1 rfl
    · rw [filt_true]
      refine ⟨(headsL (stB n es ls i)).map fun k => ((cur.getD (i ||| 2 ^ k.toNat) 0 : Nat) : Int), by rw [List.map_map]; rfl, ?_⟩
      rw [sum_cast]
      refine ⟨i, by rw [ixN_pos (by omega) (by rw [List.length_map]; omega)]; rfl, ?_⟩
      refine hk _ ⟨j + 1, _, .sh (.int i), x3, by omega, rfl, by rw [show Q - 1 - (j + 1) = i by omega]; exact st, hx3, ?_⟩
      rw [List.map_set]
  · rw [flat_rep, List.map_set, Int.toNat_natCast, hrl]
    rfl
theorem fn_to_table (T : Top K mg) (F_places_in : Fn P w K mg base 1 "places_in" (spD K 1 sd_places_in)) : Fn P w K mg base 2 "to_table" (spD K 1 sd_to_table) := by
  refine defD T.d_to_table sc_to_table (by decide) (fun f cdv A outer s H E hr => (dss_cons (down 1 sc_to_table.nd (df_rep (df_lst (da_cons de_int da_nil)) (de_b1 call_len_seq l1_len rfl T.b_len (by decide +kernel) (d1 (dbv 0)))))
  (dss_cons (ds_asg de_int (dgsub 1 de_int))
  (dss_cons (ds_for PassesOwn.never rfl (di_enumL rfl T.b_enumerate (dv 0)) (dg_tup (n := 2) rfl (dgs_cons (dgn 2 sc_to_table.nd) (dgs_cons (dgn 3 sc_to_table.nd) dgs_nil)))
   (dss_one (ds_for PassesOwn.never rfl (di_list (dcall F_places_in hr (da_cons (dv 3) da_nil))) (dgn 4 sc_to_table.nd)
   (dss_one (daugsub 1 (de_op l_or (dv 2) (de_op l_shl de_int (dv 4))) (de_ixB (dbv 1) (dv 2) (fun _ _ => rfl)) li_add)))))
  (dss_one (ds_ret (dv 1))))))) ?_
  rintro ds q hl ⟨n, es, ls, rs, rfl, W, F, RT, hq⟩
  have hlo := W.lo
  have hhi := W.hi
  have hp : 2 ^ n.toNat ≤ 2 ^ 9 := Nat.pow_le_pow_right (by decide) (by omega)
  have hp1 : 1 ≤ 2 ^ n.toNat := Nat.two_pow_pos _
  obtain ⟨Q, hQ⟩ : ∃ Q : Nat, Q = 2 ^ n.toNat := ⟨_, rfl⟩
  have hrl := RT.1
  simp only [tdSeq, tdIfS, tdRet, tdRetN, tdNext, tdNever, tdDrop, tdBreak, tdCont, tdSet, tdOwn, tdAsg, tdAppend, tdExtend, tdPop, tdAug, tdAugSub, tdPar, tdParOO, tdParSO, tdAsgSOS, tdParSD, tdPutT, tdSortKeys, tdFor, tdLc, tdYes, gdName, gdNil, gdCons, gdTup, gdSub, tdSh, tdLent, tdC, td1, td2, tf1, tdB, tdAnd, tdOr, tdNot, tdAndV, tdOrV, tdNotV, tdIf, tdNil, tdCons, tdTup, tdLst, tdChain, tdIxB, tdRep, tdCat, tdCall, tdCallR, tiL, tiT, tiR1, tiR2, rI, rI0, rU, rLen, rInts, rBools, rInt, rTuple, rList, rIxD, nn_none, nn_int, nn_tup, noOwn, wipeD, Slot.addr, truD, List.getElem?_cons_zero, List.getElem?_cons_succ, List.set_cons_zero, List.set_cons_succ, List.map_cons, List.map_nil, List.length_cons, List.length_nil, List.cons_append, List.nil_append, List.replicate, Nat.sub_self, Nat.zero_add, Nat.add_one_sub_one, Nat.reduceAdd, Nat.reduceSub, Nat.succ_sub_succ_eq_sub, Nat.sub_zero, List.all_cons, List.all_nil, Option.isNone_none, Bool.and_self, Bool.and_true, List.reduceReplicate, true_and, and_true, wD, bD, lD, pD, if_true, if_false, Bool.not_true, Bool.not_false, Bool.false_eq_true]
  rw [List.length_map]
  refine ⟨by decide, ⟨by omega, by omega, by rw [hrl]; unfold sizeLine; omega⟩, fun a ha => ⟨0, ?_, ?_⟩⟩
  · rw [flat_rep, ixN_pos (by omega) (by rw [List.length_map, List.length_replicate]; omega)]; rfl
  refine wFor_ind (fun ds ρ => ∃ (i : Nat) (cur : List Nat) (x2 x3 x4 : Slot), i ≤ Q ∧ ds = (enumD (rs.map fun (m : Nat) => PyData.int (m : Int))).drop i ∧ ToSt n es ls i [] cur ∧ ρ = [.sh (.list (rs.map fun (m : Nat) => PyData.int (m : Int))), .own a (cur.map fun (m : Nat) => PyData.int (m : Int)), x2, x3, x4]) ?_ ?_ _ _ ⟨0, (List.replicate (2 ^ n.toNat) 0).set 0 1, .un, .un, .un, by omega, rfl, to_start (by omega), ?_⟩
  · rintro ρ ⟨i, cur, x2, x3, x4, hi, hd, TS, rfl⟩
    have h1 := enum_end hd
    rw [List.length_map, hrl] at h1
    have : i = 2 ^ n.toNat := by omega
    subst this
    simp only [tdSeq, tdIfS, tdRet, tdRetN, tdNext, tdNever, tdDrop, tdBreak, tdCont, tdSet, tdOwn, tdAsg, tdAppend, tdExtend, tdPop, tdAug, tdAugSub, tdPar, tdParOO, tdParSO, tdAsgSOS, tdParSD, tdPutT, tdSortKeys, tdFor, tdLc, tdYes, gdName, gdNil, gdCons, gdTup, gdSub, tdSh, tdLent, tdC, td1, td2, tf1, tdB, tdAnd, tdOr, tdNot, tdAndV, tdOrV, tdNotV, tdIf, tdNil, tdCons, tdTup, tdLst, tdChain, tdIxB, tdRep, tdCat, tdCall, tdCallR, tiL, tiT, tiR1, tiR2, rI, rI0, rU, rLen, rInts, rBools, rInt, rTuple, rList, rIxD, nn_none, nn_int, nn_tup, noOwn, wipeD, Slot.addr, truD, List.getElem?_cons_zero, List.getElem?_cons_succ, List.set_cons_zero, List.set_cons_succ, List.map_cons, List.map_nil, List.length_cons, List.length_nil, List.cons_append, List.nil_append, List.replicate, Nat.sub_self, Nat.zero_add, Nat.add_one_sub_one, Nat.reduceAdd, Nat.reduceSub, Nat.succ_sub_succ_eq_sub, Nat.sub_zero, List.all_cons, List.all_nil, Option.isNone_none, Bool.and_self, Bool.and_true, List.reduceReplicate, true_and, and_true, wD, bD, lD, pD, if_true, if_false, Bool.not_true, Bool.not_false, Bool.false_eq_true]
    exact hq _ (to_end TS)
  · rintro d ds ρ k ⟨i, cur, x2, x3, x4, hi, hd, TS, rfl⟩ hk
    obtain ⟨x', hx, rfl, rfl⟩ := enum_step hd
    rw [List.getElem?_map] at hx
    obtain ⟨r, hr, rfl⟩ := Option.map_eq_some_iff.mp hx
    have hir : i < rs.length := (List.getElem?_eq_some_iff.mp hr).1
    have hbits := rtab_heads hhi RT hr
    simp only [tdSeq, tdIfS, tdRet, tdRetN, tdNext, tdNever, tdDrop, tdBreak, tdCont, tdSet, tdOwn, tdAsg, tdAppend, tdExtend, tdPop, tdAug, tdAugSub, tdPar, tdParOO, tdParSO, tdAsgSOS, tdParSD, tdPutT, tdSortKeys, tdFor, tdLc, tdYes, gdName, gdNil, gdCons, gdTup, gdSub, tdSh, tdLent, tdC, td1, td2, tf1, tdB, tdAnd, tdOr, tdNot, tdAndV, tdOrV, tdNotV, tdIf, tdNil, tdCons, tdTup, tdLst, tdChain, tdIxB, tdRep, tdCat, tdCall, tdCallR, tiL, tiT, tiR1, tiR2, rI, rI0, rU, rLen, rInts, rBools, rInt, rTuple, rList, rIxD, nn_none, nn_int, nn_tup, noOwn, wipeD, Slot.addr, truD, List.getElem?_cons_zero, List.getElem?_cons_succ, List.set_cons_zero, List.set_cons_succ, List.map_cons, List.map_nil, List.length_cons, List.length_nil, List.cons_append, List.nil_append, List.replicate, Nat.sub_self, Nat.zero_add, Nat.add_one_sub_one, Nat.reduceAdd, Nat.reduceSub, Nat.succ_sub_succ_eq_sub, Nat.sub_zero, List.all_cons, List.all_nil, Option.isNone_none, Bool.and_self, Bool.and_true, List.reduceReplicate, true_and, and_true, wD, bD, lD, pD, if_true, if_false, Bool.not_true, Bool.not_false, Bool.false_eq_true]
    refine ⟨r, rfl, (RT.2 i r hr).1, ?_⟩
    rw [hbits]
    refine wFor_ind (fun ds ρ => ∃ (done rest : List Int) (cur : List Nat) (x4 : Slot), headsL (stB n es ls i) = done ++ rest ∧ ds = rest.map .int ∧ ToSt n es ls i done cur ∧ ρ = [.sh (.list (rs.map fun (m : Nat) => PyData.int (m : Int))), .own a (cur.map fun (m : Nat) => PyData.int (m : Int)), .sh (.int i), .sh (.int r), x4]) ?_ ?_ _ _ ⟨[], headsL (stB n es ls i), cur, x4, rfl, rfl, TS, rfl⟩
    · rintro ρ ⟨done, rest, cur, x4, he, hre, TS, rfl⟩
      have : rest = [] := by
        cases rest with
        | nil => rfl
        | cons p r => cases hre
      subst this
      rw [List.append_nil] at he
      rw [← he] at TS
      exact hk _ ⟨i + 1, cur, _, _, _, by omega, rfl, to_next TS, rfl⟩
    · rintro d ds ρ k' ⟨done, rest, cur, x4, he, hre, TS, rfl⟩ hk'
      cases rest with
      | nil => cases hre
      | cons p rest =>
        obtain ⟨rfl, rfl⟩ := List.cons.inj hre
        have hp1 : p ∈ headsL (stB n es ls i) := by rw [he]; simp
        obtain ⟨g0, g1, g2, g3⟩ := stB_head hp1
        obtain ⟨p, rfl⟩ := Int.eq_ofNat_of_zero_le g0
        rw [Int.toNat_natCast] at g2
        have hnd : (p : Int) ∉ done := fun z => by
          have := headsL_asc (stB n es ls i)
          rw [he] at this
          have := (List.pairwise_append.mp this).2.2 _ z _ List.mem_cons_self
          omega
        have st := to_step TS (by omega) hp1 hnd
        have hj := or_lt (s := i) (by omega) g1
        have hgt := or_gt g2
        have l1 : i < cur.length := by rw [TS.len]; omega
        have l2 : i ||| 2 ^ p < cur.length := by rw [TS.len]; exact hj
        have e1 : cur[i ||| 2 ^ p]? = some (cur.getD (i ||| 2 ^ p) 0) := by rw [List.getD_eq_getElem?_getD, List.getElem?_eq_getElem l2]; rfl
        have e2 : cur[i]? = some (cur.getD i 0) := by rw [List.getD_eq_getElem?_getD, List.getElem?_eq_getElem l1]; rfl
        simp only [tdSeq, tdIfS, tdRet, tdRetN, tdNext, tdNever, tdDrop, tdBreak, tdCont, tdSet, tdOwn, tdAsg, tdAppend, tdExtend, tdPop, tdAug, tdAugSub, tdPar, tdParOO, tdParSO, tdAsgSOS, tdParSD, tdPutT, tdSortKeys, tdFor, tdLc, tdYes, gdName, gdNil, gdCons, gdTup, gdSub, tdSh, tdLent, tdC, td1, td2, tf1, tdB, tdAnd, tdOr, tdNot, tdAndV, tdOrV, tdNotV, tdIf, tdNil, tdCons, tdTup, tdLst, tdChain, tdIxB, tdRep, tdCat, tdCall, tdCallR, tiL, tiT, tiR1, tiR2, rI, rI0, rU, rLen, rInts, rBools, rInt, rTuple, rList, rIxD, nn_none, nn_int, nn_tup, noOwn, wipeD, Slot.addr, truD, List.getElem?_cons_zero, List.getElem?_cons_succ, List.set_cons_zero, List.set_cons_succ, List.map_cons, List.map_nil, List.length_cons, List.length_nil, List.cons_append, List.nil_append, List.replicate, Nat.sub_self, Nat.zero_add, Nat.add_one_sub_one, Nat.reduceAdd, Nat.reduceSub, Nat.succ_sub_succ_eq_sub, Nat.sub_zero, List.all_cons, List.all_nil, Option.isNone_none, Bool.and_self, Bool.and_true, List.reduceReplicate, true_and, and_true, wD, bD, lD, pD, if_true, if_false, Bool.not_true, Bool.not_false, Bool.false_eq_true]
        refine ⟨⟨by omega, by omega, by decide⟩, ?_⟩
        rw [or_nat]
        refine ⟨.int (cur.getD (i ||| 2 ^ p) 0 : Nat), by rw [atI_nat (by rw [List.length_map]; exact l2), List.getElem?_map, e1]; rfl, .int (cur.getD i 0 : Nat), by rw [atI_nat (by rw [List.length_map]; exact l1), List.getElem?_map, e2]; rfl, ?_⟩
        refine ⟨i ||| 2 ^ p, by rw [ixN_pos (by omega) (by rw [List.length_map]; omega)]; rfl, ?_⟩
        refine hk' _ ⟨done ++ [(p : Int)], rest, _, .sh (.int p), by rw [he]; simp, rfl, st, ?_⟩
        rw [List.map_set, Int.natCast_add]
  · rw [flat_rep, hrl, Int.toNat_natCast, List.map_set]
    rfl
theorem fn_check_all (T : Top K mg) (F_check_web : Fn P w K mg base 4 "check_web" (spD K 1 sd_check_web)) (F_check_full : Fn P w K mg base 3 "check_full" (spD K 2 sd_check_full)) (F_check_state : Fn P w K mg base 4 "check_state" (spD K 2 sd_check_state)) : Fn P w K mg base 5 "check_all" (spD K 3 sd_check_all) := by
  refine defD T.d_check_all sc_check_all (by decide) (fun f cdv A outer s H E hr => (dss_cons (ds_expr (dcall F_check_web hr (da_cons (dv 0) da_nil)))
  (dss_cons (ds_expr (dcall F_check_full hr (da_cons (dv 0) (da_cons (dv 1) da_nil))))
  (dss_one (ds_expr (dcall F_check_state hr (da_cons (dv 0) (da_cons (dv 2) da_nil)))))))) ?_
  rintro ds q hl ⟨n, es, ls, S, rfl, W, F, O, hq⟩
  simp only [tdSeq, tdIfS, tdRet, tdRetN, tdNext, tdNever, tdDrop, tdBreak, tdCont, tdSet, tdOwn, tdAsg, tdAppend, tdExtend, tdPop, tdAug, tdAugSub, tdPar, tdParOO, tdParSO, tdAsgSOS, tdParSD, tdPutT, tdSortKeys, tdFor, tdLc, tdYes, gdName, gdNil, gdCons, gdTup, gdSub, tdSh, tdLent, tdC, td1, td2, tf1, tdB, tdAnd, tdOr, tdNot, tdAndV, tdOrV, tdNotV, tdIf, tdNil, tdCons, tdTup, tdLst, tdChain, tdIxB, tdRep, tdCat, tdCall, tdCallR, tiL, tiT, tiR1, tiR2, rI, rI0, rU, rLen, rInts, rBools, rInt, rTuple, rList, rIxD, nn_none, nn_int, nn_tup, noOwn, wipeD, Slot.addr, truD, List.getElem?_cons_zero, List.getElem?_cons_succ, List.set_cons_zero, List.set_cons_succ, List.map_cons, List.map_nil, List.length_cons, List.length_nil, List.cons_append, List.nil_append, List.replicate, Nat.sub_self, Nat.zero_add, Nat.add_one_sub_one, Nat.reduceAdd, Nat.reduceSub, Nat.succ_sub_succ_eq_sub, Nat.sub_zero, List.all_cons, List.all_nil, Option.isNone_none, Bool.and_self, Bool.and_true, List.reduceReplicate, true_and, and_true, wD, bD, lD, pD, if_true, if_false, Bool.not_true, Bool.not_false, Bool.false_eq_true]
  exact ⟨_, _, rfl, W, _, _, _, rfl, F, _, _, _, rfl, W.hi, O, hq⟩
theorem fn_ways_to (T : Top K mg) (F_check_all : Fn P w K mg base 5 "check_all" (spD K 3 sd_check_all)) (F_to_table : Fn P w K mg base 2 "to_table" (spD K 1 sd_to_table)) (F_mask_of : Fn P w K mg base 1 "mask_of" (spD K 1 sd_mask_of)) (F_ready_table : Fn P w K mg base 3 "ready_table" (spD K 2 sd_ready_table)) : Fn P w K mg base 6 "ways_to" (spD K 3 sd_ways_to) := by
  refine defD T.d_ways_to sc_ways_to (by decide) (fun f cdv A outer s H E hr => (dss_cons (ds_expr (dcall F_check_all hr (da_cons (dv 0) (da_cons (dv 1) (da_cons (dv 2) da_nil)))))
  (dss_one (ds_ret (de_ix (dcall F_to_table hr (da_cons (dcall F_ready_table hr (da_cons (dv 0) (da_cons (dv 1) da_nil))) da_nil)) (dcall F_mask_of hr (da_cons (dv 2) da_nil)) (fun _ _ => rfl)))))) ?_
  rintro ds q hl ⟨n, es, ls, S, rfl, W, F, SO, hq⟩
  have hlo := W.lo
  have hhi := W.hi
  simp only [tdSeq, tdIfS, tdRet, tdRetN, tdNext, tdNever, tdDrop, tdBreak, tdCont, tdSet, tdOwn, tdAsg, tdAppend, tdExtend, tdPop, tdAug, tdAugSub, tdPar, tdParOO, tdParSO, tdAsgSOS, tdParSD, tdPutT, tdSortKeys, tdFor, tdLc, tdYes, gdName, gdNil, gdCons, gdTup, gdSub, tdSh, tdLent, tdC, td1, td2, tf1, tdB, tdAnd, tdOr, tdNot, tdAndV, tdOrV, tdNotV, tdIf, tdNil, tdCons, tdTup, tdLst, tdChain, tdIxB, tdRep, tdCat, tdCall, tdCallR, tiL, tiT, tiR1, tiR2, rI, rI0, rU, rLen, rInts, rBools, rInt, rTuple, rList, rIxD, nn_none, nn_int, nn_tup, noOwn, wipeD, Slot.addr, truD, List.getElem?_cons_zero, List.getElem?_cons_succ, List.set_cons_zero, List.set_cons_succ, List.map_cons, List.map_nil, List.length_cons, List.length_nil, List.cons_append, List.nil_append, List.replicate, Nat.sub_self, Nat.zero_add, Nat.add_one_sub_one, Nat.reduceAdd, Nat.reduceSub, Nat.succ_sub_succ_eq_sub, Nat.sub_zero, List.all_cons, List.all_nil, Option.isNone_none, Bool.and_self, Bool.and_true, List.reduceReplicate, true_and, and_true, wD, bD, lD, pD, if_true, if_false, Bool.not_true, Bool.not_false, Bool.false_eq_true]
  refine ⟨_, _, _, _, rfl, W, F, SO, ?_⟩
  refine ⟨_, _, _, rfl, W, F, fun rs RT => ?_⟩
  refine ⟨n, es, ls, rs, rfl, W, F, RT, fun to TO => ?_⟩
  refine ⟨S, .inl rfl, fun k hk' => by have := SO.rng k hk'; omega, fun m M => ?_⟩
  have hm : m < 2 ^ n.toNat := mask_lt M SO.rng
  have eb : bitsOf m = S := asc_eq (bitsOf_asc m) SO.asc (mem_bits_mask M SO.rng)
  have hl0 : m < to.length := by rw [TO.len]; exact hm
  refine ⟨.int (to.getD m 0 : Nat), ?_, hq to m TO hm eb⟩
  rw [atI_nat (by rw [List.length_map]; exact hl0), List.getElem?_map, List.getElem?_eq_getElem hl0, List.getD_eq_getElem?_getD, List.getElem?_eq_getElem hl0]; rfl
theorem fn_check_both (T : Top K mg) (F_check_all : Fn P w K mg base 5 "check_all" (spD K 3 sd_check_all)) (F_check_state : Fn P w K mg base 4 "check_state" (spD K 2 sd_check_state)) : Fn P w K mg base 6 "check_both" (spD K 4 sd_check_both) := by
  refine defD T.d_check_both sc_check_both (by decide) (fun f cdv A outer s H E hr => (dss_cons (ds_expr (dcall F_check_all hr (da_cons (dv 0) (da_cons (dv 1) (da_cons (dv 2) da_nil)))))
  (dss_one (ds_expr (dcall F_check_state hr (da_cons (dv 0) (da_cons (dv 3) da_nil))))))) ?_
  rintro ds q hl ⟨n, es, ls, S, T, rfl, W, F, O, O', hq⟩
  simp only [tdSeq, tdIfS, tdRet, tdRetN, tdNext, tdNever, tdDrop, tdBreak, tdCont, tdSet, tdOwn, tdAsg, tdAppend, tdExtend, tdPop, tdAug, tdAugSub, tdPar, tdParOO, tdParSO, tdAsgSOS, tdParSD, tdPutT, tdSortKeys, tdFor, tdLc, tdYes, gdName, gdNil, gdCons, gdTup, gdSub, tdSh, tdLent, tdC, td1, td2, tf1, tdB, tdAnd, tdOr, tdNot, tdAndV, tdOrV, tdNotV, tdIf, tdNil, tdCons, tdTup, tdLst, tdChain, tdIxB, tdRep, tdCat, tdCall, tdCallR, tiL, tiT, tiR1, tiR2, rI, rI0, rU, rLen, rInts, rBools, rInt, rTuple, rList, rIxD, nn_none, nn_int, nn_tup, noOwn, wipeD, Slot.addr, truD, List.getElem?_cons_zero, List.getElem?_cons_succ, List.set_cons_zero, List.set_cons_succ, List.map_cons, List.map_nil, List.length_cons, List.length_nil, List.cons_append, List.nil_append, List.replicate, Nat.sub_self, Nat.zero_add, Nat.add_one_sub_one, Nat.reduceAdd, Nat.reduceSub, Nat.succ_sub_succ_eq_sub, Nat.sub_zero, List.all_cons, List.all_nil, Option.isNone_none, Bool.and_self, Bool.and_true, List.reduceReplicate, true_and, and_true, wD, bD, lD, pD, if_true, if_false, Bool.not_true, Bool.not_false, Bool.false_eq_true]
  exact ⟨_, _, _, _, rfl, W, F, O, _, _, _, rfl, W.hi, O', hq⟩
theorem fn_step_table (T : Top K mg) (F_ready_table : Fn P w K mg base 3 "ready_table" (spD K 2 sd_ready_table)) (F_places_in : Fn P w K mg base 1 "places_in" (spD K 1 sd_places_in)) : Fn P w K mg base 4 "step_table" (spD K 2 sd_step_table) := by
  refine defD T.d_step_table sc_step_table (by decide) (fun f cdv A outer s H E hr => (dss_cons (dset 2 sc_step_table.nd (dcall F_ready_table hr (da_cons (dv 0) (da_cons (dv 1) da_nil))))
  (dss_cons (down 3 sc_step_table.nd (df_t1 call_list_of lf_list rfl T.b_list (by decide +kernel) (d1 (dbv 2))))
  (dss_cons (ds_for PassesOwn.never rfl (di_enumL rfl T.b_enumerate (dv 2)) (dg_tup (n := 2) rfl (dgs_cons (dgn 4 sc_step_table.nd) (dgs_cons (dgn 5 sc_step_table.nd) dgs_nil)))
   (dss_one (ds_for PassesOwn.never rfl (di_list (dcall F_places_in hr (da_cons (dv 5) da_nil))) (dgn 6 sc_step_table.nd)
   (dss_one (daugsub 3 (de_op l_or (dv 4) (de_op l_shl de_int (dv 6))) (de_op l_shl de_int (dv 6)) li_or)))))
  (dss_one (ds_ret (dv 3))))))) ?_
  rintro ds q hl ⟨n, es, ls, rfl, W, F, hq⟩
  have hlo := W.lo
  have hhi := W.hi
  have hp : 2 ^ n.toNat ≤ 2 ^ 9 := Nat.pow_le_pow_right (by decide) (by omega)
  simp only [tdSeq, tdIfS, tdRet, tdRetN, tdNext, tdNever, tdDrop, tdBreak, tdCont, tdSet, tdOwn, tdAsg, tdAppend, tdExtend, tdPop, tdAug, tdAugSub, tdPar, tdParOO, tdParSO, tdAsgSOS, tdParSD, tdPutT, tdSortKeys, tdFor, tdLc, tdYes, gdName, gdNil, gdCons, gdTup, gdSub, tdSh, tdLent, tdC, td1, td2, tf1, tdB, tdAnd, tdOr, tdNot, tdAndV, tdOrV, tdNotV, tdIf, tdNil, tdCons, tdTup, tdLst, tdChain, tdIxB, tdRep, tdCat, tdCall, tdCallR, tiL, tiT, tiR1, tiR2, rI, rI0, rU, rLen, rInts, rBools, rInt, rTuple, rList, rIxD, nn_none, nn_int, nn_tup, noOwn, wipeD, Slot.addr, truD, List.getElem?_cons_zero, List.getElem?_cons_succ, List.set_cons_zero, List.set_cons_succ, List.map_cons, List.map_nil, List.length_cons, List.length_nil, List.cons_append, List.nil_append, List.replicate, Nat.sub_self, Nat.zero_add, Nat.add_one_sub_one, Nat.reduceAdd, Nat.reduceSub, Nat.succ_sub_succ_eq_sub, Nat.sub_zero, List.all_cons, List.all_nil, Option.isNone_none, Bool.and_self, Bool.and_true, List.reduceReplicate, true_and, and_true, wD, bD, lD, pD, if_true, if_false, Bool.not_true, Bool.not_false, Bool.false_eq_true]
  refine ⟨_, _, _, rfl, W, F, fun rs RT => ?_⟩
  have hrl := RT.1
  dsimp only
  refine fun a ha => ?_
  refine wFor_at (fun i ρ => ∃ (cur : List Nat) (x4 x5 x6 : Slot), StpI n es ls i [] cur ∧ ρ = [.sh (wD n es), .sh (lD ls), .sh (.list (rs.map fun (m : Nat) => PyData.int (m : Int))), .own a (cur.map fun (m : Nat) => PyData.int (m : Int)), x4, x5, x6]) _ ?_ ?_ _ ⟨rs, .un, .un, .un, StpI.zero RT, rfl⟩
  · rintro ρ ⟨cur, x4, x5, x6, S, rfl⟩
    rw [enumD_len, List.length_map, hrl] at S
    try simp only [tdSeq, tdIfS, tdRet, tdRetN, tdNext, tdNever, tdDrop, tdBreak, tdCont, tdSet, tdOwn, tdAsg, tdAppend, tdExtend, tdPop, tdAug, tdAugSub, tdPar, tdParOO, tdParSO, tdAsgSOS, tdParSD, tdPutT, tdSortKeys, tdFor, tdLc, tdYes, gdName, gdNil, gdCons, gdTup, gdSub, tdSh, tdLent, tdC, td1, td2, tf1, tdB, tdAnd, tdOr, tdNot, tdAndV, tdOrV, tdNotV, tdIf, tdNil, tdCons, tdTup, tdLst, tdChain, tdIxB, tdRep, tdCat, tdCall, tdCallR, tiL, tiT, tiR1, tiR2, rI, rI0, rU, rLen, rInts, rBools, rInt, rTuple, rList, rIxD, nn_none, nn_int, nn_tup, noOwn, wipeD, Slot.addr, truD, List.getElem?_cons_zero, List.getElem?_cons_succ, List.set_cons_zero, List.set_cons_succ, List.map_cons, List.map_nil, List.length_cons, List.length_nil, List.cons_append, List.nil_append, List.replicate, Nat.sub_self, Nat.zero_add, Nat.add_one_sub_one, Nat.reduceAdd, Nat.reduceSub, Nat.succ_sub_succ_eq_sub, Nat.sub_zero, List.all_cons, List.all_nil, Option.isNone_none, Bool.and_self, Bool.and_true, List.reduceReplicate, true_and, and_true, wD, bD, lD, pD, if_true, if_false, Bool.not_true, Bool.not_false, Bool.false_eq_true]
    exact hq cur S.fin
  · rintro i d ρ k hd ⟨cur, x4, x5, x6, S, rfl⟩ hk
    have hi : i < rs.length := by
      have := (List.getElem?_eq_some_iff.mp hd).1
      rw [enumD_len, List.length_map] at this
      exact this
    have hr : rs[i]? = some rs[i] := List.getElem?_eq_getElem hi
    rw [enumD_get (d := .int (rs[i] : Nat)) (by rw [List.getElem?_map, hr]; rfl)] at hd
    cases hd
    try simp only [tdSeq, tdIfS, tdRet, tdRetN, tdNext, tdNever, tdDrop, tdBreak, tdCont, tdSet, tdOwn, tdAsg, tdAppend, tdExtend, tdPop, tdAug, tdAugSub, tdPar, tdParOO, tdParSO, tdAsgSOS, tdParSD, tdPutT, tdSortKeys, tdFor, tdLc, tdYes, gdName, gdNil, gdCons, gdTup, gdSub, tdSh, tdLent, tdC, td1, td2, tf1, tdB, tdAnd, tdOr, tdNot, tdAndV, tdOrV, tdNotV, tdIf, tdNil, tdCons, tdTup, tdLst, tdChain, tdIxB, tdRep, tdCat, tdCall, tdCallR, tdNewD, tdDPut, tdDV, tdShD, tiItems, tiKeys, tdSortKD, tdNotMem, tdMemGet, tdMemPut, tdCallM, tdParSSM, tiL, tiT, tiR1, tiR2, rI, rI0, rU, rLen, rInts, rBools, rInt, rTuple, rList, rIxD, nn_none, nn_int, nn_tup, noOwn, wipeD, Slot.addr, truD, List.getElem?_cons_zero, List.getElem?_cons_succ, List.set_cons_zero, List.set_cons_succ, List.map_cons, List.map_nil, List.length_cons, List.length_nil, List.cons_append, List.nil_append, List.replicate, Nat.sub_self, Nat.zero_add, Nat.add_one_sub_one, Nat.reduceAdd, Nat.reduceSub, Nat.succ_sub_succ_eq_sub, Nat.sub_zero, List.all_cons, List.all_nil, Option.isNone_none, Bool.and_self, Bool.and_true, List.reduceReplicate, true_and, and_true, wD, bD, lD, pD, if_true, if_false, Bool.not_true, Bool.not_false, Bool.false_eq_true]
    refine ⟨_, rfl, (RT.2 i _ hr).1, ?_⟩
    dsimp only
    refine wFor_at (fun t ρ => ∃ (cur : List Nat) (x6 : Slot), StpI n es ls i ((bitsOf rs[i]).take t) cur ∧ ρ = [.sh (wD n es), .sh (lD ls), .sh (.list (rs.map fun (m : Nat) => PyData.int (m : Int))), .own a (cur.map fun (m : Nat) => PyData.int (m : Int)), .sh (.int (i : Int)), .sh (.int (rs[i] : Nat)), x6]) _ ?_ ?_ _ ⟨cur, x6, by rw [List.take_zero]; exact S, rfl⟩
    · rintro ρ ⟨cur, x6, S, rfl⟩
      rw [List.length_map, List.take_length] at S
      exact hk _ ⟨cur, _, _, _, S.row W RT hr, rfl⟩
    · rintro t d ρ k hd ⟨cur, x6, S, rfl⟩ hk
      rw [List.getElem?_map] at hd
      obtain ⟨v, hv, rfl⟩ := Option.map_eq_some_iff.mp hd
      have hvm := List.mem_of_getElem? hv
      obtain ⟨p, rfl⟩ := Int.eq_ofNat_of_zero_le (mem_bitsOf.mp hvm).1
      have hpb : rdyB n es ls i p = true := by
        have := (mem_bitsOf.mp hvm).2
        rw [Int.toNat_natCast, (RT.2 i _ hr).2, Bool.and_eq_true] at this
        exact this.1
      have hpn := rdy_lt hpb
      have hcl := S.1
      have hor : i ||| 2 ^ p < 2 ^ n.toNat := or_lt (by omega) (by omega)
      have hcm : cur[i ||| 2 ^ p]? = some cur[i ||| 2 ^ p] := List.getElem?_eq_getElem (by omega)
      have S' := S.step W hhi RT hr hvm hcm
      try simp only [tdSeq, tdIfS, tdRet, tdRetN, tdNext, tdNever, tdDrop, tdBreak, tdCont, tdSet, tdOwn, tdAsg, tdAppend, tdExtend, tdPop, tdAug, tdAugSub, tdPar, tdParOO, tdParSO, tdAsgSOS, tdParSD, tdPutT, tdSortKeys, tdFor, tdLc, tdYes, gdName, gdNil, gdCons, gdTup, gdSub, tdSh, tdLent, tdC, td1, td2, tf1, tdB, tdAnd, tdOr, tdNot, tdAndV, tdOrV, tdNotV, tdIf, tdNil, tdCons, tdTup, tdLst, tdChain, tdIxB, tdRep, tdCat, tdCall, tdCallR, tdNewD, tdDPut, tdDV, tdShD, tiItems, tiKeys, tdSortKD, tdNotMem, tdMemGet, tdMemPut, tdCallM, tdParSSM, tiL, tiT, tiR1, tiR2, rI, rI0, rU, rLen, rInts, rBools, rInt, rTuple, rList, rIxD, nn_none, nn_int, nn_tup, noOwn, wipeD, Slot.addr, truD, List.getElem?_cons_zero, List.getElem?_cons_succ, List.set_cons_zero, List.set_cons_succ, List.map_cons, List.map_nil, List.length_cons, List.length_nil, List.cons_append, List.nil_append, List.replicate, Nat.sub_self, Nat.zero_add, Nat.add_one_sub_one, Nat.reduceAdd, Nat.reduceSub, Nat.succ_sub_succ_eq_sub, Nat.sub_zero, List.all_cons, List.all_nil, Option.isNone_none, Bool.and_self, Bool.and_true, List.reduceReplicate, true_and, and_true, wD, bD, lD, pD, if_true, if_false, Bool.not_true, Bool.not_false, Bool.false_eq_true]
      refine ⟨⟨by omega, by omega, by decide⟩, ?_⟩
      rw [or_nat]
      refine ⟨.int (cur[i ||| 2 ^ p] : Nat), ?_, ⟨by omega, by omega, by decide⟩, ?_⟩
      · rw [atI_nat (by rw [List.length_map]; omega), List.getElem?_map, hcm]; rfl
      dsimp only
      refine ⟨i ||| 2 ^ p, ?_, ?_⟩
      · rw [List.length_map, ixN_pos (by omega) (by omega)]; rfl
      rw [or_nat]
      refine hk _ ⟨cur.set (i ||| 2 ^ p) (cur[i ||| 2 ^ p] ||| 2 ^ p), .sh (.int (p : Int)), ?_, by rw [List.map_set]; rfl⟩
      rw [List.take_succ, hv]
      exact S'
theorem fn_steps_from (T : Top K mg) (F_places_in : Fn P w K mg base 1 "places_in" (spD K 1 sd_places_in)) : Fn P w K mg base 2 "steps_from" (spD K 2 sd_steps_from) := by
  refine defD T.d_steps_from sc_steps_from (by decide) (fun f cdv A outer s H E hr => (dss_cons (ds_newK 2 sc_steps_from.nd (dfk_disp (dv 1) de_int))
  (dss_cons (dset 3 sc_steps_from.nd (DF.de (df_lst (da_cons (dv 1) da_nil))))
  (dss_cons (ds_while PassesOwn.never (dt_truth (dbv 3)) (dss_cons (down 4 sc_steps_from.nd (df_lst da_nil))
  (dss_cons (ds_for PassesOwn.never rfl (di_list (dv 3)) (dgn 5 sc_steps_from.nd)
   (dss_one (ds_for PassesOwn.never rfl (di_list (dcall F_places_in hr (da_cons (de_ix (dv 0) (dv 5) (fun _ _ => rfl)) da_nil))) (dgn 6 sc_steps_from.nd)
   (dss_cons (dset 7 sc_steps_from.nd (de_op l_xor (dv 5) (de_op l_shl de_int (dv 6))))
  (dss_one (ds_if (dt_dnotin (hu_of hr) (dv 7) (dd_var 2)) (dss_cons (ds_dput 2 (hu_of hr) (dv 7) (de_op l_add (de_dget (hu_of hr) (dd_var 2) (dv 5)) de_int))
  (dss_one (ds_append (i := 4) rfl (by first | exact Or.inl rfl | exact Or.inr (Or.inl rfl) | exact Or.inr (Or.inr rfl)) (dv 7)))) dss_nil))))))
  (dss_one (dset 3 sc_steps_from.nd (dv 4))))))
  (dss_one (ds_ret (de_dvar 2))))))) ?_
  rintro ds q hl ⟨n, es, ls, st, a, rfl, W, T, ha, hq⟩
  have hlo := W.lo
  have hhi := W.hi
  have hp : 2 ^ n.toNat ≤ 2 ^ 9 := Nat.pow_le_pow_right (by decide) (by omega)
  simp only [tdSeq, tdIfS, tdRet, tdRetN, tdNext, tdNever, tdDrop, tdBreak, tdCont, tdSet, tdOwn, tdAsg, tdAppend, tdExtend, tdPop, tdAug, tdAugSub, tdPar, tdParOO, tdParSO, tdAsgSOS, tdParSD, tdPutT, tdSortKeys, tdFor, tdLc, tdYes, gdName, gdNil, gdCons, gdTup, gdSub, tdSh, tdLent, tdC, td1, td2, tf1, tdB, tdAnd, tdOr, tdNot, tdAndV, tdOrV, tdNotV, tdIf, tdNil, tdCons, tdTup, tdLst, tdChain, tdIxB, tdRep, tdCat, tdCall, tdCallR, tiL, tiT, tiR1, tiR2, rI, rI0, rU, rLen, rInts, rBools, rInt, rTuple, rList, rIxD, nn_none, nn_int, nn_tup, noOwn, wipeD, Slot.addr, truD, List.getElem?_cons_zero, List.getElem?_cons_succ, List.set_cons_zero, List.set_cons_succ, List.map_cons, List.map_nil, List.length_cons, List.length_nil, List.cons_append, List.nil_append, List.replicate, Nat.sub_self, Nat.zero_add, Nat.add_one_sub_one, Nat.reduceAdd, Nat.reduceSub, Nat.succ_sub_succ_eq_sub, Nat.sub_zero, List.all_cons, List.all_nil, Option.isNone_none, Bool.and_self, Bool.and_true, List.reduceReplicate, true_and, and_true, wD, bD, lD, pD, if_true, if_false, Bool.not_true, Bool.not_false, Bool.false_eq_true]
  unfold tdNewK tdDisK
  try simp only [tdSeq, tdIfS, tdRet, tdRetN, tdNext, tdNever, tdDrop, tdBreak, tdCont, tdSet, tdOwn, tdAsg, tdAppend, tdExtend, tdPop, tdAug, tdAugSub, tdPar, tdParOO, tdParSO, tdAsgSOS, tdParSD, tdPutT, tdSortKeys, tdFor, tdLc, tdYes, gdName, gdNil, gdCons, gdTup, gdSub, tdSh, tdLent, tdC, td1, td2, tf1, tdB, tdAnd, tdOr, tdNot, tdAndV, tdOrV, tdNotV, tdIf, tdNil, tdCons, tdTup, tdLst, tdChain, tdIxB, tdRep, tdCat, tdCall, tdCallR, tiL, tiT, tiR1, tiR2, rI, rI0, rU, rLen, rInts, rBools, rInt, rTuple, rList, rIxD, nn_none, nn_int, nn_tup, noOwn, wipeD, Slot.addr, truD, List.getElem?_cons_zero, List.getElem?_cons_succ, List.set_cons_zero, List.set_cons_succ, List.map_cons, List.map_nil, List.length_cons, List.length_nil, List.cons_append, List.nil_append, List.replicate, Nat.sub_self, Nat.zero_add, Nat.add_one_sub_one, Nat.reduceAdd, Nat.reduceSub, Nat.succ_sub_succ_eq_sub, Nat.sub_zero, List.all_cons, List.all_nil, Option.isNone_none, Bool.and_self, Bool.and_true, List.reduceReplicate, true_and, and_true, wD, bD, lD, pD, if_true, if_false, Bool.not_true, Bool.not_false, Bool.false_eq_true]
  refine ⟨a, rfl, fun mc hmc => ⟨by decide, ?_⟩⟩
  unfold tdWhile
  have hcl : ∀ x y, x < 2 ^ n.toNat → Stp n es ls x y → y < 2 ^ n.toNat := stp_lt
  refine ⟨fun m' ρ => ∃ (t : Nat) (kc : List (Nat × Nat)) (G : List Nat) (x4 x5 x6 x7 : Slot), LevI (Stp n es ls) a t kc G ∧ m' = 2 * (2 ^ n.toNat - kc.length) + (if G = [] then 0 else 1) ∧ (x4 = .un ∨ ∃ d, x4 = .sh d) ∧ ρ = [.sh (.list (st.map fun (m : Nat) => PyData.int (m : Int))), .sh (.int (a : Int)), .dic mc (.K (KI (dN kc))), .sh (.list (G.map fun (m : Nat) => PyData.int (m : Int))), x4, x5, x6, x7], _, ⟨0, [(a, 0)], [a], .un, .un, .un, .un, LevI.zero a, rfl, .inl rfl, rfl⟩, ?_⟩
  rintro m' ρ ⟨t, kc, G, x4, x5, x6, x7, L, hm, hx4, rfl⟩
  have hkl : kc.length ≤ 2 ^ n.toNat := L.start.keys ha hcl (fun _ z => z.elim) |> keys_len L.nd
  cases G with
  | nil =>
    try simp only [tdSeq, tdIfS, tdRet, tdRetN, tdNext, tdNever, tdDrop, tdBreak, tdCont, tdSet, tdOwn, tdAsg, tdAppend, tdExtend, tdPop, tdAug, tdAugSub, tdPar, tdParOO, tdParSO, tdAsgSOS, tdParSD, tdPutT, tdSortKeys, tdFor, tdLc, tdYes, gdName, gdNil, gdCons, gdTup, gdSub, tdSh, tdLent, tdC, td1, td2, tf1, tdB, tdAnd, tdOr, tdNot, tdAndV, tdOrV, tdNotV, tdIf, tdNil, tdCons, tdTup, tdLst, tdChain, tdIxB, tdRep, tdCat, tdCall, tdCallR, tdNewD, tdDPut, tdDV, tdShD, tiItems, tiKeys, tdSortKD, tdNotMem, tdMemGet, tdMemPut, tdCallM, tdParSSM, tiL, tiT, tiR1, tiR2, rI, rI0, rU, rLen, rInts, rBools, rInt, rTuple, rList, rIxD, nn_none, nn_int, nn_tup, noOwn, wipeD, Slot.addr, truD, List.getElem?_cons_zero, List.getElem?_cons_succ, List.set_cons_zero, List.set_cons_succ, List.map_cons, List.map_nil, List.length_cons, List.length_nil, List.cons_append, List.nil_append, List.replicate, Nat.sub_self, Nat.zero_add, Nat.add_one_sub_one, Nat.reduceAdd, Nat.reduceSub, Nat.succ_sub_succ_eq_sub, Nat.sub_zero, List.all_cons, List.all_nil, Option.isNone_none, Bool.and_self, Bool.and_true, List.reduceReplicate, true_and, and_true, wD, bD, lD, pD, if_true, if_false, Bool.not_true, Bool.not_false, Bool.false_eq_true]
    refine ⟨false, rfl, ?_⟩
    try simp only [tdSeq, tdIfS, tdRet, tdRetN, tdNext, tdNever, tdDrop, tdBreak, tdCont, tdSet, tdOwn, tdAsg, tdAppend, tdExtend, tdPop, tdAug, tdAugSub, tdPar, tdParOO, tdParSO, tdAsgSOS, tdParSD, tdPutT, tdSortKeys, tdFor, tdLc, tdYes, gdName, gdNil, gdCons, gdTup, gdSub, tdSh, tdLent, tdC, td1, td2, tf1, tdB, tdAnd, tdOr, tdNot, tdAndV, tdOrV, tdNotV, tdIf, tdNil, tdCons, tdTup, tdLst, tdChain, tdIxB, tdRep, tdCat, tdCall, tdCallR, tdNewD, tdDPut, tdDV, tdShD, tiItems, tiKeys, tdSortKD, tdNotMem, tdMemGet, tdMemPut, tdCallM, tdParSSM, tiL, tiT, tiR1, tiR2, rI, rI0, rU, rLen, rInts, rBools, rInt, rTuple, rList, rIxD, nn_none, nn_int, nn_tup, noOwn, wipeD, Slot.addr, truD, List.getElem?_cons_zero, List.getElem?_cons_succ, List.set_cons_zero, List.set_cons_succ, List.map_cons, List.map_nil, List.length_cons, List.length_nil, List.cons_append, List.nil_append, List.replicate, Nat.sub_self, Nat.zero_add, Nat.add_one_sub_one, Nat.reduceAdd, Nat.reduceSub, Nat.succ_sub_succ_eq_sub, Nat.sub_zero, List.all_cons, List.all_nil, Option.isNone_none, Bool.and_self, Bool.and_true, List.reduceReplicate, true_and, and_true, wD, bD, lD, pD, if_true, if_false, Bool.not_true, Bool.not_false, Bool.false_eq_true]
    exact ⟨.K (dN kc), rfl, hq kc L.fin⟩
  | cons g0 gr =>
    obtain ⟨G, hG⟩ : ∃ G, G = g0 :: gr := ⟨_, rfl⟩
    have hg1 : G ≠ [] := by rw [hG]; simp
    rw [← hG] at L hm ⊢
    rw [if_neg hg1] at hm
    try simp only [tdSeq, tdIfS, tdRet, tdRetN, tdNext, tdNever, tdDrop, tdBreak, tdCont, tdSet, tdOwn, tdAsg, tdAppend, tdExtend, tdPop, tdAug, tdAugSub, tdPar, tdParOO, tdParSO, tdAsgSOS, tdParSD, tdPutT, tdSortKeys, tdFor, tdLc, tdYes, gdName, gdNil, gdCons, gdTup, gdSub, tdSh, tdLent, tdC, td1, td2, tf1, tdB, tdAnd, tdOr, tdNot, tdAndV, tdOrV, tdNotV, tdIf, tdNil, tdCons, tdTup, tdLst, tdChain, tdIxB, tdRep, tdCat, tdCall, tdCallR, tdNewD, tdDPut, tdDV, tdShD, tiItems, tiKeys, tdSortKD, tdNotMem, tdMemGet, tdMemPut, tdCallM, tdParSSM, tiL, tiT, tiR1, tiR2, rI, rI0, rU, rLen, rInts, rBools, rInt, rTuple, rList, rIxD, nn_none, nn_int, nn_tup, noOwn, wipeD, Slot.addr, truD, List.getElem?_cons_zero, List.getElem?_cons_succ, List.set_cons_zero, List.set_cons_succ, List.map_cons, List.map_nil, List.length_cons, List.length_nil, List.cons_append, List.nil_append, List.replicate, Nat.sub_self, Nat.zero_add, Nat.add_one_sub_one, Nat.reduceAdd, Nat.reduceSub, Nat.succ_sub_succ_eq_sub, Nat.sub_zero, List.all_cons, List.all_nil, Option.isNone_none, Bool.and_self, Bool.and_true, List.reduceReplicate, true_and, and_true, wD, bD, lD, pD, if_true, if_false, Bool.not_true, Bool.not_false, Bool.false_eq_true]
    refine ⟨true, by rw [hG]; rfl, ?_⟩
    try simp only [tdSeq, tdIfS, tdRet, tdRetN, tdNext, tdNever, tdDrop, tdBreak, tdCont, tdSet, tdOwn, tdAsg, tdAppend, tdExtend, tdPop, tdAug, tdAugSub, tdPar, tdParOO, tdParSO, tdAsgSOS, tdParSD, tdPutT, tdSortKeys, tdFor, tdLc, tdYes, gdName, gdNil, gdCons, gdTup, gdSub, tdSh, tdLent, tdC, td1, td2, tf1, tdB, tdAnd, tdOr, tdNot, tdAndV, tdOrV, tdNotV, tdIf, tdNil, tdCons, tdTup, tdLst, tdChain, tdIxB, tdRep, tdCat, tdCall, tdCallR, tdNewD, tdDPut, tdDV, tdShD, tiItems, tiKeys, tdSortKD, tdNotMem, tdMemGet, tdMemPut, tdCallM, tdParSSM, tiL, tiT, tiR1, tiR2, rI, rI0, rU, rLen, rInts, rBools, rInt, rTuple, rList, rIxD, nn_none, nn_int, nn_tup, noOwn, wipeD, Slot.addr, truD, List.getElem?_cons_zero, List.getElem?_cons_succ, List.set_cons_zero, List.set_cons_succ, List.map_cons, List.map_nil, List.length_cons, List.length_nil, List.cons_append, List.nil_append, List.replicate, Nat.sub_self, Nat.zero_add, Nat.add_one_sub_one, Nat.reduceAdd, Nat.reduceSub, Nat.succ_sub_succ_eq_sub, Nat.sub_zero, List.all_cons, List.all_nil, Option.isNone_none, Bool.and_self, Bool.and_true, List.reduceReplicate, true_and, and_true, wD, bD, lD, pD, if_true, if_false, Bool.not_true, Bool.not_false, Bool.false_eq_true]
    refine ⟨by decide, fun ad had => ?_⟩
    refine wFor_at (fun i ρ => ∃ (kc' : List (Nat × Nat)) (H : List Nat) (x5 x6 x7 : Slot), BfsI (Stp n es ls) a t (fun s => ∃ c, c ∈ G.take i ∧ Stp n es ls c s) kc' H ∧ kc'.length = kc.length + H.length ∧ ρ = [.sh (.list (st.map fun (m : Nat) => PyData.int (m : Int))), .sh (.int (a : Int)), .dic mc (.K (KI (dN kc'))), .sh (.list (G.map fun (m : Nat) => PyData.int (m : Int))), .own ad (H.map fun (m : Nat) => PyData.int (m : Int)), x5, x6, x7]) _ ?_ ?_ _ ⟨kc, [], x5, x6, x7, L.start.cong fun s => by simp, rfl, rfl⟩
    · rintro ρ ⟨kc', H, x5, x6, x7, B, hl', rfl⟩
      rw [List.length_map, List.take_length] at B
      have L' := B.next fun s => ⟨fun ⟨c, h1, h2⟩ => ⟨c, (L.fm c).mp h1, h2⟩, fun ⟨c, h1, h2⟩ => ⟨c, (L.fm c).mpr h1, h2⟩⟩
      have hk' : kc'.length ≤ 2 ^ n.toNat := L'.start.keys ha hcl (fun _ z => z.elim) |> keys_len L'.nd
      try simp only [tdSeq, tdIfS, tdRet, tdRetN, tdNext, tdNever, tdDrop, tdBreak, tdCont, tdSet, tdOwn, tdAsg, tdAppend, tdExtend, tdPop, tdAug, tdAugSub, tdPar, tdParOO, tdParSO, tdAsgSOS, tdParSD, tdPutT, tdSortKeys, tdFor, tdLc, tdYes, gdName, gdNil, gdCons, gdTup, gdSub, tdSh, tdLent, tdC, td1, td2, tf1, tdB, tdAnd, tdOr, tdNot, tdAndV, tdOrV, tdNotV, tdIf, tdNil, tdCons, tdTup, tdLst, tdChain, tdIxB, tdRep, tdCat, tdCall, tdCallR, tdNewD, tdDPut, tdDV, tdShD, tiItems, tiKeys, tdSortKD, tdNotMem, tdMemGet, tdMemPut, tdCallM, tdParSSM, tiL, tiT, tiR1, tiR2, rI, rI0, rU, rLen, rInts, rBools, rInt, rTuple, rList, rIxD, nn_none, nn_int, nn_tup, noOwn, wipeD, Slot.addr, truD, List.getElem?_cons_zero, List.getElem?_cons_succ, List.set_cons_zero, List.set_cons_succ, List.map_cons, List.map_nil, List.length_cons, List.length_nil, List.cons_append, List.nil_append, List.replicate, Nat.sub_self, Nat.zero_add, Nat.add_one_sub_one, Nat.reduceAdd, Nat.reduceSub, Nat.succ_sub_succ_eq_sub, Nat.sub_zero, List.all_cons, List.all_nil, Option.isNone_none, Bool.and_self, Bool.and_true, List.reduceReplicate, true_and, and_true, wD, bD, lD, pD, if_true, if_false, Bool.not_true, Bool.not_false, Bool.false_eq_true]
      refine ⟨_, ?_, t + 1, kc', H, _, x5, x6, x7, L', rfl, .inr ⟨_, rfl⟩, rfl⟩
      cases H with
      | nil =>
        rw [if_pos rfl]
        simp only [List.length_nil] at hl'
        omega
      | cons h0 hr =>
        rw [if_neg (by simp)]
        simp only [List.length_cons] at hl'
        omega
    · rintro i d ρ k hd ⟨kc', H, x5, x6, x7, B, hl', rfl⟩ hk
      rw [List.getElem?_map] at hd
      obtain ⟨c, hc, rfl⟩ := Option.map_eq_some_iff.mp hd
      have hcm := List.mem_of_getElem? hc
      have dc := (L.fm c).mp hcm
      have hc2 : c < 2 ^ n.toNat := jn_lt hcl t ha dc.1
      have hstl := T.1
      have hc3 : c < st.length := by omega
      have hcs : st[c]? = some st[c] := List.getElem?_eq_getElem hc3
      try simp only [tdSeq, tdIfS, tdRet, tdRetN, tdNext, tdNever, tdDrop, tdBreak, tdCont, tdSet, tdOwn, tdAsg, tdAppend, tdExtend, tdPop, tdAug, tdAugSub, tdPar, tdParOO, tdParSO, tdAsgSOS, tdParSD, tdPutT, tdSortKeys, tdFor, tdLc, tdYes, gdName, gdNil, gdCons, gdTup, gdSub, tdSh, tdLent, tdC, td1, td2, tf1, tdB, tdAnd, tdOr, tdNot, tdAndV, tdOrV, tdNotV, tdIf, tdNil, tdCons, tdTup, tdLst, tdChain, tdIxB, tdRep, tdCat, tdCall, tdCallR, tdNewD, tdDPut, tdDV, tdShD, tiItems, tiKeys, tdSortKD, tdNotMem, tdMemGet, tdMemPut, tdCallM, tdParSSM, tiL, tiT, tiR1, tiR2, rI, rI0, rU, rLen, rInts, rBools, rInt, rTuple, rList, rIxD, nn_none, nn_int, nn_tup, noOwn, wipeD, Slot.addr, truD, List.getElem?_cons_zero, List.getElem?_cons_succ, List.set_cons_zero, List.set_cons_succ, List.map_cons, List.map_nil, List.length_cons, List.length_nil, List.cons_append, List.nil_append, List.replicate, Nat.sub_self, Nat.zero_add, Nat.add_one_sub_one, Nat.reduceAdd, Nat.reduceSub, Nat.succ_sub_succ_eq_sub, Nat.sub_zero, List.all_cons, List.all_nil, Option.isNone_none, Bool.and_self, Bool.and_true, List.reduceReplicate, true_and, and_true, wD, bD, lD, pD, if_true, if_false, Bool.not_true, Bool.not_false, Bool.false_eq_true]
      refine ⟨.int (st[c] : Nat), by rw [atI_nat (by rw [List.length_map]; exact hc3), List.getElem?_map, hcs]; rfl, ?_⟩
      refine ⟨_, rfl, (T.2 c _ hcs).1, ?_⟩
      dsimp only
      refine wFor_at (fun u ρ => ∃ (kc' : List (Nat × Nat)) (H : List Nat) (x6 x7 : Slot), BfsI (Stp n es ls) a t (fun s => (∃ c, c ∈ G.take i ∧ Stp n es ls c s) ∨ ∃ p, p ∈ (bitsOf st[c]).take u ∧ s = c ^^^ 2 ^ p.toNat) kc' H ∧ kc'.length = kc.length + H.length ∧ ρ = [.sh (.list (st.map fun (m : Nat) => PyData.int (m : Int))), .sh (.int (a : Int)), .dic mc (.K (KI (dN kc'))), .sh (.list (G.map fun (m : Nat) => PyData.int (m : Int))), .own ad (H.map fun (m : Nat) => PyData.int (m : Int)), .sh (.int (c : Int)), x6, x7]) _ ?_ ?_ _ ⟨kc', H, x6, x7, B.cong fun s => by simp, hl', rfl⟩
      · rintro ρ ⟨kc', H, x6, x7, B, hl', rfl⟩
        rw [List.length_map, List.take_length] at B
        refine hk _ ⟨kc', H, _, x6, x7, B.cong fun s => ?_, hl', rfl⟩
        rw [List.take_succ, hc]
        simp only [Option.toList_some, List.mem_append, List.mem_singleton]
        constructor
        · rintro (⟨c', h1, h2⟩ | ⟨p, h1, h2⟩)
          · exact ⟨c', .inl h1, h2⟩
          · exact ⟨c, .inr rfl, p.toNat, ((T.bits hcs p).mp h1).2, h2⟩
        · rintro ⟨c', h1 | rfl, h2⟩
          · exact .inl ⟨c', h1, h2⟩
          · obtain ⟨j, h3, h4⟩ := h2
            exact .inr ⟨j, (T.bits hcs j).mpr ⟨by omega, by rw [Int.toNat_natCast]; exact h3⟩, by rw [Int.toNat_natCast]; exact h4⟩
      · rintro u d ρ k hd ⟨kc', H, x6, x7, B, hl', rfl⟩ hk
        rw [List.getElem?_map] at hd
        obtain ⟨v, hv, rfl⟩ := Option.map_eq_some_iff.mp hd
        have hvm := List.mem_of_getElem? hv
        obtain ⟨hv0, hvr⟩ := (T.bits hcs v).mp hvm
        obtain ⟨p, rfl⟩ := Int.eq_ofNat_of_zero_le hv0
        rw [Int.toNat_natCast] at hvr
        have hpn := rdy_lt hvr
        have hX : ∀ s, ((∃ c, c ∈ G.take i ∧ Stp n es ls c s) ∨ ∃ p, p ∈ (bitsOf st[c]).take (u + 1) ∧ s = c ^^^ 2 ^ p.toNat) ↔ (((∃ c, c ∈ G.take i ∧ Stp n es ls c s) ∨ ∃ p, p ∈ (bitsOf st[c]).take u ∧ s = c ^^^ 2 ^ p.toNat) ∨ s = c ^^^ 2 ^ p) := fun s => by
          rw [List.take_succ, hv]
          simp only [Option.toList_some, List.mem_append, List.mem_singleton]
          constructor
          · rintro (h | ⟨p', h1 | rfl, h2⟩)
            · exact .inl (.inl h)
            · exact .inl (.inr ⟨p', h1, h2⟩)
            · exact .inr (by rw [Int.toNat_natCast] at h2; exact h2)
          · rintro ((h | ⟨p', h1, h2⟩) | h)
            · exact .inl h
            · exact .inr ⟨p', .inl h1, h2⟩
            · exact .inr ⟨p, .inr rfl, by rw [Int.toNat_natCast]; exact h⟩
        have hkb : ∀ s ∈ kc'.map (·.1), s < 2 ^ n.toNat := B.keys ha hcl fun s hs => by
          rcases hs with ⟨c', h1, h2⟩ | ⟨p', h1, rfl⟩
          · exact hcl c' s (jn_lt hcl t ha ((L.fm c').mp (List.mem_of_mem_take h1)).1) h2
          · obtain ⟨z0, z1⟩ := (T.bits hcs p').mp (List.mem_of_mem_take h1)
            exact xor_ltN hc2 (rdy_lt z1)
        have hkl' := keys_len B.nd hkb
        try simp only [tdSeq, tdIfS, tdRet, tdRetN, tdNext, tdNever, tdDrop, tdBreak, tdCont, tdSet, tdOwn, tdAsg, tdAppend, tdExtend, tdPop, tdAug, tdAugSub, tdPar, tdParOO, tdParSO, tdAsgSOS, tdParSD, tdPutT, tdSortKeys, tdFor, tdLc, tdYes, gdName, gdNil, gdCons, gdTup, gdSub, tdSh, tdLent, tdC, td1, td2, tf1, tdB, tdAnd, tdOr, tdNot, tdAndV, tdOrV, tdNotV, tdIf, tdNil, tdCons, tdTup, tdLst, tdChain, tdIxB, tdRep, tdCat, tdCall, tdCallR, tdNewD, tdDPut, tdDV, tdShD, tiItems, tiKeys, tdSortKD, tdNotMem, tdMemGet, tdMemPut, tdCallM, tdParSSM, tiL, tiT, tiR1, tiR2, rI, rI0, rU, rLen, rInts, rBools, rInt, rTuple, rList, rIxD, nn_none, nn_int, nn_tup, noOwn, wipeD, Slot.addr, truD, List.getElem?_cons_zero, List.getElem?_cons_succ, List.set_cons_zero, List.set_cons_succ, List.map_cons, List.map_nil, List.length_cons, List.length_nil, List.cons_append, List.nil_append, List.replicate, Nat.sub_self, Nat.zero_add, Nat.add_one_sub_one, Nat.reduceAdd, Nat.reduceSub, Nat.succ_sub_succ_eq_sub, Nat.sub_zero, List.all_cons, List.all_nil, Option.isNone_none, Bool.and_self, Bool.and_true, List.reduceReplicate, true_and, and_true, wD, bD, lD, pD, if_true, if_false, Bool.not_true, Bool.not_false, Bool.false_eq_true]
        refine ⟨⟨by omega, by omega, by decide⟩, ?_⟩
        rw [xor_nat1]
        refine ⟨.K (dN kc'), rfl, ?_⟩
        unfold lkD
        refine ⟨_, rfl, ?_⟩
        by_cases hin : c ^^^ 2 ^ p ∈ kc'.map (·.1)
        · obtain ⟨k0, hk0⟩ := keys_mem.mp hin
          rw [lkN_in B.nd hk0]
          refine ite_no (by simp) ?_
          exact hk _ ⟨kc', H, _, _, (B.old hin).cong fun s => (hX s).symm, hl', rfl⟩
        · rw [lkN_out hin]
          refine ite_yes rfl ?_
          refine ⟨.K (dN kc'), rfl, ?_⟩
          dsimp only
          refine ⟨_, rfl, .int (t : Nat), lkN_in B.nd ((B.mem _ _).mpr (.inl ⟨dc, Nat.le_refl _⟩)), ?_⟩
          dsimp only
          refine ⟨_, rfl, by rw [List.length_map]; unfold dN; rw [List.length_map]; unfold sizeLine; omega, by rw [List.length_map]; unfold sizeLine; omega, ?_⟩
          rw [putD_KI, show ((t : Int) + 1) = ((t + 1 : Nat) : Int) by omega, putN_new hin]
          exact hk _ ⟨_, H ++ [c ^^^ 2 ^ p], _, _, (B.new hin).cong fun s => (hX s).symm, by rw [List.length_append, List.length_append, hl']; simp only [List.length_cons, List.length_nil]; omega, by rw [List.map_append]; rfl⟩
theorem fn_steps_between (T : Top K mg) (F_check_both : Fn P w K mg base 6 "check_both" (spD K 4 sd_check_both)) (F_mask_of : Fn P w K mg base 1 "mask_of" (spD K 1 sd_mask_of)) (F_steps_from : Fn P w K mg base 2 "steps_from" (spD K 2 sd_steps_from)) (F_step_table : Fn P w K mg base 4 "step_table" (spD K 2 sd_step_table)) : Fn P w K mg base 7 "steps_between" (spD K 4 sd_steps_between) := by
  refine defD T.d_steps_between sc_steps_between (by decide) (fun f cdv A outer s H E hr => (dss_cons (ds_expr (dcall F_check_both hr (da_cons (dv 0) (da_cons (dv 1) (da_cons (dv 2) (da_cons (dv 3) da_nil))))))
  (dss_one (ds_ret (de_get1 (hu_of hr) (dd_of (dcall F_steps_from hr (da_cons (dcall F_step_table hr (da_cons (dv 0) (da_cons (dv 1) da_nil))) (da_cons (dcall F_mask_of hr (da_cons (dv 2) da_nil)) da_nil)))) (dcall F_mask_of hr (da_cons (dv 3) da_nil)) ⟨rfl, rfl, rfl, rfl⟩))))) ?_
  rintro ds q hl ⟨n, es, ls, a, b, rfl, W, F, ha, hb, hq1, hq2⟩
  have hlo := W.lo
  have hhi := W.hi
  simp only [tdSeq, tdIfS, tdRet, tdRetN, tdNext, tdNever, tdDrop, tdBreak, tdCont, tdSet, tdOwn, tdAsg, tdAppend, tdExtend, tdPop, tdAug, tdAugSub, tdPar, tdParOO, tdParSO, tdAsgSOS, tdParSD, tdPutT, tdSortKeys, tdFor, tdLc, tdYes, gdName, gdNil, gdCons, gdTup, gdSub, tdSh, tdLent, tdC, td1, td2, tf1, tdB, tdAnd, tdOr, tdNot, tdAndV, tdOrV, tdNotV, tdIf, tdNil, tdCons, tdTup, tdLst, tdChain, tdIxB, tdRep, tdCat, tdCall, tdCallR, tiL, tiT, tiR1, tiR2, rI, rI0, rU, rLen, rInts, rBools, rInt, rTuple, rList, rIxD, nn_none, nn_int, nn_tup, noOwn, wipeD, Slot.addr, truD, List.getElem?_cons_zero, List.getElem?_cons_succ, List.set_cons_zero, List.set_cons_succ, List.map_cons, List.map_nil, List.length_cons, List.length_nil, List.cons_append, List.nil_append, List.replicate, Nat.sub_self, Nat.zero_add, Nat.add_one_sub_one, Nat.reduceAdd, Nat.reduceSub, Nat.succ_sub_succ_eq_sub, Nat.sub_zero, List.all_cons, List.all_nil, Option.isNone_none, Bool.and_self, Bool.and_true, List.reduceReplicate, true_and, and_true, wD, bD, lD, pD, if_true, if_false, Bool.not_true, Bool.not_false, Bool.false_eq_true]
  refine ⟨_, _, _, _, _, rfl, W, F, bits_st ha, bits_st hb, ?_⟩
  refine ⟨_, _, _, rfl, W, F, fun st T => ?_⟩
  refine ⟨_, .inl rfl, fun k hk => by have := bits_rng ha k hk; omega, fun m M => ?_⟩
  obtain rfl := maskB M
  refine ⟨n, es, ls, st, m, rfl, W, T, ha, fun kc D => ?_⟩
  dsimp only
  refine ⟨.K (dN kc), rfl, ?_⟩
  refine ⟨_, .inl rfl, fun k hk => by have := bits_rng hb k hk; omega, fun m' M' => ?_⟩
  obtain rfl := maskB M'
  unfold lkD
  refine ⟨_, rfl, ?_⟩
  by_cases hin : m' ∈ kc.map (·.1)
  · obtain ⟨k0, hk0⟩ := keys_mem.mp hin
    rw [lkN_in D.nd hk0]
    exact hq1 k0 ((D.mem _ _).mp hk0)
  · rw [lkN_out hin]
    exact hq2 fun z => hin ((D.keys _).mpr z)
theorem fn_way_between (T : Top K mg) (F_check_both : Fn P w K mg base 6 "check_both" (spD K 4 sd_check_both)) (F_step_table : Fn P w K mg base 4 "step_table" (spD K 2 sd_step_table)) (F_steps_from : Fn P w K mg base 2 "steps_from" (spD K 2 sd_steps_from)) (F_mask_of : Fn P w K mg base 1 "mask_of" (spD K 1 sd_mask_of)) (F_places_in : Fn P w K mg base 1 "places_in" (spD K 1 sd_places_in)) : Fn P w K mg base 7 "way_between" (spD K 4 sd_way_between) := by
  refine defD T.d_way_between sc_way_between (by decide) (fun f cdv A outer s H E hr => (dss_cons (ds_expr (dcall F_check_both hr (da_cons (dv 0) (da_cons (dv 1) (da_cons (dv 2) (da_cons (dv 3) da_nil))))))
  (dss_cons (dset 4 sc_way_between.nd (dcall F_step_table hr (da_cons (dv 0) (da_cons (dv 1) da_nil))))
  (dss_cons (dset 5 sc_way_between.nd (dcall F_steps_from hr (da_cons (dv 4) (da_cons (dcall F_mask_of hr (da_cons (dv 3) da_nil)) da_nil))))
  (dss_cons (dset 6 sc_way_between.nd (dcall F_mask_of hr (da_cons (dv 2) da_nil)))
  (dss_cons (ds_if (dt_dnotin (hu_of hr) (dv 6) (dd_var 5)) (dss_one (ds_ret de_non)) dss_nil)
  (dss_cons (down 7 sc_way_between.nd (df_lst da_nil))
  (dss_cons (ds_while PassesOwn.never (dt_cmp l_gt (de_dget (hu_of hr) (dd_var 5) (dv 6)) de_int (nomark _)) (dss_cons (by first | exact ds_setLc (i := 8) (own := [("place", 9)]) rfl sc_way_between.nd rfl rfl (sw_true rfl rfl rfl (by decide +kernel)) (di_list (dcall F_places_in hr (da_cons (de_ix (dv 4) (dv 6) (fun _ _ => rfl)) da_nil))) (blkOk_by (N := ["web", "laying", "one", "other", "steps", "left", "state", "way", "nearer", "place"]) (sc := defScope s_way_between) (by decide +kernel)) (fun _ _ _ _ _ => (dgn 9 sc_way_between.nd)) (fun _ _ _ _ _ => (dts_one (dt_cmp l_lt (de_dget (hu_of hr) (dd_var 5) (de_op l_xor (dv 6) (de_op l_shl de_int (dv 9)))) (de_dget (hu_of hr) (dd_var 5) (dv 6)) (nomark _)))) (fun _ _ _ _ _ => (dv 9)) | exact (dset 8 sc_way_between.nd (DF.de (df_lc (own := [("place", 9)]) rfl sc_way_between.nd (di_list (dcall F_places_in hr (da_cons (de_ix (dv 4) (dv 6) (fun _ _ => rfl)) da_nil))) (blkOk_by (N := ["web", "laying", "one", "other", "steps", "left", "state", "way", "nearer", "place"]) (sc := defScope s_way_between) (by decide +kernel)) (fun _ _ _ _ _ => (dgn 9 sc_way_between.nd)) (fun _ _ _ _ _ => (dts_one (dt_cmp l_lt (de_dget (hu_of hr) (dd_var 5) (de_op l_xor (dv 6) (de_op l_shl de_int (dv 9)))) (de_dget (hu_of hr) (dd_var 5) (dv 6)) (nomark _)))) (fun _ _ _ _ _ => (dv 9))))))
  (dss_cons (ds_append (i := 7) rfl (by first | exact Or.inl rfl | exact Or.inr (Or.inl rfl) | exact Or.inr (Or.inr rfl)) (de_ix (dv 8) de_int (fun _ _ => rfl)))
  (dss_one (daug 6 sc_way_between.nd (de_op l_shl de_int (de_ix (dv 8) de_int (fun _ _ => rfl))) li_xor)))))
  (dss_one (ds_ret (de_t1 call_tuple_of l1_tuple rfl T.b_tuple (by decide +kernel) (d1 (dbv 7))))))))))))) ?_
  rintro ds q hl ⟨n, es, ls, a, b, rfl, W, F, ha, hb, hq1, hq2⟩
  have hlo := W.lo
  have hhi := W.hi
  simp only [tdSeq, tdIfS, tdRet, tdRetN, tdNext, tdNever, tdDrop, tdBreak, tdCont, tdSet, tdOwn, tdAsg, tdAppend, tdExtend, tdPop, tdAug, tdAugSub, tdPar, tdParOO, tdParSO, tdAsgSOS, tdParSD, tdPutT, tdSortKeys, tdFor, tdLc, tdYes, gdName, gdNil, gdCons, gdTup, gdSub, tdSh, tdLent, tdC, td1, td2, tf1, tdB, tdAnd, tdOr, tdNot, tdAndV, tdOrV, tdNotV, tdIf, tdNil, tdCons, tdTup, tdLst, tdChain, tdIxB, tdRep, tdCat, tdCall, tdCallR, tiL, tiT, tiR1, tiR2, rI, rI0, rU, rLen, rInts, rBools, rInt, rTuple, rList, rIxD, nn_none, nn_int, nn_tup, noOwn, wipeD, Slot.addr, truD, List.getElem?_cons_zero, List.getElem?_cons_succ, List.set_cons_zero, List.set_cons_succ, List.map_cons, List.map_nil, List.length_cons, List.length_nil, List.cons_append, List.nil_append, List.replicate, Nat.sub_self, Nat.zero_add, Nat.add_one_sub_one, Nat.reduceAdd, Nat.reduceSub, Nat.succ_sub_succ_eq_sub, Nat.sub_zero, List.all_cons, List.all_nil, Option.isNone_none, Bool.and_self, Bool.and_true, List.reduceReplicate, true_and, and_true, wD, bD, lD, pD, if_true, if_false, Bool.not_true, Bool.not_false, Bool.false_eq_true]
  refine ⟨_, _, _, _, _, rfl, W, F, bits_st ha, bits_st hb, ?_⟩
  refine ⟨_, _, _, rfl, W, F, fun st T => ?_⟩
  refine ⟨_, .inl rfl, fun k hk => by have := bits_rng hb k hk; omega, fun m M => ?_⟩
  obtain rfl := maskB M
  refine ⟨n, es, ls, st, m, rfl, W, T, hb, fun kc D => ?_⟩
  refine ⟨_, .inl rfl, fun k hk => by have := bits_rng ha k hk; omega, fun m' M' => ?_⟩
  obtain rfl := maskB M'
  unfold tdDV
  dsimp only
  refine ⟨.K (dN kc), rfl, ?_⟩
  unfold lkD
  refine ⟨_, rfl, ?_⟩
  by_cases hin : m' ∈ kc.map (·.1)
  rotate_left
  · rw [lkN_out hin]
    refine ite_yes rfl ?_
    exact hq2 fun z => hin ((D.keys _).mpr (jn_symm (stp_symm W ls) z))
  obtain ⟨K0, hk0⟩ := keys_mem.mp hin
  rw [lkN_in D.nd hk0]
  refine ite_no (by simp) ?_
  refine ⟨by decide, fun ad had => ?_⟩
  have hp : 2 ^ n.toNat ≤ 2 ^ 9 := Nat.pow_le_pow_right (by decide) (by omega)
  have hstl := T.1
  unfold tdWhile
  refine ⟨fun k ρ => ∃ (s : Nat) (P : List Int) (x8 : Slot), s < 2 ^ n.toNat ∧ (s, k) ∈ kc ∧ WayI n es ls m' m K0 s P k ∧ (x8 = .un ∨ ∃ d, x8 = .sh d) ∧ ρ = [.sh (wD n es), .sh (lD ls), .sh (tI (bitsOf m')), .sh (tI (bitsOf m)), .sh (.list (st.map fun (m : Nat) => PyData.int (m : Int))), .sh (dK (dN kc)), .sh (.int (s : Int)), .own ad (P.map .int), x8, .un], K0, ⟨m', [], .un, ha, hk0, WayI.zero W ((D.mem _ _).mp hk0), .inl rfl, rfl⟩, ?_⟩
  rintro k ρ ⟨s, P, x8, hs, hsk, I, hx8, rfl⟩
  try simp only [tdSeq, tdIfS, tdRet, tdRetN, tdNext, tdNever, tdDrop, tdBreak, tdCont, tdSet, tdOwn, tdAsg, tdAppend, tdExtend, tdPop, tdAug, tdAugSub, tdPar, tdParOO, tdParSO, tdAsgSOS, tdParSD, tdPutT, tdSortKeys, tdFor, tdLc, tdYes, gdName, gdNil, gdCons, gdTup, gdSub, tdSh, tdLent, tdC, td1, td2, tf1, tdB, tdAnd, tdOr, tdNot, tdAndV, tdOrV, tdNotV, tdIf, tdNil, tdCons, tdTup, tdLst, tdChain, tdIxB, tdRep, tdCat, tdCall, tdCallR, tdNewD, tdDPut, tdDV, tdShD, tiItems, tiKeys, tdSortKD, tdNotMem, tdMemGet, tdMemPut, tdCallM, tdParSSM, tiL, tiT, tiR1, tiR2, rI, rI0, rU, rLen, rInts, rBools, rInt, rTuple, rList, rIxD, nn_none, nn_int, nn_tup, noOwn, wipeD, Slot.addr, truD, List.getElem?_cons_zero, List.getElem?_cons_succ, List.set_cons_zero, List.set_cons_succ, List.map_cons, List.map_nil, List.length_cons, List.length_nil, List.cons_append, List.nil_append, List.replicate, Nat.sub_self, Nat.zero_add, Nat.add_one_sub_one, Nat.reduceAdd, Nat.reduceSub, Nat.succ_sub_succ_eq_sub, Nat.sub_zero, List.all_cons, List.all_nil, Option.isNone_none, Bool.and_self, Bool.and_true, List.reduceReplicate, true_and, and_true, wD, bD, lD, pD, if_true, if_false, Bool.not_true, Bool.not_false, Bool.false_eq_true]
  refine ⟨.K (dN kc), rfl, ?_⟩
  dsimp only
  refine ⟨_, rfl, .int (k : Nat), lkN_in D.nd hsk, ?_⟩
  dsimp only
  by_cases hk : k = 0
  · subst hk
    refine ite_no (by simp) ?_
    exact hq1 P I.fin
  · refine ite_yes (by rw [decide_eq_true_eq]; omega) ?_
    obtain ⟨k', rfl⟩ : ∃ k', k = k' + 1 := ⟨k - 1, by omega⟩
    have hcs : st[s]? = some st[s] := List.getElem?_eq_getElem (by omega)
    refine ⟨.int (st[s] : Nat), by rw [atI_nat (by rw [List.length_map]; omega), List.getElem?_map, hcs]; rfl, ?_⟩
    refine ⟨_, rfl, (T.2 s _ hcs).1, ?_⟩
    dsimp only
    have hdk := (D.mem _ _).mp hsk
    have hnb : ∀ p : Nat, rdyB n es ls s p = true → ∃ z, (s ^^^ 2 ^ p, z) ∈ kc := fun p hp => keys_mem.mp ((D.keys _).mpr (jn_step ⟨_, hdk.1⟩ ⟨p, hp, rfl⟩))
    have hbl : (bitsOf st[s]).length ≤ 9 := bits_lenn (n := 9) (T.2 s _ hcs).1
    refine wLc_map .int (fun p => kc.any fun z => decide (z.1 = s ^^^ 2 ^ p.toNat) && decide (z.2 < k' + 1)) .int (bitsOf st[s]) (by unfold sizeLine; omega) ?_ ?_
    · intro p hp k1 k2 hk1 hk2
      obtain ⟨hp0, hpr⟩ := (T.bits hcs p).mp hp
      obtain ⟨p, rfl⟩ := Int.eq_ofNat_of_zero_le hp0
      rw [Int.toNat_natCast] at hpr hk1 hk2
      have hpn := rdy_lt hpr
      obtain ⟨z, hz⟩ := hnb p hpr
      have ef : (kc.any fun w => decide (w.1 = s ^^^ 2 ^ p) && decide (w.2 < k' + 1)) = decide (z < k' + 1) := by
        apply Bool.eq_iff_iff.mpr
        rw [List.any_eq_true, decide_eq_true_eq]
        constructor
        · rintro ⟨⟨w1, w2⟩, h1, h2⟩
          rw [Bool.and_eq_true, decide_eq_true_eq, decide_eq_true_eq] at h2
          obtain ⟨rfl, h3⟩ := h2
          have := ((D.mem _ _).mp h1).uniq ((D.mem _ _).mp hz)
          omega
        · intro h
          exact ⟨_, hz, by rw [Bool.and_eq_true, decide_eq_true_eq, decide_eq_true_eq]; exact ⟨rfl, h⟩⟩
      rw [ef] at hk1 hk2
      try simp only [tdSeq, tdIfS, tdRet, tdRetN, tdNext, tdNever, tdDrop, tdBreak, tdCont, tdSet, tdOwn, tdAsg, tdAppend, tdExtend, tdPop, tdAug, tdAugSub, tdPar, tdParOO, tdParSO, tdAsgSOS, tdParSD, tdPutT, tdSortKeys, tdFor, tdLc, tdYes, gdName, gdNil, gdCons, gdTup, gdSub, tdSh, tdLent, tdC, td1, td2, tf1, tdB, tdAnd, tdOr, tdNot, tdAndV, tdOrV, tdNotV, tdIf, tdNil, tdCons, tdTup, tdLst, tdChain, tdIxB, tdRep, tdCat, tdCall, tdCallR, tdNewD, tdDPut, tdDV, tdShD, tiItems, tiKeys, tdSortKD, tdNotMem, tdMemGet, tdMemPut, tdCallM, tdParSSM, tiL, tiT, tiR1, tiR2, rI, rI0, rU, rLen, rInts, rBools, rInt, rTuple, rList, rIxD, nn_none, nn_int, nn_tup, noOwn, wipeD, Slot.addr, truD, List.getElem?_cons_zero, List.getElem?_cons_succ, List.set_cons_zero, List.set_cons_succ, List.map_cons, List.map_nil, List.length_cons, List.length_nil, List.cons_append, List.nil_append, List.replicate, Nat.sub_self, Nat.zero_add, Nat.add_one_sub_one, Nat.reduceAdd, Nat.reduceSub, Nat.succ_sub_succ_eq_sub, Nat.sub_zero, List.all_cons, List.all_nil, Option.isNone_none, Bool.and_self, Bool.and_true, List.reduceReplicate, true_and, and_true, wD, bD, lD, pD, if_true, if_false, Bool.not_true, Bool.not_false, Bool.false_eq_true]
      refine ⟨.K (dN kc), rfl, ⟨by omega, by omega, by decide⟩, ?_⟩
      rw [xor_nat1]
      dsimp only
      refine ⟨_, rfl, .int (z : Nat), lkN_in D.nd hz, .K (dN kc), rfl, ?_⟩
      dsimp only
      refine ⟨_, rfl, .int ((k' + 1 : Nat) : Int), lkN_in D.nd hsk, ?_⟩
      dsimp only
      by_cases h : z < k' + 1
      · exact ite_yes (decide_eq_true (by omega)) (hk1 (decide_eq_true h))
      · exact ite_no (by rw [decide_eq_true_eq]; omega) (hk2 (decide_eq_false h))
    obtain ⟨Fl, hFl⟩ : ∃ Fl, Fl = (bitsOf st[s]).filter fun p => kc.any fun z => decide (z.1 = s ^^^ 2 ^ p.toNat) && decide (z.2 < k' + 1) := ⟨_, rfl⟩
    rw [← hFl]
    have hFm : ∀ p, p ∈ Fl ↔ 0 ≤ p ∧ rdyB n es ls s p.toNat = true ∧ DstR (Stp n es ls) m k' (s ^^^ 2 ^ p.toNat) := fun p => by
      rw [hFl, List.mem_filter, T.bits hcs, List.any_eq_true]
      constructor
      · rintro ⟨⟨h0, h1⟩, ⟨w1, w2⟩, h2, h3⟩
        rw [Bool.and_eq_true, decide_eq_true_eq, decide_eq_true_eq] at h3
        obtain ⟨rfl, h4⟩ := h3
        have d := (D.mem _ _).mp h2
        obtain ⟨j, hj, d'⟩ := dst_nxt d (show Stp n es ls (s ^^^ 2 ^ p.toNat) s from stp_symm W ls _ _ ⟨_, h1, rfl⟩)
        have := d'.uniq hdk
        have : w2 = k' := by dsimp only at h4; omega
        rw [← this]
        exact ⟨h0, h1, d⟩
      · rintro ⟨h0, h1, d⟩
        exact ⟨⟨h0, h1⟩, _, (D.mem _ _).mpr d, by rw [Bool.and_eq_true, decide_eq_true_eq, decide_eq_true_eq]; exact ⟨rfl, Nat.lt_succ_self _⟩⟩
    have hFa : Fl.Pairwise (· < ·) := by rw [hFl]; exact (bitsOf_asc _).sublist List.filter_sublist
    clear hFl
    cases Fl with
    | nil =>
      obtain ⟨c, d, j, h1, h2⟩ := dst_pre hdk
      have hj : rdyB n es ls s j = true := by rw [h2, rdy_self W]; exact h1
      exact absurd ((hFm (j : Int)).mpr ⟨by omega, by rw [Int.toNat_natCast]; exact hj, by rw [Int.toNat_natCast, h2, xor_back]; exact d⟩) (by simp)
    | cons p Fl =>
      obtain ⟨f0, f1, f2⟩ := (hFm p).mp (by simp)
      obtain ⟨p, rfl⟩ := Int.eq_ofNat_of_zero_le f0
      rw [Int.toNat_natCast] at f1 f2
      have hpn := rdy_lt f1
      have I' := I.step W f0 (by rw [Int.toNat_natCast]; exact f1) (by rw [Int.toNat_natCast]; exact f2) fun p' a1 a2 a3 => by
        rcases List.mem_cons.mp ((hFm p').mpr ⟨a1, a2, a3⟩) with z | z
        · omega
        · have := (List.pairwise_cons.mp hFa).1 _ z
          omega
      rw [Int.toNat_natCast] at I'
      have hK := D.far ((D.mem _ _).mp hk0)
      have hkcl := D.len hb stp_lt
      have hPl := I.len
      try simp only [tdSeq, tdIfS, tdRet, tdRetN, tdNext, tdNever, tdDrop, tdBreak, tdCont, tdSet, tdOwn, tdAsg, tdAppend, tdExtend, tdPop, tdAug, tdAugSub, tdPar, tdParOO, tdParSO, tdAsgSOS, tdParSD, tdPutT, tdSortKeys, tdFor, tdLc, tdYes, gdName, gdNil, gdCons, gdTup, gdSub, tdSh, tdLent, tdC, td1, td2, tf1, tdB, tdAnd, tdOr, tdNot, tdAndV, tdOrV, tdNotV, tdIf, tdNil, tdCons, tdTup, tdLst, tdChain, tdIxB, tdRep, tdCat, tdCall, tdCallR, tdNewD, tdDPut, tdDV, tdShD, tiItems, tiKeys, tdSortKD, tdNotMem, tdMemGet, tdMemPut, tdCallM, tdParSSM, tiL, tiT, tiR1, tiR2, rI, rI0, rU, rLen, rInts, rBools, rInt, rTuple, rList, rIxD, nn_none, nn_int, nn_tup, noOwn, wipeD, Slot.addr, truD, List.getElem?_cons_zero, List.getElem?_cons_succ, List.set_cons_zero, List.set_cons_succ, List.map_cons, List.map_nil, List.length_cons, List.length_nil, List.cons_append, List.nil_append, List.replicate, Nat.sub_self, Nat.zero_add, Nat.add_one_sub_one, Nat.reduceAdd, Nat.reduceSub, Nat.succ_sub_succ_eq_sub, Nat.sub_zero, List.all_cons, List.all_nil, Option.isNone_none, Bool.and_self, Bool.and_true, List.reduceReplicate, true_and, and_true, wD, bD, lD, pD, if_true, if_false, Bool.not_true, Bool.not_false, Bool.false_eq_true]
      have at0 : atI (PyData.int (p : Int) :: Fl.map PyData.int) 0 = some (.int (p : Int)) := by
        show atI _ ((0 : Nat) : Int) = _
        rw [atI_nat (by simp)]; rfl
      refine ⟨.int (p : Int), at0, by rw [List.length_map]; unfold sizeLine; omega, .int (p : Int), at0, ?_⟩
      dsimp only
      refine ⟨⟨by omega, by omega, by decide⟩, k', Nat.lt_succ_self _, s ^^^ 2 ^ p, P ++ [(p : Int)], .sh (.list (PyData.int (p : Int) :: Fl.map PyData.int)), xor_ltN hs hpn, (D.mem _ _).mpr f2, I', .inr ⟨_, rfl⟩, ?_⟩
      rw [xor_nat1, List.map_append]
      rfl
theorem fn_joined_count (T : Top K mg) (F_check_all : Fn P w K mg base 5 "check_all" (spD K 3 sd_check_all)) (F_steps_from : Fn P w K mg base 2 "steps_from" (spD K 2 sd_steps_from)) (F_step_table : Fn P w K mg base 4 "step_table" (spD K 2 sd_step_table)) (F_mask_of : Fn P w K mg base 1 "mask_of" (spD K 1 sd_mask_of)) : Fn P w K mg base 6 "joined_count" (spD K 3 sd_joined_count) := by
  refine defD T.d_joined_count sc_joined_count (by decide) (fun f cdv A outer s H E hr => (dss_cons (ds_expr (dcall F_check_all hr (da_cons (dv 0) (da_cons (dv 1) (da_cons (dv 2) da_nil)))))
  (dss_one (ds_ret (de_b1 cr_lenF l1_lenF rfl T.b_len (by decide +kernel) (d1 (DE.lend (dcall F_steps_from hr (da_cons (dcall F_step_table hr (da_cons (dv 0) (da_cons (dv 1) da_nil))) (da_cons (dcall F_mask_of hr (da_cons (dv 2) da_nil)) da_nil)))))))))) ?_
  rintro ds q hl ⟨n, es, ls, a, rfl, W, F, ha, hq⟩
  have hlo := W.lo
  have hhi := W.hi
  simp only [tdSeq, tdIfS, tdRet, tdRetN, tdNext, tdNever, tdDrop, tdBreak, tdCont, tdSet, tdOwn, tdAsg, tdAppend, tdExtend, tdPop, tdAug, tdAugSub, tdPar, tdParOO, tdParSO, tdAsgSOS, tdParSD, tdPutT, tdSortKeys, tdFor, tdLc, tdYes, gdName, gdNil, gdCons, gdTup, gdSub, tdSh, tdLent, tdC, td1, td2, tf1, tdB, tdAnd, tdOr, tdNot, tdAndV, tdOrV, tdNotV, tdIf, tdNil, tdCons, tdTup, tdLst, tdChain, tdIxB, tdRep, tdCat, tdCall, tdCallR, tiL, tiT, tiR1, tiR2, rI, rI0, rU, rLen, rInts, rBools, rInt, rTuple, rList, rIxD, nn_none, nn_int, nn_tup, noOwn, wipeD, Slot.addr, truD, List.getElem?_cons_zero, List.getElem?_cons_succ, List.set_cons_zero, List.set_cons_succ, List.map_cons, List.map_nil, List.length_cons, List.length_nil, List.cons_append, List.nil_append, List.replicate, Nat.sub_self, Nat.zero_add, Nat.add_one_sub_one, Nat.reduceAdd, Nat.reduceSub, Nat.succ_sub_succ_eq_sub, Nat.sub_zero, List.all_cons, List.all_nil, Option.isNone_none, Bool.and_self, Bool.and_true, List.reduceReplicate, true_and, and_true, wD, bD, lD, pD, if_true, if_false, Bool.not_true, Bool.not_false, Bool.false_eq_true]
  refine ⟨_, _, _, _, rfl, W, F, bits_st ha, ?_⟩
  refine ⟨_, _, _, rfl, W, F, fun st T => ?_⟩
  refine ⟨_, .inl rfl, fun k hk => by have := bits_rng ha k hk; omega, fun m M => ?_⟩
  obtain rfl := maskB M
  refine ⟨n, es, ls, st, m, rfl, W, T, ha, fun kc D => ?_⟩
  rw [← D.sz ha stp_lt] at hq
  refine ⟨dN kc, rfl, ?_⟩
  rw [show ((dN kc).length : Int) = (kc.length : Int) by unfold dN; rw [List.length_map]]
  exact hq
theorem fn_farthest (T : Top K mg) (F_check_all : Fn P w K mg base 5 "check_all" (spD K 3 sd_check_all)) (F_steps_from : Fn P w K mg base 2 "steps_from" (spD K 2 sd_steps_from)) (F_step_table : Fn P w K mg base 4 "step_table" (spD K 2 sd_step_table)) (F_mask_of : Fn P w K mg base 1 "mask_of" (spD K 1 sd_mask_of)) (F_places_in : Fn P w K mg base 1 "places_in" (spD K 1 sd_places_in)) : Fn P w K mg base 6 "farthest" (spD K 3 sd_farthest) := by
  refine defD T.d_farthest sc_farthest (by decide) (fun f cdv A outer s H E hr => (dss_cons (ds_expr (dcall F_check_all hr (da_cons (dv 0) (da_cons (dv 1) (da_cons (dv 2) da_nil)))))
  (dss_cons (dset 3 sc_farthest.nd (dcall F_steps_from hr (da_cons (dcall F_step_table hr (da_cons (dv 0) (da_cons (dv 1) da_nil))) (da_cons (dcall F_mask_of hr (da_cons (dv 2) da_nil)) da_nil))))
  (dss_cons (dset 4 sc_farthest.nd (de_maxVals rfl rfl T.b_max (dv 3)))
  (dss_one (ds_ret (de_tup (da_cons (dv 4) (da_cons (de_t1 call_tuple_of l1_tuple rfl T.b_tuple (by decide +kernel) (d1 (DE.lend (DF.de (df_b1 cr_sortTupsN (lf_sortTupsN (un3 hr)) rfl T.b_sorted (by decide +kernel) (d1 (DE.lend (DF.de (df_lc (own := [("other", 5), ("number", 6)]) rfl sc_farthest.nd (di_items (dv 3)) (blkOk_by (N := ["web", "laying", "state", "found", "most", "other", "number"]) (sc := defScope s_farthest) (by decide +kernel)) (fun _ _ _ _ _ => (dg_tup (n := 2) rfl (dgs_cons (dgn 5 sc_farthest.nd) (dgs_cons (dgn 6 sc_farthest.nd) dgs_nil)))) (fun _ _ _ _ _ => (dts_one (dt_cmp (l_eq hr.units) (dv 6) (dv 4) (nomark _)))) (fun _ _ _ _ _ => (de_t1 call_tuple_of l1_tuple rfl T.b_tuple (by decide +kernel) (d1 (DE.lend (dcall F_places_in hr (da_cons (dv 5) da_nil))))))))))))))) da_nil))))))))) ?_
  rintro ds q hl ⟨n, es, ls, a, rfl, W, F, ha, hq⟩
  have hlo := W.lo
  have hhi := W.hi
  simp only [tdSeq, tdIfS, tdRet, tdRetN, tdNext, tdNever, tdDrop, tdBreak, tdCont, tdSet, tdOwn, tdAsg, tdAppend, tdExtend, tdPop, tdAug, tdAugSub, tdPar, tdParOO, tdParSO, tdAsgSOS, tdParSD, tdPutT, tdSortKeys, tdFor, tdLc, tdYes, gdName, gdNil, gdCons, gdTup, gdSub, tdSh, tdLent, tdC, td1, td2, tf1, tdB, tdAnd, tdOr, tdNot, tdAndV, tdOrV, tdNotV, tdIf, tdNil, tdCons, tdTup, tdLst, tdChain, tdIxB, tdRep, tdCat, tdCall, tdCallR, tiL, tiT, tiR1, tiR2, rI, rI0, rU, rLen, rInts, rBools, rInt, rTuple, rList, rIxD, nn_none, nn_int, nn_tup, noOwn, wipeD, Slot.addr, truD, List.getElem?_cons_zero, List.getElem?_cons_succ, List.set_cons_zero, List.set_cons_succ, List.map_cons, List.map_nil, List.length_cons, List.length_nil, List.cons_append, List.nil_append, List.replicate, Nat.sub_self, Nat.zero_add, Nat.add_one_sub_one, Nat.reduceAdd, Nat.reduceSub, Nat.succ_sub_succ_eq_sub, Nat.sub_zero, List.all_cons, List.all_nil, Option.isNone_none, Bool.and_self, Bool.and_true, List.reduceReplicate, true_and, and_true, wD, bD, lD, pD, if_true, if_false, Bool.not_true, Bool.not_false, Bool.false_eq_true]
  refine ⟨_, _, _, _, rfl, W, F, bits_st ha, ?_⟩
  refine ⟨_, _, _, rfl, W, F, fun st T => ?_⟩
  refine ⟨_, .inl rfl, fun k hk => by have := bits_rng ha k hk; omega, fun m M => ?_⟩
  obtain rfl := maskB M
  refine ⟨n, es, ls, st, m, rfl, W, T, ha, fun kc D => ?_⟩
  dsimp only
  refine ⟨dN kc, kc.map fun p => ((p.2 : Nat) : Int), rfl, by unfold dN; rw [List.map_map, List.map_map]; rfl, ?_, fun j hj hjm => ?_⟩
  · have := (D.mem m 0).mpr (dst_zero.mpr rfl)
    intro z
    rw [List.map_eq_nil_iff] at z
    rw [z] at this
    cases this
  obtain ⟨⟨s0, k0⟩, hsk, rfl⟩ := List.mem_map.mp hj
  have d0 := (D.mem _ _).mp hsk
  have hmost : ∀ k s, DstR (Stp n es ls) m k s → k ≤ k0 := fun k s d => by
    have := hjm _ (List.mem_map.mpr ⟨_, (D.mem _ _).mpr d, rfl⟩)
    dsimp only at this
    omega
  have hkb : ∀ s ∈ kc.map (·.1), s < 2 ^ n.toNat := fun s hs => by
    obtain ⟨k, w⟩ := (D.keys s).mp hs
    exact jn_lt stp_lt k ha w
  have hp : 2 ^ n.toNat ≤ 2 ^ 9 := Nat.pow_le_pow_right (by decide) (by omega)
  have hkl := keys_len D.nd hkb
  unfold tiItems
  try simp only [tdSeq, tdIfS, tdRet, tdRetN, tdNext, tdNever, tdDrop, tdBreak, tdCont, tdSet, tdOwn, tdAsg, tdAppend, tdExtend, tdPop, tdAug, tdAugSub, tdPar, tdParOO, tdParSO, tdAsgSOS, tdParSD, tdPutT, tdSortKeys, tdFor, tdLc, tdYes, gdName, gdNil, gdCons, gdTup, gdSub, tdSh, tdLent, tdC, td1, td2, tf1, tdB, tdAnd, tdOr, tdNot, tdAndV, tdOrV, tdNotV, tdIf, tdNil, tdCons, tdTup, tdLst, tdChain, tdIxB, tdRep, tdCat, tdCall, tdCallR, tiL, tiT, tiR1, tiR2, rI, rI0, rU, rLen, rInts, rBools, rInt, rTuple, rList, rIxD, nn_none, nn_int, nn_tup, noOwn, wipeD, Slot.addr, truD, List.getElem?_cons_zero, List.getElem?_cons_succ, List.set_cons_zero, List.set_cons_succ, List.map_cons, List.map_nil, List.length_cons, List.length_nil, List.cons_append, List.nil_append, List.replicate, Nat.sub_self, Nat.zero_add, Nat.add_one_sub_one, Nat.reduceAdd, Nat.reduceSub, Nat.succ_sub_succ_eq_sub, Nat.sub_zero, List.all_cons, List.all_nil, Option.isNone_none, Bool.and_self, Bool.and_true, List.reduceReplicate, true_and, and_true, wD, bD, lD, pD, if_true, if_false, Bool.not_true, Bool.not_false, Bool.false_eq_true]
  refine ⟨dN kc, rfl, ?_⟩
  have e0 : (dN kc).map (fun p => PyData.tuple [.int p.1, p.2]) = kc.map fun p => PyData.tuple [.int (p.1 : Int), .int (p.2 : Nat)] := by unfold dN; rw [List.map_map]; rfl
  rw [e0]
  refine wLc_map (fun (p : Nat × Nat) => PyData.tuple [.int (p.1 : Int), .int (p.2 : Nat)]) (fun p => decide (p.2 = k0)) (fun p => tI (bitsOf p.1)) kc (by unfold sizeLine; omega) ?_ ?_
  · intro p hpm k1 k2 hk1 hk2
    have hpl := hkb p.1 (List.mem_map.mpr ⟨_, hpm, rfl⟩)
    simp only [tdSeq, tdIfS, tdRet, tdRetN, tdNext, tdNever, tdDrop, tdBreak, tdCont, tdSet, tdOwn, tdAsg, tdAppend, tdExtend, tdPop, tdAug, tdAugSub, tdPar, tdParOO, tdParSO, tdAsgSOS, tdParSD, tdPutT, tdSortKeys, tdFor, tdLc, tdYes, gdName, gdNil, gdCons, gdTup, gdSub, tdSh, tdLent, tdC, td1, td2, tf1, tdB, tdAnd, tdOr, tdNot, tdAndV, tdOrV, tdNotV, tdIf, tdNil, tdCons, tdTup, tdLst, tdChain, tdIxB, tdRep, tdCat, tdCall, tdCallR, tiL, tiT, tiR1, tiR2, rI, rI0, rU, rLen, rInts, rBools, rInt, rTuple, rList, rIxD, nn_none, nn_int, nn_tup, noOwn, wipeD, Slot.addr, truD, List.getElem?_cons_zero, List.getElem?_cons_succ, List.set_cons_zero, List.set_cons_succ, List.map_cons, List.map_nil, List.length_cons, List.length_nil, List.cons_append, List.nil_append, List.replicate, Nat.sub_self, Nat.zero_add, Nat.add_one_sub_one, Nat.reduceAdd, Nat.reduceSub, Nat.succ_sub_succ_eq_sub, Nat.sub_zero, List.all_cons, List.all_nil, Option.isNone_none, Bool.and_self, Bool.and_true, List.reduceReplicate, true_and, and_true, wD, bD, lD, pD, if_true, if_false, Bool.not_true, Bool.not_false, Bool.false_eq_true]
    refine ⟨sh_int _, sh_int _, ?_⟩
    rw [eqv_int]
    by_cases e : p.2 = k0
    · refine ite_yes (decide_eq_true (by omega)) ?_
      refine ⟨p.1, rfl, by omega, ?_⟩
      try simp only [tdSeq, tdIfS, tdRet, tdRetN, tdNext, tdNever, tdDrop, tdBreak, tdCont, tdSet, tdOwn, tdAsg, tdAppend, tdExtend, tdPop, tdAug, tdAugSub, tdPar, tdParOO, tdParSO, tdAsgSOS, tdParSD, tdPutT, tdSortKeys, tdFor, tdLc, tdYes, gdName, gdNil, gdCons, gdTup, gdSub, tdSh, tdLent, tdC, td1, td2, tf1, tdB, tdAnd, tdOr, tdNot, tdAndV, tdOrV, tdNotV, tdIf, tdNil, tdCons, tdTup, tdLst, tdChain, tdIxB, tdRep, tdCat, tdCall, tdCallR, tiL, tiT, tiR1, tiR2, rI, rI0, rU, rLen, rInts, rBools, rInt, rTuple, rList, rIxD, nn_none, nn_int, nn_tup, noOwn, wipeD, Slot.addr, truD, List.getElem?_cons_zero, List.getElem?_cons_succ, List.set_cons_zero, List.set_cons_succ, List.map_cons, List.map_nil, List.length_cons, List.length_nil, List.cons_append, List.nil_append, List.replicate, Nat.sub_self, Nat.zero_add, Nat.add_one_sub_one, Nat.reduceAdd, Nat.reduceSub, Nat.succ_sub_succ_eq_sub, Nat.sub_zero, List.all_cons, List.all_nil, Option.isNone_none, Bool.and_self, Bool.and_true, List.reduceReplicate, true_and, and_true, wD, bD, lD, pD, if_true, if_false, Bool.not_true, Bool.not_false, Bool.false_eq_true]
      exact hk1 (decide_eq_true e)
    · refine ite_no (by rw [decide_eq_true_eq]; omega) ?_
      exact hk2 (decide_eq_false e)
  · refine ⟨(kc.filter fun p => decide (p.2 = k0)).map fun p => bitsOf p.1, by rw [List.map_map]; rfl, fun ts' hp1 hp2 => ⟨by decide, ?_⟩⟩
    have nd1 : ((kc.filter fun p => decide (p.2 = k0)).map fun p => bitsOf p.1).Nodup := by
      have : ((kc.map (·.1)).map bitsOf).Nodup := by
        have z := D.nd
        unfold List.Nodup at z ⊢
        rw [List.pairwise_map]
        exact z.imp fun {x y} h e => h (bits_inj e)
      rw [List.map_map] at this
      exact this.sublist (List.filter_sublist.map _)
    refine hq k0 ts' ⟨s0, d0⟩ hmost (hp1.nodup_iff.mpr nd1) (fun x => ?_) hp2
    rw [hp1.mem_iff, List.mem_map]
    constructor
    · rintro ⟨⟨s, k⟩, h1, rfl⟩
      obtain ⟨h2, h3⟩ := List.mem_filter.mp h1
      obtain rfl : k = k0 := of_decide_eq_true h3
      exact ⟨s, (D.mem _ _).mp h2, rfl⟩
    · rintro ⟨s, d, rfl⟩
      exact ⟨(s, k0), List.mem_filter.mpr ⟨(D.mem _ _).mpr d, decide_eq_true rfl⟩, rfl⟩
theorem fn_state_parts (T : Top K mg) (F_check_web : Fn P w K mg base 4 "check_web" (spD K 1 sd_check_web)) (F_check_full : Fn P w K mg base 3 "check_full" (spD K 2 sd_check_full)) (F_step_table : Fn P w K mg base 4 "step_table" (spD K 2 sd_step_table)) (F_steps_from : Fn P w K mg base 2 "steps_from" (spD K 2 sd_steps_from)) : Fn P w K mg base 5 "state_parts" (spD K 2 sd_state_parts) := by
  refine defD T.d_state_parts sc_state_parts (by decide) (fun f cdv A outer s H E hr => (dss_cons (ds_expr (dcall F_check_web hr (da_cons (dv 0) da_nil)))
  (dss_cons (ds_expr (dcall F_check_full hr (da_cons (dv 0) (da_cons (dv 1) da_nil))))
  (dss_cons (dset 2 sc_state_parts.nd (dcall F_step_table hr (da_cons (dv 0) (da_cons (dv 1) da_nil))))
  (dss_cons (ds_newD 3 sc_state_parts.nd)
  (dss_cons (down 4 sc_state_parts.nd (df_lst da_nil))
  (dss_cons (ds_for PassesOwn.never rfl (di_range1 rfl T.b_range (da_cons (de_b1 call_len_seq l1_len rfl T.b_len (by decide +kernel) (d1 (dbv 2))) da_nil)) (dgn 5 sc_state_parts.nd)
   (dss_one (ds_if (dt_dnotin (hu_of hr) (dv 5) (dd_var 3)) (dss_cons (dset 6 sc_state_parts.nd (dcall F_steps_from hr (da_cons (dv 2) (da_cons (dv 5) da_nil))))
  (dss_cons (ds_updF 3 (dv 6) ⟨rfl, rfl, rfl, rfl⟩)
  (dss_one (ds_append (i := 4) rfl (by first | exact Or.inl rfl | exact Or.inr (Or.inl rfl) | exact Or.inr (Or.inr rfl)) (de_b1 cr_lenF l1_lenF rfl T.b_len (by decide +kernel) (d1 (dbv 6))))))) dss_nil)))
  (dss_one (ds_ret (de_t1 call_tuple_of l1_tuple rfl T.b_tuple (by decide +kernel) (d1 (DE.lend (DF.de (df_b1 cr_sortedI lf_sorted rfl T.b_sorted (by decide +kernel) (d1 (dbv 4)))))))))))))))) ?_
  rintro ds q hl ⟨n, es, ls, rfl, W, F, hq⟩
  have hlo := W.lo
  have hhi := W.hi
  have hp : 2 ^ n.toNat ≤ 2 ^ 9 := Nat.pow_le_pow_right (by decide) (by omega)
  simp only [tdSeq, tdIfS, tdRet, tdRetN, tdNext, tdNever, tdDrop, tdBreak, tdCont, tdSet, tdOwn, tdAsg, tdAppend, tdExtend, tdPop, tdAug, tdAugSub, tdPar, tdParOO, tdParSO, tdAsgSOS, tdParSD, tdPutT, tdSortKeys, tdFor, tdLc, tdYes, gdName, gdNil, gdCons, gdTup, gdSub, tdSh, tdLent, tdC, td1, td2, tf1, tdB, tdAnd, tdOr, tdNot, tdAndV, tdOrV, tdNotV, tdIf, tdNil, tdCons, tdTup, tdLst, tdChain, tdIxB, tdRep, tdCat, tdCall, tdCallR, tiL, tiT, tiR1, tiR2, rI, rI0, rU, rLen, rInts, rBools, rInt, rTuple, rList, rIxD, nn_none, nn_int, nn_tup, noOwn, wipeD, Slot.addr, truD, List.getElem?_cons_zero, List.getElem?_cons_succ, List.set_cons_zero, List.set_cons_succ, List.map_cons, List.map_nil, List.length_cons, List.length_nil, List.cons_append, List.nil_append, List.replicate, Nat.sub_self, Nat.zero_add, Nat.add_one_sub_one, Nat.reduceAdd, Nat.reduceSub, Nat.succ_sub_succ_eq_sub, Nat.sub_zero, List.all_cons, List.all_nil, Option.isNone_none, Bool.and_self, Bool.and_true, List.reduceReplicate, true_and, and_true, wD, bD, lD, pD, if_true, if_false, Bool.not_true, Bool.not_false, Bool.false_eq_true]
  refine ⟨_, _, rfl, W, _, _, _, rfl, F, ?_⟩
  refine ⟨_, _, _, rfl, W, F, fun st T => ?_⟩
  have hstl := T.1
  dsimp only
  unfold tdNewD
  refine .inl fun ma hma => ?_
  try simp only [tdSeq, tdIfS, tdRet, tdRetN, tdNext, tdNever, tdDrop, tdBreak, tdCont, tdSet, tdOwn, tdAsg, tdAppend, tdExtend, tdPop, tdAug, tdAugSub, tdPar, tdParOO, tdParSO, tdAsgSOS, tdParSD, tdPutT, tdSortKeys, tdFor, tdLc, tdYes, gdName, gdNil, gdCons, gdTup, gdSub, tdSh, tdLent, tdC, td1, td2, tf1, tdB, tdAnd, tdOr, tdNot, tdAndV, tdOrV, tdNotV, tdIf, tdNil, tdCons, tdTup, tdLst, tdChain, tdIxB, tdRep, tdCat, tdCall, tdCallR, tiL, tiT, tiR1, tiR2, rI, rI0, rU, rLen, rInts, rBools, rInt, rTuple, rList, rIxD, nn_none, nn_int, nn_tup, noOwn, wipeD, Slot.addr, truD, List.getElem?_cons_zero, List.getElem?_cons_succ, List.set_cons_zero, List.set_cons_succ, List.map_cons, List.map_nil, List.length_cons, List.length_nil, List.cons_append, List.nil_append, List.replicate, Nat.sub_self, Nat.zero_add, Nat.add_one_sub_one, Nat.reduceAdd, Nat.reduceSub, Nat.succ_sub_succ_eq_sub, Nat.sub_zero, List.all_cons, List.all_nil, Option.isNone_none, Bool.and_self, Bool.and_true, List.reduceReplicate, true_and, and_true, wD, bD, lD, pD, if_true, if_false, Bool.not_true, Bool.not_false, Bool.false_eq_true]
  refine ⟨by decide, fun ad had => ?_⟩
  rw [List.length_map, hstl]
  refine ⟨⟨by omega, by omega⟩, ?_⟩
  refine wFor_at (fun i ρ => ∃ (kk : List (Nat × Nat)) (x5 x6 : Slot), LotI (Stp n es ls) i kk ∧ ρ = [.sh (wD n es), .sh (lD ls), .sh (.list (st.map fun (m : Nat) => PyData.int (m : Int))), .dic ma (.K (KI (dN kk))), .own ad ((((List.range i).filter (repB (Stp n es ls))).map fun r => ((szR (Stp n es ls) (2 ^ n.toNat) r : Nat) : Int)).map .int), x5, x6]) _ ?_ ?_ _ ⟨[], .un, .un, LotI.zero, rfl⟩
  · rintro ρ ⟨kk, x5, x6, L, rfl⟩
    try simp only [tdSeq, tdIfS, tdRet, tdRetN, tdNext, tdNever, tdDrop, tdBreak, tdCont, tdSet, tdOwn, tdAsg, tdAppend, tdExtend, tdPop, tdAug, tdAugSub, tdPar, tdParOO, tdParSO, tdAsgSOS, tdParSD, tdPutT, tdSortKeys, tdFor, tdLc, tdYes, gdName, gdNil, gdCons, gdTup, gdSub, tdSh, tdLent, tdC, td1, td2, tf1, tdB, tdAnd, tdOr, tdNot, tdAndV, tdOrV, tdNotV, tdIf, tdNil, tdCons, tdTup, tdLst, tdChain, tdIxB, tdRep, tdCat, tdCall, tdCallR, tdNewD, tdDPut, tdDV, tdShD, tiItems, tiKeys, tdSortKD, tdNotMem, tdMemGet, tdMemPut, tdCallM, tdParSSM, tiL, tiT, tiR1, tiR2, rI, rI0, rU, rLen, rInts, rBools, rInt, rTuple, rList, rIxD, nn_none, nn_int, nn_tup, noOwn, wipeD, Slot.addr, truD, List.getElem?_cons_zero, List.getElem?_cons_succ, List.set_cons_zero, List.set_cons_succ, List.map_cons, List.map_nil, List.length_cons, List.length_nil, List.cons_append, List.nil_append, List.replicate, Nat.sub_self, Nat.zero_add, Nat.add_one_sub_one, Nat.reduceAdd, Nat.reduceSub, Nat.succ_sub_succ_eq_sub, Nat.sub_zero, List.all_cons, List.all_nil, Option.isNone_none, Bool.and_self, Bool.and_true, List.reduceReplicate, true_and, and_true, wD, bD, lD, pD, if_true, if_false, Bool.not_true, Bool.not_false, Bool.false_eq_true]
    rw [show ((rangeD 0 ((2 ^ n.toNat : Nat) : Int).toNat)).length = 2 ^ n.toNat by unfold rangeD; rw [List.length_map, List.length_range, Int.toNat_natCast]]
    refine ⟨_, rfl, fun ts h1 h2 => ?_⟩
    exact hq ts h2 h1
  · rintro i d ρ k hd ⟨kk, x5, x6, L, rfl⟩ hk
    obtain ⟨hi, rfl⟩ := rangeD_get hd
    rw [Int.toNat_natCast] at hi
    try simp only [tdSeq, tdIfS, tdRet, tdRetN, tdNext, tdNever, tdDrop, tdBreak, tdCont, tdSet, tdOwn, tdAsg, tdAppend, tdExtend, tdPop, tdAug, tdAugSub, tdPar, tdParOO, tdParSO, tdAsgSOS, tdParSD, tdPutT, tdSortKeys, tdFor, tdLc, tdYes, gdName, gdNil, gdCons, gdTup, gdSub, tdSh, tdLent, tdC, td1, td2, tf1, tdB, tdAnd, tdOr, tdNot, tdAndV, tdOrV, tdNotV, tdIf, tdNil, tdCons, tdTup, tdLst, tdChain, tdIxB, tdRep, tdCat, tdCall, tdCallR, tdNewD, tdDPut, tdDV, tdShD, tiItems, tiKeys, tdSortKD, tdNotMem, tdMemGet, tdMemPut, tdCallM, tdParSSM, tiL, tiT, tiR1, tiR2, rI, rI0, rU, rLen, rInts, rBools, rInt, rTuple, rList, rIxD, nn_none, nn_int, nn_tup, noOwn, wipeD, Slot.addr, truD, List.getElem?_cons_zero, List.getElem?_cons_succ, List.set_cons_zero, List.set_cons_succ, List.map_cons, List.map_nil, List.length_cons, List.length_nil, List.cons_append, List.nil_append, List.replicate, Nat.sub_self, Nat.zero_add, Nat.add_one_sub_one, Nat.reduceAdd, Nat.reduceSub, Nat.succ_sub_succ_eq_sub, Nat.sub_zero, List.all_cons, List.all_nil, Option.isNone_none, Bool.and_self, Bool.and_true, List.reduceReplicate, true_and, and_true, wD, bD, lD, pD, if_true, if_false, Bool.not_true, Bool.not_false, Bool.false_eq_true]
    rw [show (0 : Int) + (i : Int) = (i : Int) by omega]
    have hkb : ∀ s ∈ kk.map (·.1), s < 2 ^ n.toNat := fun s hs => by
      obtain ⟨r, hr, k, w⟩ := (L.mem s).mp hs
      exact jn_lt stp_lt k (by omega) w
    have hkl := keys_len L.nd hkb
    refine ⟨.K (dN kk), rfl, ?_⟩
    unfold lkD
    refine ⟨_, rfl, ?_⟩
    by_cases hin : i ∈ kk.map (·.1)
    · obtain ⟨k0, hk0⟩ := keys_mem.mp hin
      rw [lkN_in L.nd hk0]
      refine ite_no (by simp) ?_
      obtain ⟨L', hr⟩ := L.old hin
      exact hk _ ⟨kk, _, x6, L', by rw [range_filt_succ, if_neg (by rw [hr]; decide), List.append_nil]; rfl⟩
    · rw [lkN_out hin]
      refine ite_yes rfl ?_
      refine ⟨n, es, ls, st, i, rfl, W, T, hi, fun kc D => ?_⟩
      have hcl := D.len hi stp_lt
      obtain ⟨dj, L', hr⟩ := L.new (stp_symm W ls) D hin
      unfold tdUpdF
      try simp only [tdSeq, tdIfS, tdRet, tdRetN, tdNext, tdNever, tdDrop, tdBreak, tdCont, tdSet, tdOwn, tdAsg, tdAppend, tdExtend, tdPop, tdAug, tdAugSub, tdPar, tdParOO, tdParSO, tdAsgSOS, tdParSD, tdPutT, tdSortKeys, tdFor, tdLc, tdYes, gdName, gdNil, gdCons, gdTup, gdSub, tdSh, tdLent, tdC, td1, td2, tf1, tdB, tdAnd, tdOr, tdNot, tdAndV, tdOrV, tdNotV, tdIf, tdNil, tdCons, tdTup, tdLst, tdChain, tdIxB, tdRep, tdCat, tdCall, tdCallR, tdNewD, tdDPut, tdDV, tdShD, tiItems, tiKeys, tdSortKD, tdNotMem, tdMemGet, tdMemPut, tdCallM, tdParSSM, tiL, tiT, tiR1, tiR2, rI, rI0, rU, rLen, rInts, rBools, rInt, rTuple, rList, rIxD, nn_none, nn_int, nn_tup, noOwn, wipeD, Slot.addr, truD, List.getElem?_cons_zero, List.getElem?_cons_succ, List.set_cons_zero, List.set_cons_succ, List.map_cons, List.map_nil, List.length_cons, List.length_nil, List.cons_append, List.nil_append, List.replicate, Nat.sub_self, Nat.zero_add, Nat.add_one_sub_one, Nat.reduceAdd, Nat.reduceSub, Nat.succ_sub_succ_eq_sub, Nat.sub_zero, List.all_cons, List.all_nil, Option.isNone_none, Bool.and_self, Bool.and_true, List.reduceReplicate, true_and, and_true, wD, bD, lD, pD, if_true, if_false, Bool.not_true, Bool.not_false, Bool.false_eq_true]
      refine ⟨dN kc, rfl, by unfold dN; rw [List.length_map, List.length_map, List.length_map]; unfold sizeLine; omega, ?_⟩
      rw [mergeN D.nd dj]
      have hsz := D.sz hi stp_lt
      have hfl := List.length_filter_le (repB (Stp n es ls)) (List.range i)
      rw [List.length_range] at hfl
      refine ⟨dN kc, rfl, by rw [List.length_map, List.length_map]; unfold sizeLine; omega, ?_⟩
      refine hk _ ⟨kk ++ kc, .sh (.int (i : Int)), .sh (dK (dN kc)), L', ?_⟩
      rw [range_filt_succ, if_pos hr, List.map_append, List.map_append, show (dN kc).length = szR (Stp n es ls) (2 ^ n.toNat) i by rw [← hsz]; unfold dN; rw [List.length_map]]
      rfl
theorem fn_order_count (T : Top K mg) (F_check_web : Fn P w K mg base 4 "check_web" (spD K 1 sd_check_web)) (F_check_full : Fn P w K mg base 3 "check_full" (spD K 2 sd_check_full)) (F_on_table : Fn P w K mg base 2 "on_table" (spD K 1 sd_on_table)) (F_ready_table : Fn P w K mg base 3 "ready_table" (spD K 2 sd_ready_table)) : Fn P w K mg base 5 "order_count" (spD K 2 sd_order_count) := by
  refine defD T.d_order_count sc_order_count (by decide) (fun f cdv A outer s H E hr => (dss_cons (ds_expr (dcall F_check_web hr (da_cons (dv 0) da_nil)))
  (dss_cons (ds_expr (dcall F_check_full hr (da_cons (dv 0) (da_cons (dv 1) da_nil))))
  (dss_one (ds_ret (de_ix (dcall F_on_table hr (da_cons (dcall F_ready_table hr (da_cons (dv 0) (da_cons (dv 1) da_nil))) da_nil)) de_int (fun _ _ => rfl))))))) ?_
  rintro ds q hl ⟨n, es, ls, rfl, W, F, hq⟩
  simp only [tdSeq, tdIfS, tdRet, tdRetN, tdNext, tdNever, tdDrop, tdBreak, tdCont, tdSet, tdOwn, tdAsg, tdAppend, tdExtend, tdPop, tdAug, tdAugSub, tdPar, tdParOO, tdParSO, tdAsgSOS, tdParSD, tdPutT, tdSortKeys, tdFor, tdLc, tdYes, gdName, gdNil, gdCons, gdTup, gdSub, tdSh, tdLent, tdC, td1, td2, tf1, tdB, tdAnd, tdOr, tdNot, tdAndV, tdOrV, tdNotV, tdIf, tdNil, tdCons, tdTup, tdLst, tdChain, tdIxB, tdRep, tdCat, tdCall, tdCallR, tiL, tiT, tiR1, tiR2, rI, rI0, rU, rLen, rInts, rBools, rInt, rTuple, rList, rIxD, nn_none, nn_int, nn_tup, noOwn, wipeD, Slot.addr, truD, List.getElem?_cons_zero, List.getElem?_cons_succ, List.set_cons_zero, List.set_cons_succ, List.map_cons, List.map_nil, List.length_cons, List.length_nil, List.cons_append, List.nil_append, List.replicate, Nat.sub_self, Nat.zero_add, Nat.add_one_sub_one, Nat.reduceAdd, Nat.reduceSub, Nat.succ_sub_succ_eq_sub, Nat.sub_zero, List.all_cons, List.all_nil, Option.isNone_none, Bool.and_self, Bool.and_true, List.reduceReplicate, true_and, and_true, wD, bD, lD, pD, if_true, if_false, Bool.not_true, Bool.not_false, Bool.false_eq_true]
  refine ⟨_, _, rfl, W, _, _, _, rfl, F, _, _, _, rfl, W, F, fun rs RT => ?_⟩
  refine ⟨n, es, ls, rs, rfl, W, F, RT, fun on ON => ?_⟩
  have h0 : 0 < 2 ^ n.toNat := Nat.two_pow_pos _
  have e := on_cnt W F ON n.toNat 0 h0 (by rw [bits_zero]; simp)
  rw [stB_zero F] at e
  have hl0 : 0 < on.length := (List.getElem?_eq_some_iff.mp e).1
  refine ⟨.int (cnt es n.toNat ls : Nat), ?_, hq⟩
  show atI _ ((0 : Nat) : Int) = _
  rw [atI_nat (by rw [List.length_map]; exact hl0), List.getElem?_map, e]; rfl
theorem fn_can_clear (T : Top K mg) (F_order_count : Fn P w K mg base 5 "order_count" (spD K 2 sd_order_count)) : Fn P w K mg base 6 "can_clear" (spD K 2 sd_can_clear) := by
  refine defD T.d_can_clear sc_can_clear (by decide) (fun f cdv A outer s H E hr => (dss_one (ds_ret (de_cmp l_gt (dcall F_order_count hr (da_cons (dv 0) (da_cons (dv 1) da_nil))) de_int (nomark _))))) ?_
  rintro ds q hl ⟨n, es, ls, rfl, W, F, hq⟩
  simp only [tdSeq, tdIfS, tdRet, tdRetN, tdNext, tdNever, tdDrop, tdBreak, tdCont, tdSet, tdOwn, tdAsg, tdAppend, tdExtend, tdPop, tdAug, tdAugSub, tdPar, tdParOO, tdParSO, tdAsgSOS, tdParSD, tdPutT, tdSortKeys, tdFor, tdLc, tdYes, gdName, gdNil, gdCons, gdTup, gdSub, tdSh, tdLent, tdC, td1, td2, tf1, tdB, tdAnd, tdOr, tdNot, tdAndV, tdOrV, tdNotV, tdIf, tdNil, tdCons, tdTup, tdLst, tdChain, tdIxB, tdRep, tdCat, tdCall, tdCallR, tiL, tiT, tiR1, tiR2, rI, rI0, rU, rLen, rInts, rBools, rInt, rTuple, rList, rIxD, nn_none, nn_int, nn_tup, noOwn, wipeD, Slot.addr, truD, List.getElem?_cons_zero, List.getElem?_cons_succ, List.set_cons_zero, List.set_cons_succ, List.map_cons, List.map_nil, List.length_cons, List.length_nil, List.cons_append, List.nil_append, List.replicate, Nat.sub_self, Nat.zero_add, Nat.add_one_sub_one, Nat.reduceAdd, Nat.reduceSub, Nat.succ_sub_succ_eq_sub, Nat.sub_zero, List.all_cons, List.all_nil, Option.isNone_none, Bool.and_self, Bool.and_true, List.reduceReplicate, true_and, and_true, wD, bD, lD, pD, if_true, if_false, Bool.not_true, Bool.not_false, Bool.false_eq_true]
  refine ⟨_, _, _, rfl, W, F, ?_⟩
  try simp only [tdSeq, tdIfS, tdRet, tdRetN, tdNext, tdNever, tdDrop, tdBreak, tdCont, tdSet, tdOwn, tdAsg, tdAppend, tdExtend, tdPop, tdAug, tdAugSub, tdPar, tdParOO, tdParSO, tdAsgSOS, tdParSD, tdPutT, tdSortKeys, tdFor, tdLc, tdYes, gdName, gdNil, gdCons, gdTup, gdSub, tdSh, tdLent, tdC, td1, td2, tf1, tdB, tdAnd, tdOr, tdNot, tdAndV, tdOrV, tdNotV, tdIf, tdNil, tdCons, tdTup, tdLst, tdChain, tdIxB, tdRep, tdCat, tdCall, tdCallR, tiL, tiT, tiR1, tiR2, rI, rI0, rU, rLen, rInts, rBools, rInt, rTuple, rList, rIxD, nn_none, nn_int, nn_tup, noOwn, wipeD, Slot.addr, truD, List.getElem?_cons_zero, List.getElem?_cons_succ, List.set_cons_zero, List.set_cons_succ, List.map_cons, List.map_nil, List.length_cons, List.length_nil, List.cons_append, List.nil_append, List.replicate, Nat.sub_self, Nat.zero_add, Nat.add_one_sub_one, Nat.reduceAdd, Nat.reduceSub, Nat.succ_sub_succ_eq_sub, Nat.sub_zero, List.all_cons, List.all_nil, Option.isNone_none, Bool.and_self, Bool.and_true, List.reduceReplicate, true_and, and_true, wD, bD, lD, pD, if_true, if_false, Bool.not_true, Bool.not_false, Bool.false_eq_true]
  have e : decide ((0 : Int) < ((cnt es n.toNat ls : Nat) : Int)) = decide (0 < cnt es n.toNat ls) := by
    by_cases h : 0 < cnt es n.toNat ls
    · rw [decide_eq_true h, decide_eq_true (by omega)]
    · rw [decide_eq_false h, decide_eq_false (by omega)]
  rw [e]
  exact hq
theorem fn__law_taken (T : Top K mg) : Fn P w K mg base 1 "_law_taken" (spR K 1 sd__law_taken) := by
  refine defT (n := 1) T.d__law_taken sc__law_taken rfl (by decide) (fun f cdv A outer s H E hr => (dss_cons (ds_if (dt_cmp l_gt (de_ixB (dbv 0) de_int (fun _ _ => rfl)) de_int (nomark _)) (dss_cons (dset 2 sc__law_taken.nd (de_op l_mod (de_t1 call_int1 l1_int rfl T.b_int (by decide +kernel) (d1 (DE.lend (de_ixB (dbv 0) de_int (fun _ _ => rfl))))) (dv 1)))
  (dss_cons (ds_asg (de_op l_fdiv (de_ixB (dbv 0) de_int (fun _ _ => rfl)) (dv 1)) (dgsub 0 de_int))
  (dss_one (ds_ret (dv 2))))) dss_nil)
  (dss_cons (ds_asg (de_op l_add (de_ixB (dbv 0) de_int (fun _ _ => rfl)) de_int) (dgsub 0 de_int))
  (dss_cons (ds_if (dt_cmp l_gt (de_ixB (dbv 0) de_int (fun _ _ => rfl)) (de_b1 call_len_seq l1_len rfl T.b_len (by decide +kernel) (d1 (DE.lend (de_ixB (dbv 0) de_int (fun _ _ => rfl))))) (nomark _)) (dss_cons (ds_asg (de_op l_mod (de_t1 call_int1 l1_int rfl T.b_int (by decide +kernel) (d1 (DE.lend (de_op l_add (de_op l_mul (de_ixB (dbv 0) de_int (fun _ _ => rfl)) de_int) de_int)))) de_int) (dgsub 0 de_int))
  (dss_one (ds_ret (de_op l_mod (de_t1 call_int1 l1_int rfl T.b_int (by decide +kernel) (d1 (DE.lend (de_op l_fdiv (de_ixB (dbv 0) de_int (fun _ _ => rfl)) de_int)))) (dv 1))))) dss_nil)
  (dss_cons (dset 3 sc__law_taken.nd (de_ix (de_ixB (dbv 0) de_int (fun _ _ => rfl)) (de_op l_sub (de_ixB (dbv 0) de_int (fun _ _ => rfl)) de_int) (fun _ _ => rfl)))
  (dss_cons (ds_asg (de_op l_mod (de_t1 call_int1 l1_int rfl T.b_int (by decide +kernel) (d1 (DE.lend (de_op l_add (de_op l_add (de_op l_mul (de_ixB (dbv 0) de_int (fun _ _ => rfl)) de_int) (dv 3)) de_int)))) de_int) (dgsub 0 de_int))
  (dss_cons (ds_if (dt_cmp l_ge (dv 3) (de_op l_pow de_int de_int) (nomark _)) (dss_one (ds_asg (de_op l_fdiv (dv 3) (dv 1)) (dgsub 0 de_int))) dss_nil)
  (dss_one (ds_ret (de_op l_mod (de_t1 call_int1 l1_int rfl T.b_int (by decide +kernel) (d1 (dbv 3))) (dv 1))))))))))) ?_
  rintro r ds q ns i s b hl ⟨n, rfl, hn, hn2, hq⟩ hi hs0 hs1 hb
  have hm : ∀ x : Int, q (.int (x % n)) := fun x => hq _ (Int.emod_nonneg _ (by omega)) (Int.emod_lt_of_pos _ hn)
  have hd : ∀ x : Int, 0 ≤ x → 0 ≤ x / n := fun x hx => Int.ediv_nonneg hx (by omega)
  have hs2 : ∀ x : Int, 0 ≤ x % 2147483647 ∧ x % 2147483647 < 2147483647 := fun x => ⟨Int.emod_nonneg _ (by decide), Int.emod_lt_of_pos _ (by decide)⟩
  unfold rowD
  simp only [tdSeq, tdIfS, tdRet, tdRetN, tdNext, tdNever, tdDrop, tdBreak, tdCont, tdSet, tdOwn, tdAsg, tdAppend, tdExtend, tdPop, tdAug, tdAugSub, tdPar, tdParOO, tdParSO, tdAsgSOS, tdParSD, tdPutT, tdSortKeys, tdFor, tdLc, tdYes, gdName, gdNil, gdCons, gdTup, gdSub, tdSh, tdLent, tdC, td1, td2, tf1, tdB, tdAnd, tdOr, tdNot, tdAndV, tdOrV, tdNotV, tdIf, tdNil, tdCons, tdTup, tdLst, tdChain, tdIxB, tdRep, tdCat, tdCall, tdCallR, tiL, tiT, tiR1, tiR2, rI, rI0, rU, rLen, rInts, rBools, rInt, rTuple, rList, rIxD, nn_none, nn_int, nn_tup, noOwn, wipeD, Slot.addr, truD, List.getElem?_cons_zero, List.getElem?_cons_succ, List.set_cons_zero, List.set_cons_succ, List.map_cons, List.map_nil, List.length_cons, List.length_nil, List.cons_append, List.nil_append, List.replicate, Nat.sub_self, Nat.zero_add, Nat.add_one_sub_one, Nat.reduceAdd, Nat.reduceSub, Nat.succ_sub_succ_eq_sub, Nat.sub_zero, List.all_cons, List.all_nil, Option.isNone_none, Bool.and_self, Bool.and_true, List.reduceReplicate, true_and, and_true, wD, bD, lD, pD, if_true, if_false, Bool.not_true, Bool.not_false, Bool.false_eq_true]
  refine ⟨_, rfl, ?_⟩
  simp only [tdSeq, tdIfS, tdRet, tdRetN, tdNext, tdNever, tdDrop, tdBreak, tdCont, tdSet, tdOwn, tdAsg, tdAppend, tdExtend, tdPop, tdAug, tdAugSub, tdPar, tdParOO, tdParSO, tdAsgSOS, tdParSD, tdPutT, tdSortKeys, tdFor, tdLc, tdYes, gdName, gdNil, gdCons, gdTup, gdSub, tdSh, tdLent, tdC, td1, td2, tf1, tdB, tdAnd, tdOr, tdNot, tdAndV, tdOrV, tdNotV, tdIf, tdNil, tdCons, tdTup, tdLst, tdChain, tdIxB, tdRep, tdCat, tdCall, tdCallR, tiL, tiT, tiR1, tiR2, rI, rI0, rU, rLen, rInts, rBools, rInt, rTuple, rList, rIxD, nn_none, nn_int, nn_tup, noOwn, wipeD, Slot.addr, truD, List.getElem?_cons_zero, List.getElem?_cons_succ, List.set_cons_zero, List.set_cons_succ, List.map_cons, List.map_nil, List.length_cons, List.length_nil, List.cons_append, List.nil_append, List.replicate, Nat.sub_self, Nat.zero_add, Nat.add_one_sub_one, Nat.reduceAdd, Nat.reduceSub, Nat.succ_sub_succ_eq_sub, Nat.sub_zero, List.all_cons, List.all_nil, Option.isNone_none, Bool.and_self, Bool.and_true, List.reduceReplicate, true_and, and_true, wD, bD, lD, pD, if_true, if_false, Bool.not_true, Bool.not_false, Bool.false_eq_true]
  by_cases h : 0 < b
  · simp only [h, decide_true, if_true]
    refine ⟨_, rfl, ?_⟩
    simp only [tdSeq, tdIfS, tdRet, tdRetN, tdNext, tdNever, tdDrop, tdBreak, tdCont, tdSet, tdOwn, tdAsg, tdAppend, tdExtend, tdPop, tdAug, tdAugSub, tdPar, tdParOO, tdParSO, tdAsgSOS, tdParSD, tdPutT, tdSortKeys, tdFor, tdLc, tdYes, gdName, gdNil, gdCons, gdTup, gdSub, tdSh, tdLent, tdC, td1, td2, tf1, tdB, tdAnd, tdOr, tdNot, tdAndV, tdOrV, tdNotV, tdIf, tdNil, tdCons, tdTup, tdLst, tdChain, tdIxB, tdRep, tdCat, tdCall, tdCallR, tiL, tiT, tiR1, tiR2, rI, rI0, rU, rLen, rInts, rBools, rInt, rTuple, rList, rIxD, nn_none, nn_int, nn_tup, noOwn, wipeD, Slot.addr, truD, List.getElem?_cons_zero, List.getElem?_cons_succ, List.set_cons_zero, List.set_cons_succ, List.map_cons, List.map_nil, List.length_cons, List.length_nil, List.cons_append, List.nil_append, List.replicate, Nat.sub_self, Nat.zero_add, Nat.add_one_sub_one, Nat.reduceAdd, Nat.reduceSub, Nat.succ_sub_succ_eq_sub, Nat.sub_zero, List.all_cons, List.all_nil, Option.isNone_none, Bool.and_self, Bool.and_true, List.reduceReplicate, true_and, and_true, wD, bD, lD, pD, if_true, if_false, Bool.not_true, Bool.not_false, Bool.false_eq_true]
    refine ⟨hn, _, rfl, ?_⟩
    simp only [tdSeq, tdIfS, tdRet, tdRetN, tdNext, tdNever, tdDrop, tdBreak, tdCont, tdSet, tdOwn, tdAsg, tdAppend, tdExtend, tdPop, tdAug, tdAugSub, tdPar, tdParOO, tdParSO, tdAsgSOS, tdParSD, tdPutT, tdSortKeys, tdFor, tdLc, tdYes, gdName, gdNil, gdCons, gdTup, gdSub, tdSh, tdLent, tdC, td1, td2, tf1, tdB, tdAnd, tdOr, tdNot, tdAndV, tdOrV, tdNotV, tdIf, tdNil, tdCons, tdTup, tdLst, tdChain, tdIxB, tdRep, tdCat, tdCall, tdCallR, tiL, tiT, tiR1, tiR2, rI, rI0, rU, rLen, rInts, rBools, rInt, rTuple, rList, rIxD, nn_none, nn_int, nn_tup, noOwn, wipeD, Slot.addr, truD, List.getElem?_cons_zero, List.getElem?_cons_succ, List.set_cons_zero, List.set_cons_succ, List.map_cons, List.map_nil, List.length_cons, List.length_nil, List.cons_append, List.nil_append, List.replicate, Nat.sub_self, Nat.zero_add, Nat.add_one_sub_one, Nat.reduceAdd, Nat.reduceSub, Nat.succ_sub_succ_eq_sub, Nat.sub_zero, List.all_cons, List.all_nil, Option.isNone_none, Bool.and_self, Bool.and_true, List.reduceReplicate, true_and, and_true, wD, bD, lD, pD, if_true, if_false, Bool.not_true, Bool.not_false, Bool.false_eq_true]
    refine ⟨⟨hn, hn2⟩, 3, rfl, ?_⟩
    exact ⟨hm _, i, s, b / n, rfl, hi, hs0, hs1, hd _ hb⟩
  · simp only [h, decide_false]
    simp only [tdSeq, tdIfS, tdRet, tdRetN, tdNext, tdNever, tdDrop, tdBreak, tdCont, tdSet, tdOwn, tdAsg, tdAppend, tdExtend, tdPop, tdAug, tdAugSub, tdPar, tdParOO, tdParSO, tdAsgSOS, tdParSD, tdPutT, tdSortKeys, tdFor, tdLc, tdYes, gdName, gdNil, gdCons, gdTup, gdSub, tdSh, tdLent, tdC, td1, td2, tf1, tdB, tdAnd, tdOr, tdNot, tdAndV, tdOrV, tdNotV, tdIf, tdNil, tdCons, tdTup, tdLst, tdChain, tdIxB, tdRep, tdCat, tdCall, tdCallR, tiL, tiT, tiR1, tiR2, rI, rI0, rU, rLen, rInts, rBools, rInt, rTuple, rList, rIxD, nn_none, nn_int, nn_tup, noOwn, wipeD, Slot.addr, truD, List.getElem?_cons_zero, List.getElem?_cons_succ, List.set_cons_zero, List.set_cons_succ, List.map_cons, List.map_nil, List.length_cons, List.length_nil, List.cons_append, List.nil_append, List.replicate, Nat.sub_self, Nat.zero_add, Nat.add_one_sub_one, Nat.reduceAdd, Nat.reduceSub, Nat.succ_sub_succ_eq_sub, Nat.sub_zero, List.all_cons, List.all_nil, Option.isNone_none, Bool.and_self, Bool.and_true, List.reduceReplicate, true_and, and_true, wD, bD, lD, pD, if_true, if_false, Bool.not_true, Bool.not_false, Bool.false_eq_true]
    refine ⟨_, rfl, ?_⟩
    simp only [tdSeq, tdIfS, tdRet, tdRetN, tdNext, tdNever, tdDrop, tdBreak, tdCont, tdSet, tdOwn, tdAsg, tdAppend, tdExtend, tdPop, tdAug, tdAugSub, tdPar, tdParOO, tdParSO, tdAsgSOS, tdParSD, tdPutT, tdSortKeys, tdFor, tdLc, tdYes, gdName, gdNil, gdCons, gdTup, gdSub, tdSh, tdLent, tdC, td1, td2, tf1, tdB, tdAnd, tdOr, tdNot, tdAndV, tdOrV, tdNotV, tdIf, tdNil, tdCons, tdTup, tdLst, tdChain, tdIxB, tdRep, tdCat, tdCall, tdCallR, tiL, tiT, tiR1, tiR2, rI, rI0, rU, rLen, rInts, rBools, rInt, rTuple, rList, rIxD, nn_none, nn_int, nn_tup, noOwn, wipeD, Slot.addr, truD, List.getElem?_cons_zero, List.getElem?_cons_succ, List.set_cons_zero, List.set_cons_succ, List.map_cons, List.map_nil, List.length_cons, List.length_nil, List.cons_append, List.nil_append, List.replicate, Nat.sub_self, Nat.zero_add, Nat.add_one_sub_one, Nat.reduceAdd, Nat.reduceSub, Nat.succ_sub_succ_eq_sub, Nat.sub_zero, List.all_cons, List.all_nil, Option.isNone_none, Bool.and_self, Bool.and_true, List.reduceReplicate, true_and, and_true, wD, bD, lD, pD, if_true, if_false, Bool.not_true, Bool.not_false, Bool.false_eq_true]
    refine ⟨1, rfl, ?_⟩
    simp only [tdSeq, tdIfS, tdRet, tdRetN, tdNext, tdNever, tdDrop, tdBreak, tdCont, tdSet, tdOwn, tdAsg, tdAppend, tdExtend, tdPop, tdAug, tdAugSub, tdPar, tdParOO, tdParSO, tdAsgSOS, tdParSD, tdPutT, tdSortKeys, tdFor, tdLc, tdYes, gdName, gdNil, gdCons, gdTup, gdSub, tdSh, tdLent, tdC, td1, td2, tf1, tdB, tdAnd, tdOr, tdNot, tdAndV, tdOrV, tdNotV, tdIf, tdNil, tdCons, tdTup, tdLst, tdChain, tdIxB, tdRep, tdCat, tdCall, tdCallR, tiL, tiT, tiR1, tiR2, rI, rI0, rU, rLen, rInts, rBools, rInt, rTuple, rList, rIxD, nn_none, nn_int, nn_tup, noOwn, wipeD, Slot.addr, truD, List.getElem?_cons_zero, List.getElem?_cons_succ, List.set_cons_zero, List.set_cons_succ, List.map_cons, List.map_nil, List.length_cons, List.length_nil, List.cons_append, List.nil_append, List.replicate, Nat.sub_self, Nat.zero_add, Nat.add_one_sub_one, Nat.reduceAdd, Nat.reduceSub, Nat.succ_sub_succ_eq_sub, Nat.sub_zero, List.all_cons, List.all_nil, Option.isNone_none, Bool.and_self, Bool.and_true, List.reduceReplicate, true_and, and_true, wD, bD, lD, pD, if_true, if_false, Bool.not_true, Bool.not_false, Bool.false_eq_true]
    refine ⟨_, rfl, _, rfl, ?_⟩
    simp only [tdSeq, tdIfS, tdRet, tdRetN, tdNext, tdNever, tdDrop, tdBreak, tdCont, tdSet, tdOwn, tdAsg, tdAppend, tdExtend, tdPop, tdAug, tdAugSub, tdPar, tdParOO, tdParSO, tdAsgSOS, tdParSD, tdPutT, tdSortKeys, tdFor, tdLc, tdYes, gdName, gdNil, gdCons, gdTup, gdSub, tdSh, tdLent, tdC, td1, td2, tf1, tdB, tdAnd, tdOr, tdNot, tdAndV, tdOrV, tdNotV, tdIf, tdNil, tdCons, tdTup, tdLst, tdChain, tdIxB, tdRep, tdCat, tdCall, tdCallR, tiL, tiT, tiR1, tiR2, rI, rI0, rU, rLen, rInts, rBools, rInt, rTuple, rList, rIxD, nn_none, nn_int, nn_tup, noOwn, wipeD, Slot.addr, truD, List.getElem?_cons_zero, List.getElem?_cons_succ, List.set_cons_zero, List.set_cons_succ, List.map_cons, List.map_nil, List.length_cons, List.length_nil, List.cons_append, List.nil_append, List.replicate, Nat.sub_self, Nat.zero_add, Nat.add_one_sub_one, Nat.reduceAdd, Nat.reduceSub, Nat.succ_sub_succ_eq_sub, Nat.sub_zero, List.all_cons, List.all_nil, Option.isNone_none, Bool.and_self, Bool.and_true, List.reduceReplicate, true_and, and_true, wD, bD, lD, pD, if_true, if_false, Bool.not_true, Bool.not_false, Bool.false_eq_true]
    rw [List.length_map]
    by_cases h2 : (ns.length : Int) < i + 1
    · simp only [h2, decide_true, if_true]
      refine ⟨_, rfl, ?_⟩
      simp only [tdSeq, tdIfS, tdRet, tdRetN, tdNext, tdNever, tdDrop, tdBreak, tdCont, tdSet, tdOwn, tdAsg, tdAppend, tdExtend, tdPop, tdAug, tdAugSub, tdPar, tdParOO, tdParSO, tdAsgSOS, tdParSD, tdPutT, tdSortKeys, tdFor, tdLc, tdYes, gdName, gdNil, gdCons, gdTup, gdSub, tdSh, tdLent, tdC, td1, td2, tf1, tdB, tdAnd, tdOr, tdNot, tdAndV, tdOrV, tdNotV, tdIf, tdNil, tdCons, tdTup, tdLst, tdChain, tdIxB, tdRep, tdCat, tdCall, tdCallR, tiL, tiT, tiR1, tiR2, rI, rI0, rU, rLen, rInts, rBools, rInt, rTuple, rList, rIxD, nn_none, nn_int, nn_tup, noOwn, wipeD, Slot.addr, truD, List.getElem?_cons_zero, List.getElem?_cons_succ, List.set_cons_zero, List.set_cons_succ, List.map_cons, List.map_nil, List.length_cons, List.length_nil, List.cons_append, List.nil_append, List.replicate, Nat.sub_self, Nat.zero_add, Nat.add_one_sub_one, Nat.reduceAdd, Nat.reduceSub, Nat.succ_sub_succ_eq_sub, Nat.sub_zero, List.all_cons, List.all_nil, Option.isNone_none, Bool.and_self, Bool.and_true, List.reduceReplicate, true_and, and_true, wD, bD, lD, pD, if_true, if_false, Bool.not_true, Bool.not_false, Bool.false_eq_true]
      refine ⟨.inr ⟨by decide, by decide⟩, by decide, 2, rfl, ?_⟩
      simp only [tdSeq, tdIfS, tdRet, tdRetN, tdNext, tdNever, tdDrop, tdBreak, tdCont, tdSet, tdOwn, tdAsg, tdAppend, tdExtend, tdPop, tdAug, tdAugSub, tdPar, tdParOO, tdParSO, tdAsgSOS, tdParSD, tdPutT, tdSortKeys, tdFor, tdLc, tdYes, gdName, gdNil, gdCons, gdTup, gdSub, tdSh, tdLent, tdC, td1, td2, tf1, tdB, tdAnd, tdOr, tdNot, tdAndV, tdOrV, tdNotV, tdIf, tdNil, tdCons, tdTup, tdLst, tdChain, tdIxB, tdRep, tdCat, tdCall, tdCallR, tiL, tiT, tiR1, tiR2, rI, rI0, rU, rLen, rInts, rBools, rInt, rTuple, rList, rIxD, nn_none, nn_int, nn_tup, noOwn, wipeD, Slot.addr, truD, List.getElem?_cons_zero, List.getElem?_cons_succ, List.set_cons_zero, List.set_cons_succ, List.map_cons, List.map_nil, List.length_cons, List.length_nil, List.cons_append, List.nil_append, List.replicate, Nat.sub_self, Nat.zero_add, Nat.add_one_sub_one, Nat.reduceAdd, Nat.reduceSub, Nat.succ_sub_succ_eq_sub, Nat.sub_zero, List.all_cons, List.all_nil, Option.isNone_none, Bool.and_self, Bool.and_true, List.reduceReplicate, true_and, and_true, wD, bD, lD, pD, if_true, if_false, Bool.not_true, Bool.not_false, Bool.false_eq_true]
      refine ⟨_, rfl, ?_⟩
      simp only [tdSeq, tdIfS, tdRet, tdRetN, tdNext, tdNever, tdDrop, tdBreak, tdCont, tdSet, tdOwn, tdAsg, tdAppend, tdExtend, tdPop, tdAug, tdAugSub, tdPar, tdParOO, tdParSO, tdAsgSOS, tdParSD, tdPutT, tdSortKeys, tdFor, tdLc, tdYes, gdName, gdNil, gdCons, gdTup, gdSub, tdSh, tdLent, tdC, td1, td2, tf1, tdB, tdAnd, tdOr, tdNot, tdAndV, tdOrV, tdNotV, tdIf, tdNil, tdCons, tdTup, tdLst, tdChain, tdIxB, tdRep, tdCat, tdCall, tdCallR, tiL, tiT, tiR1, tiR2, rI, rI0, rU, rLen, rInts, rBools, rInt, rTuple, rList, rIxD, nn_none, nn_int, nn_tup, noOwn, wipeD, Slot.addr, truD, List.getElem?_cons_zero, List.getElem?_cons_succ, List.set_cons_zero, List.set_cons_succ, List.map_cons, List.map_nil, List.length_cons, List.length_nil, List.cons_append, List.nil_append, List.replicate, Nat.sub_self, Nat.zero_add, Nat.add_one_sub_one, Nat.reduceAdd, Nat.reduceSub, Nat.succ_sub_succ_eq_sub, Nat.sub_zero, List.all_cons, List.all_nil, Option.isNone_none, Bool.and_self, Bool.and_true, List.reduceReplicate, true_and, and_true, wD, bD, lD, pD, if_true, if_false, Bool.not_true, Bool.not_false, Bool.false_eq_true]
      refine ⟨⟨by decide, by decide⟩, hn, hm _, _, _, _, rfl, by omega, (hs2 _).1, (hs2 _).2, hb⟩
    · simp only [h2, decide_false]
      simp only [tdSeq, tdIfS, tdRet, tdRetN, tdNext, tdNever, tdDrop, tdBreak, tdCont, tdSet, tdOwn, tdAsg, tdAppend, tdExtend, tdPop, tdAug, tdAugSub, tdPar, tdParOO, tdParSO, tdAsgSOS, tdParSD, tdPutT, tdSortKeys, tdFor, tdLc, tdYes, gdName, gdNil, gdCons, gdTup, gdSub, tdSh, tdLent, tdC, td1, td2, tf1, tdB, tdAnd, tdOr, tdNot, tdAndV, tdOrV, tdNotV, tdIf, tdNil, tdCons, tdTup, tdLst, tdChain, tdIxB, tdRep, tdCat, tdCall, tdCallR, tiL, tiT, tiR1, tiR2, rI, rI0, rU, rLen, rInts, rBools, rInt, rTuple, rList, rIxD, nn_none, nn_int, nn_tup, noOwn, wipeD, Slot.addr, truD, List.getElem?_cons_zero, List.getElem?_cons_succ, List.set_cons_zero, List.set_cons_succ, List.map_cons, List.map_nil, List.length_cons, List.length_nil, List.cons_append, List.nil_append, List.replicate, Nat.sub_self, Nat.zero_add, Nat.add_one_sub_one, Nat.reduceAdd, Nat.reduceSub, Nat.succ_sub_succ_eq_sub, Nat.sub_zero, List.all_cons, List.all_nil, Option.isNone_none, Bool.and_self, Bool.and_true, List.reduceReplicate, true_and, and_true, wD, bD, lD, pD, if_true, if_false, Bool.not_true, Bool.not_false, Bool.false_eq_true]
      have hin : i.toNat < ns.length := by omega
      have e1 : atI (ns.map PyData.int) (i + 1 - 1) = some (.int ns[i.toNat]) := by
        rw [show i + 1 - 1 = i by omega, atI_pos hi (by rw [List.length_map]; omega), List.getElem?_map, List.getElem?_eq_getElem hin]; rfl
      refine ⟨_, rfl, _, rfl, ?_⟩
      simp only [tdSeq, tdIfS, tdRet, tdRetN, tdNext, tdNever, tdDrop, tdBreak, tdCont, tdSet, tdOwn, tdAsg, tdAppend, tdExtend, tdPop, tdAug, tdAugSub, tdPar, tdParOO, tdParSO, tdAsgSOS, tdParSD, tdPutT, tdSortKeys, tdFor, tdLc, tdYes, gdName, gdNil, gdCons, gdTup, gdSub, tdSh, tdLent, tdC, td1, td2, tf1, tdB, tdAnd, tdOr, tdNot, tdAndV, tdOrV, tdNotV, tdIf, tdNil, tdCons, tdTup, tdLst, tdChain, tdIxB, tdRep, tdCat, tdCall, tdCallR, tiL, tiT, tiR1, tiR2, rI, rI0, rU, rLen, rInts, rBools, rInt, rTuple, rList, rIxD, nn_none, nn_int, nn_tup, noOwn, wipeD, Slot.addr, truD, List.getElem?_cons_zero, List.getElem?_cons_succ, List.set_cons_zero, List.set_cons_succ, List.map_cons, List.map_nil, List.length_cons, List.length_nil, List.cons_append, List.nil_append, List.replicate, Nat.sub_self, Nat.zero_add, Nat.add_one_sub_one, Nat.reduceAdd, Nat.reduceSub, Nat.succ_sub_succ_eq_sub, Nat.sub_zero, List.all_cons, List.all_nil, Option.isNone_none, Bool.and_self, Bool.and_true, List.reduceReplicate, true_and, and_true, wD, bD, lD, pD, if_true, if_false, Bool.not_true, Bool.not_false, Bool.false_eq_true]
      refine ⟨_, e1, ?_⟩
      refine ⟨_, rfl, ?_⟩
      simp only [tdSeq, tdIfS, tdRet, tdRetN, tdNext, tdNever, tdDrop, tdBreak, tdCont, tdSet, tdOwn, tdAsg, tdAppend, tdExtend, tdPop, tdAug, tdAugSub, tdPar, tdParOO, tdParSO, tdAsgSOS, tdParSD, tdPutT, tdSortKeys, tdFor, tdLc, tdYes, gdName, gdNil, gdCons, gdTup, gdSub, tdSh, tdLent, tdC, td1, td2, tf1, tdB, tdAnd, tdOr, tdNot, tdAndV, tdOrV, tdNotV, tdIf, tdNil, tdCons, tdTup, tdLst, tdChain, tdIxB, tdRep, tdCat, tdCall, tdCallR, tiL, tiT, tiR1, tiR2, rI, rI0, rU, rLen, rInts, rBools, rInt, rTuple, rList, rIxD, nn_none, nn_int, nn_tup, noOwn, wipeD, Slot.addr, truD, List.getElem?_cons_zero, List.getElem?_cons_succ, List.set_cons_zero, List.set_cons_succ, List.map_cons, List.map_nil, List.length_cons, List.length_nil, List.cons_append, List.nil_append, List.replicate, Nat.sub_self, Nat.zero_add, Nat.add_one_sub_one, Nat.reduceAdd, Nat.reduceSub, Nat.succ_sub_succ_eq_sub, Nat.sub_zero, List.all_cons, List.all_nil, Option.isNone_none, Bool.and_self, Bool.and_true, List.reduceReplicate, true_and, and_true, wD, bD, lD, pD, if_true, if_false, Bool.not_true, Bool.not_false, Bool.false_eq_true]
      refine ⟨.inr ⟨by decide, by decide⟩, ?_⟩
      refine ⟨by decide, 2, rfl, ⟨by decide, by decide, by decide⟩, ?_⟩
      simp only [tdSeq, tdIfS, tdRet, tdRetN, tdNext, tdNever, tdDrop, tdBreak, tdCont, tdSet, tdOwn, tdAsg, tdAppend, tdExtend, tdPop, tdAug, tdAugSub, tdPar, tdParOO, tdParSO, tdAsgSOS, tdParSD, tdPutT, tdSortKeys, tdFor, tdLc, tdYes, gdName, gdNil, gdCons, gdTup, gdSub, tdSh, tdLent, tdC, td1, td2, tf1, tdB, tdAnd, tdOr, tdNot, tdAndV, tdOrV, tdNotV, tdIf, tdNil, tdCons, tdTup, tdLst, tdChain, tdIxB, tdRep, tdCat, tdCall, tdCallR, tiL, tiT, tiR1, tiR2, rI, rI0, rU, rLen, rInts, rBools, rInt, rTuple, rList, rIxD, nn_none, nn_int, nn_tup, noOwn, wipeD, Slot.addr, truD, List.getElem?_cons_zero, List.getElem?_cons_succ, List.set_cons_zero, List.set_cons_succ, List.map_cons, List.map_nil, List.length_cons, List.length_nil, List.cons_append, List.nil_append, List.replicate, Nat.sub_self, Nat.zero_add, Nat.add_one_sub_one, Nat.reduceAdd, Nat.reduceSub, Nat.succ_sub_succ_eq_sub, Nat.sub_zero, List.all_cons, List.all_nil, Option.isNone_none, Bool.and_self, Bool.and_true, List.reduceReplicate, true_and, and_true, wD, bD, lD, pD, if_true, if_false, Bool.not_true, Bool.not_false, Bool.false_eq_true]
      by_cases h3 : (10 ^ Int.toNat 18 : Int) ≤ ns[i.toNat]
      · simp only [h3, decide_true, if_true]
        refine ⟨⟨hn, hn2⟩, 3, rfl, ?_⟩
        simp only [tdSeq, tdIfS, tdRet, tdRetN, tdNext, tdNever, tdDrop, tdBreak, tdCont, tdSet, tdOwn, tdAsg, tdAppend, tdExtend, tdPop, tdAug, tdAugSub, tdPar, tdParOO, tdParSO, tdAsgSOS, tdParSD, tdPutT, tdSortKeys, tdFor, tdLc, tdYes, gdName, gdNil, gdCons, gdTup, gdSub, tdSh, tdLent, tdC, td1, td2, tf1, tdB, tdAnd, tdOr, tdNot, tdAndV, tdOrV, tdNotV, tdIf, tdNil, tdCons, tdTup, tdLst, tdChain, tdIxB, tdRep, tdCat, tdCall, tdCallR, tiL, tiT, tiR1, tiR2, rI, rI0, rU, rLen, rInts, rBools, rInt, rTuple, rList, rIxD, nn_none, nn_int, nn_tup, noOwn, wipeD, Slot.addr, truD, List.getElem?_cons_zero, List.getElem?_cons_succ, List.set_cons_zero, List.set_cons_succ, List.map_cons, List.map_nil, List.length_cons, List.length_nil, List.cons_append, List.nil_append, List.replicate, Nat.sub_self, Nat.zero_add, Nat.add_one_sub_one, Nat.reduceAdd, Nat.reduceSub, Nat.succ_sub_succ_eq_sub, Nat.sub_zero, List.all_cons, List.all_nil, Option.isNone_none, Bool.and_self, Bool.and_true, List.reduceReplicate, true_and, and_true, wD, bD, lD, pD, if_true, if_false, Bool.not_true, Bool.not_false, Bool.false_eq_true]
        have h4 : 0 ≤ ns[i.toNat] := Int.le_trans (by decide) h3
        exact ⟨hn, hm _, _, _, _, rfl, by omega, (hs2 _).1, (hs2 _).2, hd _ h4⟩
      · simp only [h3, decide_false]
        simp only [tdSeq, tdIfS, tdRet, tdRetN, tdNext, tdNever, tdDrop, tdBreak, tdCont, tdSet, tdOwn, tdAsg, tdAppend, tdExtend, tdPop, tdAug, tdAugSub, tdPar, tdParOO, tdParSO, tdAsgSOS, tdParSD, tdPutT, tdSortKeys, tdFor, tdLc, tdYes, gdName, gdNil, gdCons, gdTup, gdSub, tdSh, tdLent, tdC, td1, td2, tf1, tdB, tdAnd, tdOr, tdNot, tdAndV, tdOrV, tdNotV, tdIf, tdNil, tdCons, tdTup, tdLst, tdChain, tdIxB, tdRep, tdCat, tdCall, tdCallR, tiL, tiT, tiR1, tiR2, rI, rI0, rU, rLen, rInts, rBools, rInt, rTuple, rList, rIxD, nn_none, nn_int, nn_tup, noOwn, wipeD, Slot.addr, truD, List.getElem?_cons_zero, List.getElem?_cons_succ, List.set_cons_zero, List.set_cons_succ, List.map_cons, List.map_nil, List.length_cons, List.length_nil, List.cons_append, List.nil_append, List.replicate, Nat.sub_self, Nat.zero_add, Nat.add_one_sub_one, Nat.reduceAdd, Nat.reduceSub, Nat.succ_sub_succ_eq_sub, Nat.sub_zero, List.all_cons, List.all_nil, Option.isNone_none, Bool.and_self, Bool.and_true, List.reduceReplicate, true_and, and_true, wD, bD, lD, pD, if_true, if_false, Bool.not_true, Bool.not_false, Bool.false_eq_true]
        exact ⟨hn, hm _, _, _, _, rfl, by omega, (hs2 _).1, (hs2 _).2, hb⟩
theorem fn__law_order (T : Top K mg) (F__law_taken : Fn P w K mg base 1 "_law_taken" (spR K 1 sd__law_taken)) : Fn P w K mg base 2 "_law_order" (spR K 1 sd__law_order) := by
  refine defR (n := 1) T.d__law_order sc__law_order rfl (by decide) (fun f cdv A outer s H E hr => (dss_cons (ds_parSO (i := 2) (j := 3) rfl sc__law_order.nd rfl rfl (by decide) rfl rfl (DF.de (df_listRg1 rfl rfl T.b_list rfl T.b_range (dv 1))) (df_lst da_nil) (by rfl))
  (dss_cons (ds_for PassesOwn.never rfl (di_range1 rfl T.b_range (da_cons (dv 1) da_nil)) (dgn 4 sc__law_order.nd)
   (dss_cons (dset 5 sc__law_order.nd (dcallR 0 F__law_taken hr (da_cons (de_b1 call_len_seq l1_len rfl T.b_len (by decide +kernel) (d1 (dbv 2))) da_nil)))
  (dss_cons (ds_append (i := 3) rfl (by first | exact Or.inl rfl | exact Or.inr (Or.inl rfl) | exact Or.inr (Or.inr rfl)) (de_ix (dv 2) (dv 5) (fun _ _ => rfl)))
  (dss_one (dset 2 sc__law_order.nd (DF.de (df_cat (df_slice (dbv 2) do_none (do_some (dv 5))) (df_slice (dbv 2) (do_some (de_op l_add (dv 5) de_int)) do_none))))))))
  (dss_one (ds_ret (dv 3)))))) ?_
  rintro ds q hl ⟨n, rfl, h0, h9, hq⟩
  simp only [tdSeq, tdIfS, tdRet, tdRetN, tdNext, tdNever, tdDrop, tdBreak, tdCont, tdSet, tdOwn, tdAsg, tdAppend, tdExtend, tdPop, tdAug, tdAugSub, tdPar, tdParOO, tdParSO, tdAsgSOS, tdParSD, tdPutT, tdSortKeys, tdFor, tdLc, tdYes, gdName, gdNil, gdCons, gdTup, gdSub, tdSh, tdLent, tdC, td1, td2, tf1, tdB, tdAnd, tdOr, tdNot, tdAndV, tdOrV, tdNotV, tdIf, tdNil, tdCons, tdTup, tdLst, tdChain, tdIxB, tdRep, tdCat, tdCall, tdCallR, tiL, tiT, tiR1, tiR2, rI, rI0, rU, rLen, rInts, rBools, rInt, rTuple, rList, rIxD, nn_none, nn_int, nn_tup, noOwn, wipeD, Slot.addr, truD, List.getElem?_cons_zero, List.getElem?_cons_succ, List.set_cons_zero, List.set_cons_succ, List.map_cons, List.map_nil, List.length_cons, List.length_nil, List.cons_append, List.nil_append, List.replicate, Nat.sub_self, Nat.zero_add, Nat.add_one_sub_one, Nat.reduceAdd, Nat.reduceSub, Nat.succ_sub_succ_eq_sub, Nat.sub_zero, List.all_cons, List.all_nil, Option.isNone_none, Bool.and_self, Bool.and_true, List.reduceReplicate, true_and, and_true, wD, bD, lD, pD, if_true, if_false, Bool.not_true, Bool.not_false, Bool.false_eq_true]
  refine ⟨⟨by omega, by omega⟩, by decide, fun m hm => ⟨⟨by omega, by omega⟩, ?_⟩⟩
  refine wFor_ind (fun ds ρ => ∃ (left found : List Int) (x y : Slot), ds.length = left.length ∧ OrdSt n left found ∧ ρ = [.row, .sh (.int n), .sh (.list (left.map .int)), .own m (found.map .int), x, y]) ?_ ?_ _ _ ⟨(List.range n.toNat).map fun (k : Nat) => (k : Int), [], .un, .un, by rw [rangeD_eq, List.length_map], OrdSt.init h0, by rw [rangeD_eq]; rfl⟩
  · rintro ρ ⟨left, found, x, y, hlen, O, rfl⟩
    have : left = [] := List.length_eq_zero_iff.mp hlen.symm
    subst this
    simp only [tdSeq, tdIfS, tdRet, tdRetN, tdNext, tdNever, tdDrop, tdBreak, tdCont, tdSet, tdOwn, tdAsg, tdAppend, tdExtend, tdPop, tdAug, tdAugSub, tdPar, tdParOO, tdParSO, tdAsgSOS, tdParSD, tdPutT, tdSortKeys, tdFor, tdLc, tdYes, gdName, gdNil, gdCons, gdTup, gdSub, tdSh, tdLent, tdC, td1, td2, tf1, tdB, tdAnd, tdOr, tdNot, tdAndV, tdOrV, tdNotV, tdIf, tdNil, tdCons, tdTup, tdLst, tdChain, tdIxB, tdRep, tdCat, tdCall, tdCallR, tiL, tiT, tiR1, tiR2, rI, rI0, rU, rLen, rInts, rBools, rInt, rTuple, rList, rIxD, nn_none, nn_int, nn_tup, noOwn, wipeD, Slot.addr, truD, List.getElem?_cons_zero, List.getElem?_cons_succ, List.set_cons_zero, List.set_cons_succ, List.map_cons, List.map_nil, List.length_cons, List.length_nil, List.cons_append, List.nil_append, List.replicate, Nat.sub_self, Nat.zero_add, Nat.add_one_sub_one, Nat.reduceAdd, Nat.reduceSub, Nat.succ_sub_succ_eq_sub, Nat.sub_zero, List.all_cons, List.all_nil, Option.isNone_none, Bool.and_self, Bool.and_true, List.reduceReplicate, true_and, and_true, wD, bD, lD, pD, if_true, if_false, Bool.not_true, Bool.not_false, Bool.false_eq_true]
    exact hq found O.nd (by have := O.len; simpa using this) O.rng
  · rintro d ds ρ k ⟨left, found, x, y, hlen, O, rfl⟩ hk
    have hl := O.len
    simp only [List.length_cons] at hlen
    simp only [tdSeq, tdIfS, tdRet, tdRetN, tdNext, tdNever, tdDrop, tdBreak, tdCont, tdSet, tdOwn, tdAsg, tdAppend, tdExtend, tdPop, tdAug, tdAugSub, tdPar, tdParOO, tdParSO, tdAsgSOS, tdParSD, tdPutT, tdSortKeys, tdFor, tdLc, tdYes, gdName, gdNil, gdCons, gdTup, gdSub, tdSh, tdLent, tdC, td1, td2, tf1, tdB, tdAnd, tdOr, tdNot, tdAndV, tdOrV, tdNotV, tdIf, tdNil, tdCons, tdTup, tdLst, tdChain, tdIxB, tdRep, tdCat, tdCall, tdCallR, tiL, tiT, tiR1, tiR2, rI, rI0, rU, rLen, rInts, rBools, rInt, rTuple, rList, rIxD, nn_none, nn_int, nn_tup, noOwn, wipeD, Slot.addr, truD, List.getElem?_cons_zero, List.getElem?_cons_succ, List.set_cons_zero, List.set_cons_succ, List.map_cons, List.map_nil, List.length_cons, List.length_nil, List.cons_append, List.nil_append, List.replicate, Nat.sub_self, Nat.zero_add, Nat.add_one_sub_one, Nat.reduceAdd, Nat.reduceSub, Nat.succ_sub_succ_eq_sub, Nat.sub_zero, List.all_cons, List.all_nil, Option.isNone_none, Bool.and_self, Bool.and_true, List.reduceReplicate, true_and, and_true, wD, bD, lD, pD, if_true, if_false, Bool.not_true, Bool.not_false, Bool.false_eq_true]
    refine ⟨(left.map PyData.int).length, rfl, by rw [List.length_map]; omega, by rw [List.length_map]; omega, fun at' g0 g1 => ?_⟩
    obtain ⟨a, rfl⟩ := Int.eq_ofNat_of_zero_le g0
    rw [List.length_map] at g1
    have ha : a < left.length := by omega
    simp only [tdSeq, tdIfS, tdRet, tdRetN, tdNext, tdNever, tdDrop, tdBreak, tdCont, tdSet, tdOwn, tdAsg, tdAppend, tdExtend, tdPop, tdAug, tdAugSub, tdPar, tdParOO, tdParSO, tdAsgSOS, tdParSD, tdPutT, tdSortKeys, tdFor, tdLc, tdYes, gdName, gdNil, gdCons, gdTup, gdSub, tdSh, tdLent, tdC, td1, td2, tf1, tdB, tdAnd, tdOr, tdNot, tdAndV, tdOrV, tdNotV, tdIf, tdNil, tdCons, tdTup, tdLst, tdChain, tdIxB, tdRep, tdCat, tdCall, tdCallR, tiL, tiT, tiR1, tiR2, rI, rI0, rU, rLen, rInts, rBools, rInt, rTuple, rList, rIxD, nn_none, nn_int, nn_tup, noOwn, wipeD, Slot.addr, truD, List.getElem?_cons_zero, List.getElem?_cons_succ, List.set_cons_zero, List.set_cons_succ, List.map_cons, List.map_nil, List.length_cons, List.length_nil, List.cons_append, List.nil_append, List.replicate, Nat.sub_self, Nat.zero_add, Nat.add_one_sub_one, Nat.reduceAdd, Nat.reduceSub, Nat.succ_sub_succ_eq_sub, Nat.sub_zero, List.all_cons, List.all_nil, Option.isNone_none, Bool.and_self, Bool.and_true, List.reduceReplicate, true_and, and_true, wD, bD, lD, pD, if_true, if_false, Bool.not_true, Bool.not_false, Bool.false_eq_true]
    refine ⟨.int left[a], by rw [atI_nat (by rw [List.length_map]; exact ha), List.getElem?_map, List.getElem?_eq_getElem ha]; rfl, ?_⟩
    rw [cut_to (by rw [List.length_map]; omega), cut_from (by rw [List.length_map]; exact ha)]
    refine ⟨by rw [List.length_map]; unfold sizeLine; omega, ?_⟩
    refine ⟨by rw [List.length_take, List.length_drop, List.length_map]; unfold sizeLine; omega, ?_⟩
    refine hk _ ⟨left.take a ++ left.drop (a + 1), found ++ [left[a]], .sh d, .sh (.int a), ?_, O.step ha, ?_⟩
    · rw [List.length_append, List.length_take, List.length_drop]; omega
    · rw [List.map_append, List.map_append, List.map_take, List.map_drop]; rfl
theorem fn__law_web (T : Top K mg) (F__law_taken : Fn P w K mg base 1 "_law_taken" (spR K 1 sd__law_taken)) (F__law_order : Fn P w K mg base 2 "_law_order" (spR K 1 sd__law_order)) : Fn P w K mg base 3 "_law_web" (spR K 1 sd__law_web) := by
  refine defR (n := 1) T.d__law_web sc__law_web rfl (by decide) (fun f cdv A outer s H E hr => (dss_cons (ds_parSD (i := 2) (j := 3) rfl sc__law_web.nd rfl rfl (by decide) rfl rfl (de_op l_add de_int (dcallR 0 F__law_taken hr (da_cons (dv 1) da_nil))) (by rfl))
  (dss_cons (dset 4 sc__law_web.nd (dcallR 0 F__law_taken hr (da_cons de_int da_nil)))
  (dss_cons (dset 5 sc__law_web.nd (dcallR 0 F__law_order hr (da_cons (dv 2) da_nil)))
  (dss_cons (ds_for PassesOwn.never rfl (di_range2 rfl T.b_range (da_cons de_int (da_cons (dv 2) da_nil))) (dgn 6 sc__law_web.nd)
   (dss_one (ds_if (DW.dt (dw_or (dt_cmp (l_ne hr.units) (dv 4) de_int (nomark _)) (dw_or1 (dt_cmp l_gt (dcallR 0 F__law_taken hr (da_cons de_int da_nil)) de_int (nomark _))))) (dss_cons (by first | exact ds_par (i := 7) (j := 8) rfl sc__law_web.nd rfl rfl (by decide) rfl rfl (de_ix (dv 5) (dv 6) (fun _ _ => rfl)) (de_ix (dv 5) (dcallR 0 F__law_taken hr (da_cons (dv 6) da_nil)) (fun _ _ => rfl)) (by rfl) | exact ds_asg (de_tup (da_cons (de_ix (dv 5) (dv 6) (fun _ _ => rfl)) (da_cons (de_ix (dv 5) (dcallR 0 F__law_taken hr (da_cons (dv 6) da_nil)) (fun _ _ => rfl)) da_nil))) (dg_tup (n := 2) rfl (dgs_cons (dgn 7 sc__law_web.nd) (dgs_cons (dgn 8 sc__law_web.nd) dgs_nil))))
  (dss_one (ds_putT (i := 3) (hu_of hr) rfl (by first | exact Or.inl rfl | exact Or.inr (Or.inl rfl) | exact Or.inr (Or.inr rfl)) (da_cons (de_min2 rfl rfl T.b_min (da_cons (dv 7) (da_cons (dv 8) da_nil))) (da_cons (de_max2 rfl rfl T.b_max (da_cons (dv 7) (da_cons (dv 8) da_nil))) da_nil)) de_bl))) dss_nil)))
  (dss_cons (ds_for PassesOwn.never rfl (di_range1 rfl T.b_range (da_cons (de_if (dt_cmp (l_eq hr.units) (dv 4) de_int (nomark _)) (dcallR 0 F__law_taken hr (da_cons de_int da_nil)) de_int) da_nil)) (dgn 9 sc__law_web.nd)
   (dss_cons (by first | exact ds_par (i := 7) (j := 8) rfl sc__law_web.nd rfl rfl (by decide) rfl rfl (dcallR 0 F__law_taken hr (da_cons (dv 2) da_nil)) (dcallR 0 F__law_taken hr (da_cons (dv 2) da_nil)) (by rfl) | exact ds_asg (de_tup (da_cons (dcallR 0 F__law_taken hr (da_cons (dv 2) da_nil)) (da_cons (dcallR 0 F__law_taken hr (da_cons (dv 2) da_nil)) da_nil))) (dg_tup (n := 2) rfl (dgs_cons (dgn 7 sc__law_web.nd) (dgs_cons (dgn 8 sc__law_web.nd) dgs_nil))))
  (dss_one (ds_if (dt_cmp (l_ne hr.units) (dv 7) (dv 8) (nomark _)) (dss_one (ds_putT (i := 3) (hu_of hr) rfl (by first | exact Or.inl rfl | exact Or.inr (Or.inl rfl) | exact Or.inr (Or.inr rfl)) (da_cons (de_min2 rfl rfl T.b_min (da_cons (dv 7) (da_cons (dv 8) da_nil))) (da_cons (de_max2 rfl rfl T.b_max (da_cons (dv 7) (da_cons (dv 8) da_nil))) da_nil)) de_bl)) dss_nil))))
  (dss_one (ds_ret (de_tup (da_cons (dv 2) (da_cons (de_t1 call_tuple_of l1_tuple rfl T.b_tuple (by decide +kernel) (d1 (DE.lend (DF.de (df_sortKeys (i := 3) rfl rfl (by first | exact Or.inl rfl | exact Or.inr (Or.inl rfl) | exact Or.inr (Or.inr rfl)) rfl T.b_sorted))))) da_nil))))))))))) ?_
  rintro ds q hl ⟨most, rfl, hm1, hm9, hq⟩
  try simp only [tdSeq, tdIfS, tdRet, tdRetN, tdNext, tdNever, tdDrop, tdBreak, tdCont, tdSet, tdOwn, tdAsg, tdAppend, tdExtend, tdPop, tdAug, tdAugSub, tdPar, tdParOO, tdParSO, tdAsgSOS, tdParSD, tdPutT, tdSortKeys, tdFor, tdLc, tdYes, gdName, gdNil, gdCons, gdTup, gdSub, tdSh, tdLent, tdC, td1, td2, tf1, tdB, tdAnd, tdOr, tdNot, tdAndV, tdOrV, tdNotV, tdIf, tdNil, tdCons, tdTup, tdLst, tdChain, tdIxB, tdRep, tdCat, tdCall, tdCallR, tiL, tiT, tiR1, tiR2, rI, rI0, rU, rLen, rInts, rBools, rInt, rTuple, rList, rIxD, nn_none, nn_int, nn_tup, noOwn, wipeD, Slot.addr, truD, List.getElem?_cons_zero, List.getElem?_cons_succ, List.set_cons_zero, List.set_cons_succ, List.map_cons, List.map_nil, List.length_cons, List.length_nil, List.cons_append, List.nil_append, List.replicate, Nat.sub_self, Nat.zero_add, Nat.add_one_sub_one, Nat.reduceAdd, Nat.reduceSub, Nat.succ_sub_succ_eq_sub, Nat.sub_zero, List.all_cons, List.all_nil, Option.isNone_none, Bool.and_self, Bool.and_true, List.reduceReplicate, true_and, and_true, wD, bD, lD, pD, if_true, if_false, Bool.not_true, Bool.not_false, Bool.false_eq_true]
  refine ⟨_, rfl, by omega, by omega, fun n1 hn0 hn1 m hm => ?_⟩
  try simp only [tdSeq, tdIfS, tdRet, tdRetN, tdNext, tdNever, tdDrop, tdBreak, tdCont, tdSet, tdOwn, tdAsg, tdAppend, tdExtend, tdPop, tdAug, tdAugSub, tdPar, tdParOO, tdParSO, tdAsgSOS, tdParSD, tdPutT, tdSortKeys, tdFor, tdLc, tdYes, gdName, gdNil, gdCons, gdTup, gdSub, tdSh, tdLent, tdC, td1, td2, tf1, tdB, tdAnd, tdOr, tdNot, tdAndV, tdOrV, tdNotV, tdIf, tdNil, tdCons, tdTup, tdLst, tdChain, tdIxB, tdRep, tdCat, tdCall, tdCallR, tiL, tiT, tiR1, tiR2, rI, rI0, rU, rLen, rInts, rBools, rInt, rTuple, rList, rIxD, nn_none, nn_int, nn_tup, noOwn, wipeD, Slot.addr, truD, List.getElem?_cons_zero, List.getElem?_cons_succ, List.set_cons_zero, List.set_cons_succ, List.map_cons, List.map_nil, List.length_cons, List.length_nil, List.cons_append, List.nil_append, List.replicate, Nat.sub_self, Nat.zero_add, Nat.add_one_sub_one, Nat.reduceAdd, Nat.reduceSub, Nat.succ_sub_succ_eq_sub, Nat.sub_zero, List.all_cons, List.all_nil, Option.isNone_none, Bool.and_self, Bool.and_true, List.reduceReplicate, true_and, and_true, wD, bD, lD, pD, if_true, if_false, Bool.not_true, Bool.not_false, Bool.false_eq_true]
  refine ⟨_, rfl, by decide, by decide, fun way hw0 hw1 => ?_⟩
  refine ⟨_, rfl, by omega, by omega, fun names N1 N2 N3 => ?_⟩
  simp only [tdSeq, tdIfS, tdRet, tdRetN, tdNext, tdNever, tdDrop, tdBreak, tdCont, tdSet, tdOwn, tdAsg, tdAppend, tdExtend, tdPop, tdAug, tdAugSub, tdPar, tdParOO, tdParSO, tdAsgSOS, tdParSD, tdPutT, tdSortKeys, tdFor, tdLc, tdYes, gdName, gdNil, gdCons, gdTup, gdSub, tdSh, tdLent, tdC, td1, td2, tf1, tdB, tdAnd, tdOr, tdNot, tdAndV, tdOrV, tdNotV, tdIf, tdNil, tdCons, tdTup, tdLst, tdChain, tdIxB, tdRep, tdCat, tdCall, tdCallR, tiL, tiT, tiR1, tiR2, rI, rI0, rU, rLen, rInts, rBools, rInt, rTuple, rList, rIxD, nn_none, nn_int, nn_tup, noOwn, wipeD, Slot.addr, truD, List.getElem?_cons_zero, List.getElem?_cons_succ, List.set_cons_zero, List.set_cons_succ, List.map_cons, List.map_nil, List.length_cons, List.length_nil, List.cons_append, List.nil_append, List.replicate, Nat.sub_self, Nat.zero_add, Nat.add_one_sub_one, Nat.reduceAdd, Nat.reduceSub, Nat.succ_sub_succ_eq_sub, Nat.sub_zero, List.all_cons, List.all_nil, Option.isNone_none, Bool.and_self, Bool.and_true, List.reduceReplicate, true_and, and_true, wD, bD, lD, pD, if_true, if_false, Bool.not_true, Bool.not_false, Bool.false_eq_true]
  refine ⟨⟨by omega, by omega, by omega, by omega⟩, ?_⟩
  refine wFor_ind (fun ds ρ => ∃ (kvs : List (List Key × PyData)) (x6 x7 x8 x9 : Slot), (∀ d ∈ ds, ∃ k : Int, d = .int k ∧ 1 ≤ k ∧ k < 1 + n1) ∧ DicSt (1 + n1) kvs ∧ ρ = [.row, .sh (.int most), .sh (.int (1 + n1)), .dic m (.T kvs), .sh (.int way), .sh (.list (names.map .int)), x6, x7, x8, x9]) ?_ ?_ _ _ ⟨[], .un, .un, .un, .un, ?_, DicSt.nil _, rfl⟩
  · rintro ρ ⟨kvs, x6, x7, x8, x9, hds, D, rfl⟩
    simp only [tdSeq, tdIfS, tdRet, tdRetN, tdNext, tdNever, tdDrop, tdBreak, tdCont, tdSet, tdOwn, tdAsg, tdAppend, tdExtend, tdPop, tdAug, tdAugSub, tdPar, tdParOO, tdParSO, tdAsgSOS, tdParSD, tdPutT, tdSortKeys, tdFor, tdLc, tdYes, gdName, gdNil, gdCons, gdTup, gdSub, tdSh, tdLent, tdC, td1, td2, tf1, tdB, tdAnd, tdOr, tdNot, tdAndV, tdOrV, tdNotV, tdIf, tdNil, tdCons, tdTup, tdLst, tdChain, tdIxB, tdRep, tdCat, tdCall, tdCallR, tiL, tiT, tiR1, tiR2, rI, rI0, rU, rLen, rInts, rBools, rInt, rTuple, rList, rIxD, nn_none, nn_int, nn_tup, noOwn, wipeD, Slot.addr, truD, List.getElem?_cons_zero, List.getElem?_cons_succ, List.set_cons_zero, List.set_cons_succ, List.map_cons, List.map_nil, List.length_cons, List.length_nil, List.cons_append, List.nil_append, List.replicate, Nat.sub_self, Nat.zero_add, Nat.add_one_sub_one, Nat.reduceAdd, Nat.reduceSub, Nat.succ_sub_succ_eq_sub, Nat.sub_zero, List.all_cons, List.all_nil, Option.isNone_none, Bool.and_self, Bool.and_true, List.reduceReplicate, true_and, and_true, wD, bD, lD, pD, if_true, if_false, Bool.not_true, Bool.not_false, Bool.false_eq_true]
    refine ⟨sh_int _, sh_int _, ?_⟩
    rw [eqv_int]
    by_cases hw : way = 2
    all_goals
      simp only [hw, decide_true, decide_false]
      try simp only [tdSeq, tdIfS, tdRet, tdRetN, tdNext, tdNever, tdDrop, tdBreak, tdCont, tdSet, tdOwn, tdAsg, tdAppend, tdExtend, tdPop, tdAug, tdAugSub, tdPar, tdParOO, tdParSO, tdAsgSOS, tdParSD, tdPutT, tdSortKeys, tdFor, tdLc, tdYes, gdName, gdNil, gdCons, gdTup, gdSub, tdSh, tdLent, tdC, td1, td2, tf1, tdB, tdAnd, tdOr, tdNot, tdAndV, tdOrV, tdNotV, tdIf, tdNil, tdCons, tdTup, tdLst, tdChain, tdIxB, tdRep, tdCat, tdCall, tdCallR, tiL, tiT, tiR1, tiR2, rI, rI0, rU, rLen, rInts, rBools, rInt, rTuple, rList, rIxD, nn_none, nn_int, nn_tup, noOwn, wipeD, Slot.addr, truD, List.getElem?_cons_zero, List.getElem?_cons_succ, List.set_cons_zero, List.set_cons_succ, List.map_cons, List.map_nil, List.length_cons, List.length_nil, List.cons_append, List.nil_append, List.replicate, Nat.sub_self, Nat.zero_add, Nat.add_one_sub_one, Nat.reduceAdd, Nat.reduceSub, Nat.succ_sub_succ_eq_sub, Nat.sub_zero, List.all_cons, List.all_nil, Option.isNone_none, Bool.and_self, Bool.and_true, List.reduceReplicate, true_and, and_true, wD, bD, lD, pD, if_true, if_false, Bool.not_true, Bool.not_false, Bool.false_eq_true]
      first
        | refine ⟨_, rfl, by decide, by decide, fun tt t0 t1 => ⟨⟨by omega, by omega⟩, ?_⟩⟩
        | refine ⟨⟨by decide, by decide⟩, ?_⟩
      refine wFor_ind (fun ds ρ => ∃ (kvs : List (List Key × PyData)) (x4 x6 x7 x8 x9 : Slot), DicSt (1 + n1) kvs ∧ ρ = [.row, .sh (.int most), .sh (.int (1 + n1)), .dic m (.T kvs), x4, .sh (.list (names.map .int)), x6, x7, x8, x9]) ?_ ?_ _ _ ⟨kvs, _, x6, x7, x8, x9, D, rfl⟩
      · rintro ρ ⟨kvs, x4, x6, x7, x8, x9, D, rfl⟩
        obtain ⟨ks, hk, E⟩ := D
        simp only [tdSeq, tdIfS, tdRet, tdRetN, tdNext, tdNever, tdDrop, tdBreak, tdCont, tdSet, tdOwn, tdAsg, tdAppend, tdExtend, tdPop, tdAug, tdAugSub, tdPar, tdParOO, tdParSO, tdAsgSOS, tdParSD, tdPutT, tdSortKeys, tdFor, tdLc, tdYes, gdName, gdNil, gdCons, gdTup, gdSub, tdSh, tdLent, tdC, td1, td2, tf1, tdB, tdAnd, tdOr, tdNot, tdAndV, tdOrV, tdNotV, tdIf, tdNil, tdCons, tdTup, tdLst, tdChain, tdIxB, tdRep, tdCat, tdCall, tdCallR, tiL, tiT, tiR1, tiR2, rI, rI0, rU, rLen, rInts, rBools, rInt, rTuple, rList, rIxD, nn_none, nn_int, nn_tup, noOwn, wipeD, Slot.addr, truD, List.getElem?_cons_zero, List.getElem?_cons_succ, List.set_cons_zero, List.set_cons_succ, List.map_cons, List.map_nil, List.length_cons, List.length_nil, List.cons_append, List.nil_append, List.replicate, Nat.sub_self, Nat.zero_add, Nat.add_one_sub_one, Nat.reduceAdd, Nat.reduceSub, Nat.succ_sub_succ_eq_sub, Nat.sub_zero, List.all_cons, List.all_nil, Option.isNone_none, Bool.and_self, Bool.and_true, List.reduceReplicate, true_and, and_true, wD, bD, lD, pD, if_true, if_false, Bool.not_true, Bool.not_false, Bool.false_eq_true]
        refine ⟨ks, hk, fun ys hp hs => ?_⟩
        exact ⟨by decide, hq _ _ (DicSt.web (kvs := kvs) (by omega) (by omega) E hp hs) (by omega)⟩
      · rintro d ds ρ k ⟨kvs, x4, x6, x7, x8, x9, D, rfl⟩ hk
        simp only [tdSeq, tdIfS, tdRet, tdRetN, tdNext, tdNever, tdDrop, tdBreak, tdCont, tdSet, tdOwn, tdAsg, tdAppend, tdExtend, tdPop, tdAug, tdAugSub, tdPar, tdParOO, tdParSO, tdAsgSOS, tdParSD, tdPutT, tdSortKeys, tdFor, tdLc, tdYes, gdName, gdNil, gdCons, gdTup, gdSub, tdSh, tdLent, tdC, td1, td2, tf1, tdB, tdAnd, tdOr, tdNot, tdAndV, tdOrV, tdNotV, tdIf, tdNil, tdCons, tdTup, tdLst, tdChain, tdIxB, tdRep, tdCat, tdCall, tdCallR, tiL, tiT, tiR1, tiR2, rI, rI0, rU, rLen, rInts, rBools, rInt, rTuple, rList, rIxD, nn_none, nn_int, nn_tup, noOwn, wipeD, Slot.addr, truD, List.getElem?_cons_zero, List.getElem?_cons_succ, List.set_cons_zero, List.set_cons_succ, List.map_cons, List.map_nil, List.length_cons, List.length_nil, List.cons_append, List.nil_append, List.replicate, Nat.sub_self, Nat.zero_add, Nat.add_one_sub_one, Nat.reduceAdd, Nat.reduceSub, Nat.succ_sub_succ_eq_sub, Nat.sub_zero, List.all_cons, List.all_nil, Option.isNone_none, Bool.and_self, Bool.and_true, List.reduceReplicate, true_and, and_true, wD, bD, lD, pD, if_true, if_false, Bool.not_true, Bool.not_false, Bool.false_eq_true]
        refine ⟨_, rfl, by omega, by omega, fun aa a0 a1 => ?_⟩
        refine ⟨_, rfl, by omega, by omega, fun bb b0 b1 => ?_⟩
        simp only [tdSeq, tdIfS, tdRet, tdRetN, tdNext, tdNever, tdDrop, tdBreak, tdCont, tdSet, tdOwn, tdAsg, tdAppend, tdExtend, tdPop, tdAug, tdAugSub, tdPar, tdParOO, tdParSO, tdAsgSOS, tdParSD, tdPutT, tdSortKeys, tdFor, tdLc, tdYes, gdName, gdNil, gdCons, gdTup, gdSub, tdSh, tdLent, tdC, td1, td2, tf1, tdB, tdAnd, tdOr, tdNot, tdAndV, tdOrV, tdNotV, tdIf, tdNil, tdCons, tdTup, tdLst, tdChain, tdIxB, tdRep, tdCat, tdCall, tdCallR, tiL, tiT, tiR1, tiR2, rI, rI0, rU, rLen, rInts, rBools, rInt, rTuple, rList, rIxD, nn_none, nn_int, nn_tup, noOwn, wipeD, Slot.addr, truD, List.getElem?_cons_zero, List.getElem?_cons_succ, List.set_cons_zero, List.set_cons_succ, List.map_cons, List.map_nil, List.length_cons, List.length_nil, List.cons_append, List.nil_append, List.replicate, Nat.sub_self, Nat.zero_add, Nat.add_one_sub_one, Nat.reduceAdd, Nat.reduceSub, Nat.succ_sub_succ_eq_sub, Nat.sub_zero, List.all_cons, List.all_nil, Option.isNone_none, Bool.and_self, Bool.and_true, List.reduceReplicate, true_and, and_true, wD, bD, lD, pD, if_true, if_false, Bool.not_true, Bool.not_false, Bool.false_eq_true]
        refine ⟨sh_int _, sh_int _, ?_⟩
        rw [eqv_int]
        by_cases hab : aa = bb
        · simp only [hab, decide_true]
          simp only [tdSeq, tdIfS, tdRet, tdRetN, tdNext, tdNever, tdDrop, tdBreak, tdCont, tdSet, tdOwn, tdAsg, tdAppend, tdExtend, tdPop, tdAug, tdAugSub, tdPar, tdParOO, tdParSO, tdAsgSOS, tdParSD, tdPutT, tdSortKeys, tdFor, tdLc, tdYes, gdName, gdNil, gdCons, gdTup, gdSub, tdSh, tdLent, tdC, td1, td2, tf1, tdB, tdAnd, tdOr, tdNot, tdAndV, tdOrV, tdNotV, tdIf, tdNil, tdCons, tdTup, tdLst, tdChain, tdIxB, tdRep, tdCat, tdCall, tdCallR, tiL, tiT, tiR1, tiR2, rI, rI0, rU, rLen, rInts, rBools, rInt, rTuple, rList, rIxD, nn_none, nn_int, nn_tup, noOwn, wipeD, Slot.addr, truD, List.getElem?_cons_zero, List.getElem?_cons_succ, List.set_cons_zero, List.set_cons_succ, List.map_cons, List.map_nil, List.length_cons, List.length_nil, List.cons_append, List.nil_append, List.replicate, Nat.sub_self, Nat.zero_add, Nat.add_one_sub_one, Nat.reduceAdd, Nat.reduceSub, Nat.succ_sub_succ_eq_sub, Nat.sub_zero, List.all_cons, List.all_nil, Option.isNone_none, Bool.and_self, Bool.and_true, List.reduceReplicate, true_and, and_true, wD, bD, lD, pD, if_true, if_false, Bool.not_true, Bool.not_false, Bool.false_eq_true]
          exact hk _ ⟨_, _, _, _, _, _, D, rfl⟩
        · simp only [hab, decide_false]
          simp only [tdSeq, tdIfS, tdRet, tdRetN, tdNext, tdNever, tdDrop, tdBreak, tdCont, tdSet, tdOwn, tdAsg, tdAppend, tdExtend, tdPop, tdAug, tdAugSub, tdPar, tdParOO, tdParSO, tdAsgSOS, tdParSD, tdPutT, tdSortKeys, tdFor, tdLc, tdYes, gdName, gdNil, gdCons, gdTup, gdSub, tdSh, tdLent, tdC, td1, td2, tf1, tdB, tdAnd, tdOr, tdNot, tdAndV, tdOrV, tdNotV, tdIf, tdNil, tdCons, tdTup, tdLst, tdChain, tdIxB, tdRep, tdCat, tdCall, tdCallR, tiL, tiT, tiR1, tiR2, rI, rI0, rU, rLen, rInts, rBools, rInt, rTuple, rList, rIxD, nn_none, nn_int, nn_tup, noOwn, wipeD, Slot.addr, truD, List.getElem?_cons_zero, List.getElem?_cons_succ, List.set_cons_zero, List.set_cons_succ, List.map_cons, List.map_nil, List.length_cons, List.length_nil, List.cons_append, List.nil_append, List.replicate, Nat.sub_self, Nat.zero_add, Nat.add_one_sub_one, Nat.reduceAdd, Nat.reduceSub, Nat.succ_sub_succ_eq_sub, Nat.sub_zero, List.all_cons, List.all_nil, Option.isNone_none, Bool.and_self, Bool.and_true, List.reduceReplicate, true_and, and_true, wD, bD, lD, pD, if_true, if_false, Bool.not_true, Bool.not_false, Bool.false_eq_true]
          refine ⟨by decide, pk (_, _), rfl, D.len (by omega), ?_⟩
          exact hk _ ⟨_, _, _, _, _, _, D.put _ (minmax_edge hab ⟨a0, a1⟩ ⟨b0, b1⟩), rfl⟩
  · rintro d ds ρ k ⟨kvs, x6, x7, x8, x9, hds, D, rfl⟩ hk
    obtain ⟨kk, rfl, k1, k2⟩ := hds d List.mem_cons_self
    replace hds : ∀ d ∈ ds, ∃ k : Int, d = .int k ∧ 1 ≤ k ∧ k < 1 + n1 := fun d h => hds d (List.mem_cons_of_mem _ h)
    simp only [tdSeq, tdIfS, tdRet, tdRetN, tdNext, tdNever, tdDrop, tdBreak, tdCont, tdSet, tdOwn, tdAsg, tdAppend, tdExtend, tdPop, tdAug, tdAugSub, tdPar, tdParOO, tdParSO, tdAsgSOS, tdParSD, tdPutT, tdSortKeys, tdFor, tdLc, tdYes, gdName, gdNil, gdCons, gdTup, gdSub, tdSh, tdLent, tdC, td1, td2, tf1, tdB, tdAnd, tdOr, tdNot, tdAndV, tdOrV, tdNotV, tdIf, tdNil, tdCons, tdTup, tdLst, tdChain, tdIxB, tdRep, tdCat, tdCall, tdCallR, tiL, tiT, tiR1, tiR2, rI, rI0, rU, rLen, rInts, rBools, rInt, rTuple, rList, rIxD, nn_none, nn_int, nn_tup, noOwn, wipeD, Slot.addr, truD, List.getElem?_cons_zero, List.getElem?_cons_succ, List.set_cons_zero, List.set_cons_succ, List.map_cons, List.map_nil, List.length_cons, List.length_nil, List.cons_append, List.nil_append, List.replicate, Nat.sub_self, Nat.zero_add, Nat.add_one_sub_one, Nat.reduceAdd, Nat.reduceSub, Nat.succ_sub_succ_eq_sub, Nat.sub_zero, List.all_cons, List.all_nil, Option.isNone_none, Bool.and_self, Bool.and_true, List.reduceReplicate, true_and, and_true, wD, bD, lD, pD, if_true, if_false, Bool.not_true, Bool.not_false, Bool.false_eq_true]
    refine ⟨sh_int _, sh_int _, ?_⟩
    rw [eqv_int]
    by_cases hw : way = 3
    · simp only [hw, decide_true]
      simp only [tdSeq, tdIfS, tdRet, tdRetN, tdNext, tdNever, tdDrop, tdBreak, tdCont, tdSet, tdOwn, tdAsg, tdAppend, tdExtend, tdPop, tdAug, tdAugSub, tdPar, tdParOO, tdParSO, tdAsgSOS, tdParSD, tdPutT, tdSortKeys, tdFor, tdLc, tdYes, gdName, gdNil, gdCons, gdTup, gdSub, tdSh, tdLent, tdC, td1, td2, tf1, tdB, tdAnd, tdOr, tdNot, tdAndV, tdOrV, tdNotV, tdIf, tdNil, tdCons, tdTup, tdLst, tdChain, tdIxB, tdRep, tdCat, tdCall, tdCallR, tiL, tiT, tiR1, tiR2, rI, rI0, rU, rLen, rInts, rBools, rInt, rTuple, rList, rIxD, nn_none, nn_int, nn_tup, noOwn, wipeD, Slot.addr, truD, List.getElem?_cons_zero, List.getElem?_cons_succ, List.set_cons_zero, List.set_cons_succ, List.map_cons, List.map_nil, List.length_cons, List.length_nil, List.cons_append, List.nil_append, List.replicate, Nat.sub_self, Nat.zero_add, Nat.add_one_sub_one, Nat.reduceAdd, Nat.reduceSub, Nat.succ_sub_succ_eq_sub, Nat.sub_zero, List.all_cons, List.all_nil, Option.isNone_none, Bool.and_self, Bool.and_true, List.reduceReplicate, true_and, and_true, wD, bD, lD, pD, if_true, if_false, Bool.not_true, Bool.not_false, Bool.false_eq_true]
      refine ⟨_, rfl, by decide, by decide, fun tt t0 t1 => ?_⟩
      simp only [tdSeq, tdIfS, tdRet, tdRetN, tdNext, tdNever, tdDrop, tdBreak, tdCont, tdSet, tdOwn, tdAsg, tdAppend, tdExtend, tdPop, tdAug, tdAugSub, tdPar, tdParOO, tdParSO, tdAsgSOS, tdParSD, tdPutT, tdSortKeys, tdFor, tdLc, tdYes, gdName, gdNil, gdCons, gdTup, gdSub, tdSh, tdLent, tdC, td1, td2, tf1, tdB, tdAnd, tdOr, tdNot, tdAndV, tdOrV, tdNotV, tdIf, tdNil, tdCons, tdTup, tdLst, tdChain, tdIxB, tdRep, tdCat, tdCall, tdCallR, tiL, tiT, tiR1, tiR2, rI, rI0, rU, rLen, rInts, rBools, rInt, rTuple, rList, rIxD, nn_none, nn_int, nn_tup, noOwn, wipeD, Slot.addr, truD, List.getElem?_cons_zero, List.getElem?_cons_succ, List.set_cons_zero, List.set_cons_succ, List.map_cons, List.map_nil, List.length_cons, List.length_nil, List.cons_append, List.nil_append, List.replicate, Nat.sub_self, Nat.zero_add, Nat.add_one_sub_one, Nat.reduceAdd, Nat.reduceSub, Nat.succ_sub_succ_eq_sub, Nat.sub_zero, List.all_cons, List.all_nil, Option.isNone_none, Bool.and_self, Bool.and_true, List.reduceReplicate, true_and, and_true, wD, bD, lD, pD, if_true, if_false, Bool.not_true, Bool.not_false, Bool.false_eq_true]
      by_cases ht : 0 < tt
      · simp only [ht, decide_true, if_true]
        subst hw
        obtain ⟨A, rfl⟩ := Int.eq_ofNat_of_zero_le (show 0 ≤ kk by omega)
        have hA : A < names.length := by omega
        refine ⟨.int names[A], by rw [atI_nat (by rw [List.length_map]; exact hA), List.getElem?_map, List.getElem?_eq_getElem hA]; rfl, ?_⟩
        refine ⟨_, rfl, by omega, by omega, fun bb b0 b1 => ?_⟩
        obtain ⟨B, rfl⟩ := Int.eq_ofNat_of_zero_le b0
        have hB : B < names.length := by omega
        refine ⟨.int names[B], by rw [atI_nat (by rw [List.length_map]; exact hB), List.getElem?_map, List.getElem?_eq_getElem hB]; rfl, ?_⟩
        have hab : names[A] ≠ names[B] := fun e => by
          have := (List.getElem_inj N1).mp e
          omega
        simp only [tdSeq, tdIfS, tdRet, tdRetN, tdNext, tdNever, tdDrop, tdBreak, tdCont, tdSet, tdOwn, tdAsg, tdAppend, tdExtend, tdPop, tdAug, tdAugSub, tdPar, tdParOO, tdParSO, tdAsgSOS, tdParSD, tdPutT, tdSortKeys, tdFor, tdLc, tdYes, gdName, gdNil, gdCons, gdTup, gdSub, tdSh, tdLent, tdC, td1, td2, tf1, tdB, tdAnd, tdOr, tdNot, tdAndV, tdOrV, tdNotV, tdIf, tdNil, tdCons, tdTup, tdLst, tdChain, tdIxB, tdRep, tdCat, tdCall, tdCallR, tiL, tiT, tiR1, tiR2, rI, rI0, rU, rLen, rInts, rBools, rInt, rTuple, rList, rIxD, nn_none, nn_int, nn_tup, noOwn, wipeD, Slot.addr, truD, List.getElem?_cons_zero, List.getElem?_cons_succ, List.set_cons_zero, List.set_cons_succ, List.map_cons, List.map_nil, List.length_cons, List.length_nil, List.cons_append, List.nil_append, List.replicate, Nat.sub_self, Nat.zero_add, Nat.add_one_sub_one, Nat.reduceAdd, Nat.reduceSub, Nat.succ_sub_succ_eq_sub, Nat.sub_zero, List.all_cons, List.all_nil, Option.isNone_none, Bool.and_self, Bool.and_true, List.reduceReplicate, true_and, and_true, wD, bD, lD, pD, if_true, if_false, Bool.not_true, Bool.not_false, Bool.false_eq_true]
        refine ⟨by decide, pk (_, _), rfl, D.len (by omega), ?_⟩
        exact hk _ ⟨_, _, _, _, _, hds, D.put _ (minmax_edge hab (N3 _ (List.getElem_mem hA)) (N3 _ (List.getElem_mem hB))), rfl⟩
      · simp only [ht, decide_false]
        simp only [tdSeq, tdIfS, tdRet, tdRetN, tdNext, tdNever, tdDrop, tdBreak, tdCont, tdSet, tdOwn, tdAsg, tdAppend, tdExtend, tdPop, tdAug, tdAugSub, tdPar, tdParOO, tdParSO, tdAsgSOS, tdParSD, tdPutT, tdSortKeys, tdFor, tdLc, tdYes, gdName, gdNil, gdCons, gdTup, gdSub, tdSh, tdLent, tdC, td1, td2, tf1, tdB, tdAnd, tdOr, tdNot, tdAndV, tdOrV, tdNotV, tdIf, tdNil, tdCons, tdTup, tdLst, tdChain, tdIxB, tdRep, tdCat, tdCall, tdCallR, tiL, tiT, tiR1, tiR2, rI, rI0, rU, rLen, rInts, rBools, rInt, rTuple, rList, rIxD, nn_none, nn_int, nn_tup, noOwn, wipeD, Slot.addr, truD, List.getElem?_cons_zero, List.getElem?_cons_succ, List.set_cons_zero, List.set_cons_succ, List.map_cons, List.map_nil, List.length_cons, List.length_nil, List.cons_append, List.nil_append, List.replicate, Nat.sub_self, Nat.zero_add, Nat.add_one_sub_one, Nat.reduceAdd, Nat.reduceSub, Nat.succ_sub_succ_eq_sub, Nat.sub_zero, List.all_cons, List.all_nil, Option.isNone_none, Bool.and_self, Bool.and_true, List.reduceReplicate, true_and, and_true, wD, bD, lD, pD, if_true, if_false, Bool.not_true, Bool.not_false, Bool.false_eq_true]
        subst hw
        exact hk _ ⟨_, _, _, _, _, hds, D, rfl⟩
    · simp only [hw, decide_false]
      simp only [tdSeq, tdIfS, tdRet, tdRetN, tdNext, tdNever, tdDrop, tdBreak, tdCont, tdSet, tdOwn, tdAsg, tdAppend, tdExtend, tdPop, tdAug, tdAugSub, tdPar, tdParOO, tdParSO, tdAsgSOS, tdParSD, tdPutT, tdSortKeys, tdFor, tdLc, tdYes, gdName, gdNil, gdCons, gdTup, gdSub, tdSh, tdLent, tdC, td1, td2, tf1, tdB, tdAnd, tdOr, tdNot, tdAndV, tdOrV, tdNotV, tdIf, tdNil, tdCons, tdTup, tdLst, tdChain, tdIxB, tdRep, tdCat, tdCall, tdCallR, tiL, tiT, tiR1, tiR2, rI, rI0, rU, rLen, rInts, rBools, rInt, rTuple, rList, rIxD, nn_none, nn_int, nn_tup, noOwn, wipeD, Slot.addr, truD, List.getElem?_cons_zero, List.getElem?_cons_succ, List.set_cons_zero, List.set_cons_succ, List.map_cons, List.map_nil, List.length_cons, List.length_nil, List.cons_append, List.nil_append, List.replicate, Nat.sub_self, Nat.zero_add, Nat.add_one_sub_one, Nat.reduceAdd, Nat.reduceSub, Nat.succ_sub_succ_eq_sub, Nat.sub_zero, List.all_cons, List.all_nil, Option.isNone_none, Bool.and_self, Bool.and_true, List.reduceReplicate, true_and, and_true, wD, bD, lD, pD, if_true, if_false, Bool.not_true, Bool.not_false, Bool.false_eq_true]
      obtain ⟨A, rfl⟩ := Int.eq_ofNat_of_zero_le (show 0 ≤ kk by omega)
      have hA : A < names.length := by omega
      refine ⟨.int names[A], by rw [atI_nat (by rw [List.length_map]; exact hA), List.getElem?_map, List.getElem?_eq_getElem hA]; rfl, ?_⟩
      refine ⟨_, rfl, by omega, by omega, fun bb b0 b1 => ?_⟩
      obtain ⟨B, rfl⟩ := Int.eq_ofNat_of_zero_le b0
      have hB : B < names.length := by omega
      refine ⟨.int names[B], by rw [atI_nat (by rw [List.length_map]; exact hB), List.getElem?_map, List.getElem?_eq_getElem hB]; rfl, ?_⟩
      have hab : names[A] ≠ names[B] := fun e => by
        have := (List.getElem_inj N1).mp e
        omega
      simp only [tdSeq, tdIfS, tdRet, tdRetN, tdNext, tdNever, tdDrop, tdBreak, tdCont, tdSet, tdOwn, tdAsg, tdAppend, tdExtend, tdPop, tdAug, tdAugSub, tdPar, tdParOO, tdParSO, tdAsgSOS, tdParSD, tdPutT, tdSortKeys, tdFor, tdLc, tdYes, gdName, gdNil, gdCons, gdTup, gdSub, tdSh, tdLent, tdC, td1, td2, tf1, tdB, tdAnd, tdOr, tdNot, tdAndV, tdOrV, tdNotV, tdIf, tdNil, tdCons, tdTup, tdLst, tdChain, tdIxB, tdRep, tdCat, tdCall, tdCallR, tiL, tiT, tiR1, tiR2, rI, rI0, rU, rLen, rInts, rBools, rInt, rTuple, rList, rIxD, nn_none, nn_int, nn_tup, noOwn, wipeD, Slot.addr, truD, List.getElem?_cons_zero, List.getElem?_cons_succ, List.set_cons_zero, List.set_cons_succ, List.map_cons, List.map_nil, List.length_cons, List.length_nil, List.cons_append, List.nil_append, List.replicate, Nat.sub_self, Nat.zero_add, Nat.add_one_sub_one, Nat.reduceAdd, Nat.reduceSub, Nat.succ_sub_succ_eq_sub, Nat.sub_zero, List.all_cons, List.all_nil, Option.isNone_none, Bool.and_self, Bool.and_true, List.reduceReplicate, true_and, and_true, wD, bD, lD, pD, if_true, if_false, Bool.not_true, Bool.not_false, Bool.false_eq_true]
      refine ⟨by decide, pk (_, _), rfl, D.len (by omega), ?_⟩
      exact hk _ ⟨_, _, _, _, _, hds, D.put _ (minmax_edge hab (N3 _ (List.getElem_mem hA)) (N3 _ (List.getElem_mem hB))), rfl⟩
  · intro d hd
    unfold rangeD at hd
    obtain ⟨j, hj, rfl⟩ := List.mem_map.mp hd
    have := List.mem_range.mp hj
    exact ⟨_, rfl, by omega, by omega⟩
theorem fn__law_near (T : Top K mg) : Fn P w K mg base 1 "_law_near" (spD K 1 sd__law_near) := by
  refine defD T.d__law_near sc__law_near (by decide) (fun f cdv A outer s H E hr => (dss_one (ds_ret (DF.de (df_lc (own := [("k", 3)]) rfl sc__law_near.nd (di_range1 rfl T.b_range (da_cons (de_ix (dv 0) de_int (fun _ _ => rfl)) da_nil)) (blkOk_by (N := ["web", "a", "b", "k"]) (sc := defScope s__law_near) (by decide +kernel)) (fun _ _ _ _ _ => (dgn 3 sc__law_near.nd)) (fun _ _ _ _ _ => dts_nil) (fun _ _ _ _ _ => (DF.de (df_lc (own := [("a", 1), ("b", 2)]) rfl sc__law_near.nd (di_tup (de_ix (dv 0) de_int (fun _ _ => rfl))) (blkOk_by (N := ["web", "a", "b", "k"]) (sc := relS _ (defScope s__law_near)) (by decide +kernel)) (fun _ _ _ _ _ => (dg_tup (n := 2) rfl (dgs_cons (dgn 1 sc__law_near.nd) (dgs_cons (dgn 2 sc__law_near.nd) dgs_nil)))) (fun _ _ _ _ _ => (dts_one (dt_cmp l_in (dv 3) (DF.de (df_lst (da_cons (dv 1) (da_cons (dv 2) da_nil)))) (by rfl)))) (fun _ _ _ _ _ => (de_op l_sub (de_op l_add (dv 1) (dv 2)) (dv 3))))))))))) ?_
  rintro ds q hl ⟨n, es, rfl, W, hq⟩
  have hlo := W.lo
  have hhi := W.hi
  simp only [tdSeq, tdIfS, tdRet, tdRetN, tdNext, tdNever, tdDrop, tdBreak, tdCont, tdSet, tdOwn, tdAsg, tdAppend, tdExtend, tdPop, tdAug, tdAugSub, tdPar, tdParOO, tdParSO, tdAsgSOS, tdParSD, tdPutT, tdSortKeys, tdFor, tdLc, tdYes, gdName, gdNil, gdCons, gdTup, gdSub, tdSh, tdLent, tdC, td1, td2, tf1, tdB, tdAnd, tdOr, tdNot, tdAndV, tdOrV, tdNotV, tdIf, tdNil, tdCons, tdTup, tdLst, tdChain, tdIxB, tdRep, tdCat, tdCall, tdCallR, tiL, tiT, tiR1, tiR2, rI, rI0, rU, rLen, rInts, rBools, rInt, rTuple, rList, rIxD, nn_none, nn_int, nn_tup, noOwn, wipeD, Slot.addr, truD, List.getElem?_cons_zero, List.getElem?_cons_succ, List.set_cons_zero, List.set_cons_succ, List.map_cons, List.map_nil, List.length_cons, List.length_nil, List.cons_append, List.nil_append, List.replicate, Nat.sub_self, Nat.zero_add, Nat.add_one_sub_one, Nat.reduceAdd, Nat.reduceSub, Nat.succ_sub_succ_eq_sub, Nat.sub_zero, List.all_cons, List.all_nil, Option.isNone_none, Bool.and_self, Bool.and_true, List.reduceReplicate, true_and, and_true, wD, bD, lD, pD, if_true, if_false, Bool.not_true, Bool.not_false, Bool.false_eq_true]
  refine ⟨_, rfl, ?_⟩
  simp only [tdSeq, tdIfS, tdRet, tdRetN, tdNext, tdNever, tdDrop, tdBreak, tdCont, tdSet, tdOwn, tdAsg, tdAppend, tdExtend, tdPop, tdAug, tdAugSub, tdPar, tdParOO, tdParSO, tdAsgSOS, tdParSD, tdPutT, tdSortKeys, tdFor, tdLc, tdYes, gdName, gdNil, gdCons, gdTup, gdSub, tdSh, tdLent, tdC, td1, td2, tf1, tdB, tdAnd, tdOr, tdNot, tdAndV, tdOrV, tdNotV, tdIf, tdNil, tdCons, tdTup, tdLst, tdChain, tdIxB, tdRep, tdCat, tdCall, tdCallR, tiL, tiT, tiR1, tiR2, rI, rI0, rU, rLen, rInts, rBools, rInt, rTuple, rList, rIxD, nn_none, nn_int, nn_tup, noOwn, wipeD, Slot.addr, truD, List.getElem?_cons_zero, List.getElem?_cons_succ, List.set_cons_zero, List.set_cons_succ, List.map_cons, List.map_nil, List.length_cons, List.length_nil, List.cons_append, List.nil_append, List.replicate, Nat.sub_self, Nat.zero_add, Nat.add_one_sub_one, Nat.reduceAdd, Nat.reduceSub, Nat.succ_sub_succ_eq_sub, Nat.sub_zero, List.all_cons, List.all_nil, Option.isNone_none, Bool.and_self, Bool.and_true, List.reduceReplicate, true_and, and_true, wD, bD, lD, pD, if_true, if_false, Bool.not_true, Bool.not_false, Bool.false_eq_true]
  refine ⟨⟨by omega, by omega⟩, ?_⟩
  refine wLc_map (fun (j : Nat) => .int (0 + (j : Int))) (fun _ => true) (fun (k : Nat) => .list ((nbr es k).map .int)) (List.range n.toNat) (by rw [List.length_range]; unfold sizeLine; omega) ?_ ?_
  · intro j hj k1 k2 hk1 hk2
    rw [Int.zero_add]
    simp only [tdSeq, tdIfS, tdRet, tdRetN, tdNext, tdNever, tdDrop, tdBreak, tdCont, tdSet, tdOwn, tdAsg, tdAppend, tdExtend, tdPop, tdAug, tdAugSub, tdPar, tdParOO, tdParSO, tdAsgSOS, tdParSD, tdPutT, tdSortKeys, tdFor, tdLc, tdYes, gdName, gdNil, gdCons, gdTup, gdSub, tdSh, tdLent, tdC, td1, td2, tf1, tdB, tdAnd, tdOr, tdNot, tdAndV, tdOrV, tdNotV, tdIf, tdNil, tdCons, tdTup, tdLst, tdChain, tdIxB, tdRep, tdCat, tdCall, tdCallR, tiL, tiT, tiR1, tiR2, rI, rI0, rU, rLen, rInts, rBools, rInt, rTuple, rList, rIxD, nn_none, nn_int, nn_tup, noOwn, wipeD, Slot.addr, truD, List.getElem?_cons_zero, List.getElem?_cons_succ, List.set_cons_zero, List.set_cons_succ, List.map_cons, List.map_nil, List.length_cons, List.length_nil, List.cons_append, List.nil_append, List.replicate, Nat.sub_self, Nat.zero_add, Nat.add_one_sub_one, Nat.reduceAdd, Nat.reduceSub, Nat.succ_sub_succ_eq_sub, Nat.sub_zero, List.all_cons, List.all_nil, Option.isNone_none, Bool.and_self, Bool.and_true, List.reduceReplicate, true_and, and_true, wD, bD, lD, pD, if_true, if_false, Bool.not_true, Bool.not_false, Bool.false_eq_true]
    refine ⟨_, rfl, ?_⟩
    simp only [tdSeq, tdIfS, tdRet, tdRetN, tdNext, tdNever, tdDrop, tdBreak, tdCont, tdSet, tdOwn, tdAsg, tdAppend, tdExtend, tdPop, tdAug, tdAugSub, tdPar, tdParOO, tdParSO, tdAsgSOS, tdParSD, tdPutT, tdSortKeys, tdFor, tdLc, tdYes, gdName, gdNil, gdCons, gdTup, gdSub, tdSh, tdLent, tdC, td1, td2, tf1, tdB, tdAnd, tdOr, tdNot, tdAndV, tdOrV, tdNotV, tdIf, tdNil, tdCons, tdTup, tdLst, tdChain, tdIxB, tdRep, tdCat, tdCall, tdCallR, tiL, tiT, tiR1, tiR2, rI, rI0, rU, rLen, rInts, rBools, rInt, rTuple, rList, rIxD, nn_none, nn_int, nn_tup, noOwn, wipeD, Slot.addr, truD, List.getElem?_cons_zero, List.getElem?_cons_succ, List.set_cons_zero, List.set_cons_succ, List.map_cons, List.map_nil, List.length_cons, List.length_nil, List.cons_append, List.nil_append, List.replicate, Nat.sub_self, Nat.zero_add, Nat.add_one_sub_one, Nat.reduceAdd, Nat.reduceSub, Nat.succ_sub_succ_eq_sub, Nat.sub_zero, List.all_cons, List.all_nil, Option.isNone_none, Bool.and_self, Bool.and_true, List.reduceReplicate, true_and, and_true, wD, bD, lD, pD, if_true, if_false, Bool.not_true, Bool.not_false, Bool.false_eq_true]
    refine wLc_map pD (fun p => decide ((j : Int) = p.1 ∨ (j : Int) = p.2)) (fun p => .int (p.1 + p.2 - j)) es (by have := W.len; unfold sizeLine; omega) ?_ ?_
    · rintro ⟨a, b⟩ hp k1 k2 hk1 hk2
      simp only [tdSeq, tdIfS, tdRet, tdRetN, tdNext, tdNever, tdDrop, tdBreak, tdCont, tdSet, tdOwn, tdAsg, tdAppend, tdExtend, tdPop, tdAug, tdAugSub, tdPar, tdParOO, tdParSO, tdAsgSOS, tdParSD, tdPutT, tdSortKeys, tdFor, tdLc, tdYes, gdName, gdNil, gdCons, gdTup, gdSub, tdSh, tdLent, tdC, td1, td2, tf1, tdB, tdAnd, tdOr, tdNot, tdAndV, tdOrV, tdNotV, tdIf, tdNil, tdCons, tdTup, tdLst, tdChain, tdIxB, tdRep, tdCat, tdCall, tdCallR, tiL, tiT, tiR1, tiR2, rI, rI0, rU, rLen, rInts, rBools, rInt, rTuple, rList, rIxD, nn_none, nn_int, nn_tup, noOwn, wipeD, Slot.addr, truD, List.getElem?_cons_zero, List.getElem?_cons_succ, List.set_cons_zero, List.set_cons_succ, List.map_cons, List.map_nil, List.length_cons, List.length_nil, List.cons_append, List.nil_append, List.replicate, Nat.sub_self, Nat.zero_add, Nat.add_one_sub_one, Nat.reduceAdd, Nat.reduceSub, Nat.succ_sub_succ_eq_sub, Nat.sub_zero, List.all_cons, List.all_nil, Option.isNone_none, Bool.and_self, Bool.and_true, List.reduceReplicate, true_and, and_true, wD, bD, lD, pD, if_true, if_false, Bool.not_true, Bool.not_false, Bool.false_eq_true]
      refine ⟨by decide, [a, b], rfl, ?_⟩
      have e : [a, b].contains (j : Int) = decide ((j : Int) = a ∨ (j : Int) = b) := by
        apply Bool.eq_iff_iff.mpr
        rw [List.contains_iff_mem, decide_eq_true_eq]
        simp
      rw [e]
      by_cases h : decide ((j : Int) = a ∨ (j : Int) = b) = true
      · rw [if_pos h]; exact hk1 h
      · rw [if_neg h]; exact hk2 (Bool.eq_false_iff.mpr h)
    · have := hk1 rfl
      unfold nbr at this
      rw [List.map_map] at this
      exact this
  · rw [filt_true]
    exact hq
theorem fn__law_laying (T : Top K mg) (F__law_near : Fn P w K mg base 1 "_law_near" (spD K 1 sd__law_near)) : Fn P w K mg base 2 "_law_laying" (spD K 2 sd__law_laying) := by
  refine defD T.d__law_laying sc__law_laying (by decide) (fun f cdv A outer s H E hr => (dss_cons (down 2 sc__law_laying.nd (df_rep (df_lst (da_cons de_int da_nil)) (de_ix (dv 0) de_int (fun _ _ => rfl))))
  (dss_cons (dset 3 sc__law_laying.nd (dcall F__law_near hr (da_cons (dv 0) da_nil)))
  (dss_cons (ds_for PassesOwn.never rfl (di_range1 rfl T.b_range (da_cons (de_ix (dv 0) de_int (fun _ _ => rfl)) da_nil)) (dgn 4 sc__law_laying.nd)
   (dss_cons (dset 5 sc__law_laying.nd (de_ix (dv 1) (de_op l_sub (de_op l_sub (de_ix (dv 0) de_int (fun _ _ => rfl)) de_int) (dv 4)) (fun _ _ => rfl)))
  (dss_cons (dset 6 sc__law_laying.nd (de_sliceT (dv 1) (do_some (de_op l_sub (de_ix (dv 0) de_int (fun _ _ => rfl)) (dv 4))) do_none))
  (dss_cons (ds_asg de_int (dgsub 2 (dv 5)))
  (dss_one (ds_for PassesOwn.never rfl (di_list (de_ix (dv 3) (dv 5) (fun _ _ => rfl))) (dgn 7 sc__law_laying.nd)
   (dss_one (ds_if (dt_cmp l_in (dv 7) (dv 6) (by rfl)) (dss_one (ds_asg (de_op l_sub de_int (de_ixB (dbv 2) (dv 7) (fun _ _ => rfl))) (dgsub 2 (dv 7)))) dss_nil))))))))
  (dss_one (ds_ret (de_t1 call_tuple_of l1_tuple rfl T.b_tuple (by decide +kernel) (d1 (dbv 2))))))))) ?_
  rintro ds q hl ⟨n, es, ks, rfl, W, O, hq⟩
  have hlo := W.lo
  have hhi := W.hi
  have hlen := O.len
  simp only [tdSeq, tdIfS, tdRet, tdRetN, tdNext, tdNever, tdDrop, tdBreak, tdCont, tdSet, tdOwn, tdAsg, tdAppend, tdExtend, tdPop, tdAug, tdAugSub, tdPar, tdParOO, tdParSO, tdAsgSOS, tdParSD, tdPutT, tdSortKeys, tdFor, tdLc, tdYes, gdName, gdNil, gdCons, gdTup, gdSub, tdSh, tdLent, tdC, td1, td2, tf1, tdB, tdAnd, tdOr, tdNot, tdAndV, tdOrV, tdNotV, tdIf, tdNil, tdCons, tdTup, tdLst, tdChain, tdIxB, tdRep, tdCat, tdCall, tdCallR, tiL, tiT, tiR1, tiR2, rI, rI0, rU, rLen, rInts, rBools, rInt, rTuple, rList, rIxD, nn_none, nn_int, nn_tup, noOwn, wipeD, Slot.addr, truD, List.getElem?_cons_zero, List.getElem?_cons_succ, List.set_cons_zero, List.set_cons_succ, List.map_cons, List.map_nil, List.length_cons, List.length_nil, List.cons_append, List.nil_append, List.replicate, Nat.sub_self, Nat.zero_add, Nat.add_one_sub_one, Nat.reduceAdd, Nat.reduceSub, Nat.succ_sub_succ_eq_sub, Nat.sub_zero, List.all_cons, List.all_nil, Option.isNone_none, Bool.and_self, Bool.and_true, List.reduceReplicate, true_and, and_true, wD, bD, lD, pD, if_true, if_false, Bool.not_true, Bool.not_false, Bool.false_eq_true]
  refine ⟨by decide, _, rfl, ?_⟩
  simp only [tdSeq, tdIfS, tdRet, tdRetN, tdNext, tdNever, tdDrop, tdBreak, tdCont, tdSet, tdOwn, tdAsg, tdAppend, tdExtend, tdPop, tdAug, tdAugSub, tdPar, tdParOO, tdParSO, tdAsgSOS, tdParSD, tdPutT, tdSortKeys, tdFor, tdLc, tdYes, gdName, gdNil, gdCons, gdTup, gdSub, tdSh, tdLent, tdC, td1, td2, tf1, tdB, tdAnd, tdOr, tdNot, tdAndV, tdOrV, tdNotV, tdIf, tdNil, tdCons, tdTup, tdLst, tdChain, tdIxB, tdRep, tdCat, tdCall, tdCallR, tiL, tiT, tiR1, tiR2, rI, rI0, rU, rLen, rInts, rBools, rInt, rTuple, rList, rIxD, nn_none, nn_int, nn_tup, noOwn, wipeD, Slot.addr, truD, List.getElem?_cons_zero, List.getElem?_cons_succ, List.set_cons_zero, List.set_cons_succ, List.map_cons, List.map_nil, List.length_cons, List.length_nil, List.cons_append, List.nil_append, List.replicate, Nat.sub_self, Nat.zero_add, Nat.add_one_sub_one, Nat.reduceAdd, Nat.reduceSub, Nat.succ_sub_succ_eq_sub, Nat.sub_zero, List.all_cons, List.all_nil, Option.isNone_none, Bool.and_self, Bool.and_true, List.reduceReplicate, true_and, and_true, wD, bD, lD, pD, if_true, if_false, Bool.not_true, Bool.not_false, Bool.false_eq_true]
  refine ⟨⟨by omega, by omega, by unfold sizeLine; omega⟩, fun a ha => ?_⟩
  refine ⟨_, _, rfl, W, _, rfl, ?_⟩
  simp only [tdSeq, tdIfS, tdRet, tdRetN, tdNext, tdNever, tdDrop, tdBreak, tdCont, tdSet, tdOwn, tdAsg, tdAppend, tdExtend, tdPop, tdAug, tdAugSub, tdPar, tdParOO, tdParSO, tdAsgSOS, tdParSD, tdPutT, tdSortKeys, tdFor, tdLc, tdYes, gdName, gdNil, gdCons, gdTup, gdSub, tdSh, tdLent, tdC, td1, td2, tf1, tdB, tdAnd, tdOr, tdNot, tdAndV, tdOrV, tdNotV, tdIf, tdNil, tdCons, tdTup, tdLst, tdChain, tdIxB, tdRep, tdCat, tdCall, tdCallR, tiL, tiT, tiR1, tiR2, rI, rI0, rU, rLen, rInts, rBools, rInt, rTuple, rList, rIxD, nn_none, nn_int, nn_tup, noOwn, wipeD, Slot.addr, truD, List.getElem?_cons_zero, List.getElem?_cons_succ, List.set_cons_zero, List.set_cons_succ, List.map_cons, List.map_nil, List.length_cons, List.length_nil, List.cons_append, List.nil_append, List.replicate, Nat.sub_self, Nat.zero_add, Nat.add_one_sub_one, Nat.reduceAdd, Nat.reduceSub, Nat.succ_sub_succ_eq_sub, Nat.sub_zero, List.all_cons, List.all_nil, Option.isNone_none, Bool.and_self, Bool.and_true, List.reduceReplicate, true_and, and_true, wD, bD, lD, pD, if_true, if_false, Bool.not_true, Bool.not_false, Bool.false_eq_true]
  refine ⟨⟨by omega, by omega⟩, ?_⟩
  refine wFor_ind (fun ds ρ => ∃ (k : Nat) (x4 x5 x6 x7 : Slot), k ≤ ks.length ∧ ds = (rangeD 0 n.toNat).drop k ∧ ρ = [.sh (wD n es), .sh (.tuple (ks.map .int)), .own a ((bwd n es ks (ks.length - k)).map .int), .sh (.list ((List.range n.toNat).map fun (k : Nat) => .list ((nbr es k).map .int))), x4, x5, x6, x7]) ?_ ?_ _ _ ⟨0, .un, .un, .un, .un, by omega, rfl, ?_⟩
  · rintro ρ ⟨k, x4, x5, x6, x7, hk, hd, rfl⟩
    have h1 := range_end hd
    have : ks.length - k = 0 := by omega
    rw [this, bwd_zero O]
    simp only [tdSeq, tdIfS, tdRet, tdRetN, tdNext, tdNever, tdDrop, tdBreak, tdCont, tdSet, tdOwn, tdAsg, tdAppend, tdExtend, tdPop, tdAug, tdAugSub, tdPar, tdParOO, tdParSO, tdAsgSOS, tdParSD, tdPutT, tdSortKeys, tdFor, tdLc, tdYes, gdName, gdNil, gdCons, gdTup, gdSub, tdSh, tdLent, tdC, td1, td2, tf1, tdB, tdAnd, tdOr, tdNot, tdAndV, tdOrV, tdNotV, tdIf, tdNil, tdCons, tdTup, tdLst, tdChain, tdIxB, tdRep, tdCat, tdCall, tdCallR, tiL, tiT, tiR1, tiR2, rI, rI0, rU, rLen, rInts, rBools, rInt, rTuple, rList, rIxD, nn_none, nn_int, nn_tup, noOwn, wipeD, Slot.addr, truD, List.getElem?_cons_zero, List.getElem?_cons_succ, List.set_cons_zero, List.set_cons_succ, List.map_cons, List.map_nil, List.length_cons, List.length_nil, List.cons_append, List.nil_append, List.replicate, Nat.sub_self, Nat.zero_add, Nat.add_one_sub_one, Nat.reduceAdd, Nat.reduceSub, Nat.succ_sub_succ_eq_sub, Nat.sub_zero, List.all_cons, List.all_nil, Option.isNone_none, Bool.and_self, Bool.and_true, List.reduceReplicate, true_and, and_true, wD, bD, lD, pD, if_true, if_false, Bool.not_true, Bool.not_false, Bool.false_eq_true]
    exact hq
  · rintro d ds ρ k' ⟨k, x4, x5, x6, x7, hk, hd, rfl⟩ hk'
    obtain ⟨hkn, rfl, rfl⟩ := range_step hd
    obtain ⟨A, hA⟩ : ∃ A : Nat, ks.length = A + 1 + k := ⟨ks.length - 1 - k, by omega⟩
    have hAl : A < ks.length := by omega
    obtain ⟨g0, g1⟩ := O.rng _ (List.getElem_mem hAl)
    have e2 : ((ks[A].toNat : Nat) : Int) = ks[A] := by omega
    simp only [tdSeq, tdIfS, tdRet, tdRetN, tdNext, tdNever, tdDrop, tdBreak, tdCont, tdSet, tdOwn, tdAsg, tdAppend, tdExtend, tdPop, tdAug, tdAugSub, tdPar, tdParOO, tdParSO, tdAsgSOS, tdParSD, tdPutT, tdSortKeys, tdFor, tdLc, tdYes, gdName, gdNil, gdCons, gdTup, gdSub, tdSh, tdLent, tdC, td1, td2, tf1, tdB, tdAnd, tdOr, tdNot, tdAndV, tdOrV, tdNotV, tdIf, tdNil, tdCons, tdTup, tdLst, tdChain, tdIxB, tdRep, tdCat, tdCall, tdCallR, tiL, tiT, tiR1, tiR2, rI, rI0, rU, rLen, rInts, rBools, rInt, rTuple, rList, rIxD, nn_none, nn_int, nn_tup, noOwn, wipeD, Slot.addr, truD, List.getElem?_cons_zero, List.getElem?_cons_succ, List.set_cons_zero, List.set_cons_succ, List.map_cons, List.map_nil, List.length_cons, List.length_nil, List.cons_append, List.nil_append, List.replicate, Nat.sub_self, Nat.zero_add, Nat.add_one_sub_one, Nat.reduceAdd, Nat.reduceSub, Nat.succ_sub_succ_eq_sub, Nat.sub_zero, List.all_cons, List.all_nil, Option.isNone_none, Bool.and_self, Bool.and_true, List.reduceReplicate, true_and, and_true, wD, bD, lD, pD, if_true, if_false, Bool.not_true, Bool.not_false, Bool.false_eq_true]
    refine ⟨_, rfl, ?_⟩
    simp only [tdSeq, tdIfS, tdRet, tdRetN, tdNext, tdNever, tdDrop, tdBreak, tdCont, tdSet, tdOwn, tdAsg, tdAppend, tdExtend, tdPop, tdAug, tdAugSub, tdPar, tdParOO, tdParSO, tdAsgSOS, tdParSD, tdPutT, tdSortKeys, tdFor, tdLc, tdYes, gdName, gdNil, gdCons, gdTup, gdSub, tdSh, tdLent, tdC, td1, td2, tf1, tdB, tdAnd, tdOr, tdNot, tdAndV, tdOrV, tdNotV, tdIf, tdNil, tdCons, tdTup, tdLst, tdChain, tdIxB, tdRep, tdCat, tdCall, tdCallR, tiL, tiT, tiR1, tiR2, rI, rI0, rU, rLen, rInts, rBools, rInt, rTuple, rList, rIxD, nn_none, nn_int, nn_tup, noOwn, wipeD, Slot.addr, truD, List.getElem?_cons_zero, List.getElem?_cons_succ, List.set_cons_zero, List.set_cons_succ, List.map_cons, List.map_nil, List.length_cons, List.length_nil, List.cons_append, List.nil_append, List.replicate, Nat.sub_self, Nat.zero_add, Nat.add_one_sub_one, Nat.reduceAdd, Nat.reduceSub, Nat.succ_sub_succ_eq_sub, Nat.sub_zero, List.all_cons, List.all_nil, Option.isNone_none, Bool.and_self, Bool.and_true, List.reduceReplicate, true_and, and_true, wD, bD, lD, pD, if_true, if_false, Bool.not_true, Bool.not_false, Bool.false_eq_true]
    refine ⟨.int ks[A], ?_, ?_⟩
    · rw [show n - 1 - (k : Int) = (A : Int) by omega, atI_nat (by rw [List.length_map]; exact hAl), List.getElem?_map, List.getElem?_eq_getElem hAl]; rfl
    refine ⟨_, rfl, ?_⟩
    simp only [tdSeq, tdIfS, tdRet, tdRetN, tdNext, tdNever, tdDrop, tdBreak, tdCont, tdSet, tdOwn, tdAsg, tdAppend, tdExtend, tdPop, tdAug, tdAugSub, tdPar, tdParOO, tdParSO, tdAsgSOS, tdParSD, tdPutT, tdSortKeys, tdFor, tdLc, tdYes, gdName, gdNil, gdCons, gdTup, gdSub, tdSh, tdLent, tdC, td1, td2, tf1, tdB, tdAnd, tdOr, tdNot, tdAndV, tdOrV, tdNotV, tdIf, tdNil, tdCons, tdTup, tdLst, tdChain, tdIxB, tdRep, tdCat, tdCall, tdCallR, tiL, tiT, tiR1, tiR2, rI, rI0, rU, rLen, rInts, rBools, rInt, rTuple, rList, rIxD, nn_none, nn_int, nn_tup, noOwn, wipeD, Slot.addr, truD, List.getElem?_cons_zero, List.getElem?_cons_succ, List.set_cons_zero, List.set_cons_succ, List.map_cons, List.map_nil, List.length_cons, List.length_nil, List.cons_append, List.nil_append, List.replicate, Nat.sub_self, Nat.zero_add, Nat.add_one_sub_one, Nat.reduceAdd, Nat.reduceSub, Nat.succ_sub_succ_eq_sub, Nat.sub_zero, List.all_cons, List.all_nil, Option.isNone_none, Bool.and_self, Bool.and_true, List.reduceReplicate, true_and, and_true, wD, bD, lD, pD, if_true, if_false, Bool.not_true, Bool.not_false, Bool.false_eq_true]
    rw [show n - (k : Int) = ((A + 1 : Nat) : Int) by omega, cut_tail (by rw [List.length_map]; omega), ← List.map_drop]
    have bl : (bwd n es ks (ks.length - k)).length = n.toNat := by unfold bwd; rw [List.length_map, List.length_range]
    refine ⟨ks[A].toNat, ixN_pos g0 (by rw [List.length_map, bl]; omega), ?_⟩
    refine ⟨.list ((nbr es ks[A]).map .int), ?_, ?_⟩
    · rw [atI_pos g0 (by rw [List.length_map, List.length_range]; omega), List.getElem?_map, List.getElem?_range (by omega)]
      show some (PyData.list ((nbr es ((ks[A].toNat : Nat) : Int)).map .int)) = _
      rw [e2]
    simp only [tdSeq, tdIfS, tdRet, tdRetN, tdNext, tdNever, tdDrop, tdBreak, tdCont, tdSet, tdOwn, tdAsg, tdAppend, tdExtend, tdPop, tdAug, tdAugSub, tdPar, tdParOO, tdParSO, tdAsgSOS, tdParSD, tdPutT, tdSortKeys, tdFor, tdLc, tdYes, gdName, gdNil, gdCons, gdTup, gdSub, tdSh, tdLent, tdC, td1, td2, tf1, tdB, tdAnd, tdOr, tdNot, tdAndV, tdOrV, tdNotV, tdIf, tdNil, tdCons, tdTup, tdLst, tdChain, tdIxB, tdRep, tdCat, tdCall, tdCallR, tiL, tiT, tiR1, tiR2, rI, rI0, rU, rLen, rInts, rBools, rInt, rTuple, rList, rIxD, nn_none, nn_int, nn_tup, noOwn, wipeD, Slot.addr, truD, List.getElem?_cons_zero, List.getElem?_cons_succ, List.set_cons_zero, List.set_cons_succ, List.map_cons, List.map_nil, List.length_cons, List.length_nil, List.cons_append, List.nil_append, List.replicate, Nat.sub_self, Nat.zero_add, Nat.add_one_sub_one, Nat.reduceAdd, Nat.reduceSub, Nat.succ_sub_succ_eq_sub, Nat.sub_zero, List.all_cons, List.all_nil, Option.isNone_none, Bool.and_self, Bool.and_true, List.reduceReplicate, true_and, and_true, wD, bD, lD, pD, if_true, if_false, Bool.not_true, Bool.not_false, Bool.false_eq_true]
    have hb : ∀ y ∈ (bwd n es ks (A + 1)).set ks[A].toNat 1, y = 0 ∨ y = 1 := fun y hy => by
      rcases List.mem_or_eq_of_mem_set hy with h | h
      · unfold bwd at h
        obtain ⟨p, _, rfl⟩ := List.mem_map.mp h
        split
        · exact parC_val (.inr rfl)
        · exact .inl rfl
      · exact .inr h
    rw [show ks.length - k = A + 1 by omega] at bl ⊢
    refine wFor_ind (fun ds ρ => ∃ (rest cur : List Int) (x7 : Slot), ds = rest.map .int ∧ rest.Nodup ∧ (∀ x ∈ rest, 0 ≤ x ∧ x < n) ∧ cur.length = n.toNat ∧ (∀ y ∈ cur, y = 0 ∨ y = 1) ∧ flipL (rest.filter fun x => decide (x ∈ ks.drop (A + 1))) cur = bwd n es ks A ∧ ρ = [.sh (wD n es), .sh (.tuple (ks.map .int)), .own a (cur.map .int), .sh (.list ((List.range n.toNat).map fun (k : Nat) => .list ((nbr es k).map .int))), .sh (.int k), .sh (.int ks[A]), .sh (.tuple ((ks.drop (A + 1)).map .int)), x7]) ?_ ?_ _ _ ⟨nbr es ks[A], (bwd n es ks (A + 1)).set ks[A].toNat 1, x7, rfl, nbr_nodup W _, fun x hx => ?_, by rw [List.length_set, bl], hb, bwd_step W O hAl, by rw [List.map_set]; rfl⟩
    · rintro ρ ⟨rest, cur, x7, hr, _, _, _, _, hf, rfl⟩
      have : rest = [] := by
        cases rest with
        | nil => rfl
        | cons p r => cases hr
      subst this
      rw [List.filter_nil, flipL_nil] at hf
      subst hf
      exact hk' _ ⟨k + 1, _, _, _, x7, by omega, rfl, by rw [show ks.length - (k + 1) = A by omega]⟩
    · rintro d ds ρ kk ⟨rest, cur, x7, hr, nd, rng, cl, cv, hf, rfl⟩ hkk
      cases rest with
      | nil => cases hr
      | cons x rest =>
        obtain ⟨rfl, rfl⟩ := List.cons.inj hr
        obtain ⟨n1, n2⟩ := List.nodup_cons.mp nd
        obtain ⟨x0, x1⟩ := rng x List.mem_cons_self
        have hxl : x.toNat < cur.length := by omega
        have hx := List.getElem?_eq_getElem hxl
        have hv := cv _ (List.getElem_mem hxl)
        simp only [tdSeq, tdIfS, tdRet, tdRetN, tdNext, tdNever, tdDrop, tdBreak, tdCont, tdSet, tdOwn, tdAsg, tdAppend, tdExtend, tdPop, tdAug, tdAugSub, tdPar, tdParOO, tdParSO, tdAsgSOS, tdParSD, tdPutT, tdSortKeys, tdFor, tdLc, tdYes, gdName, gdNil, gdCons, gdTup, gdSub, tdSh, tdLent, tdC, td1, td2, tf1, tdB, tdAnd, tdOr, tdNot, tdAndV, tdOrV, tdNotV, tdIf, tdNil, tdCons, tdTup, tdLst, tdChain, tdIxB, tdRep, tdCat, tdCall, tdCallR, tiL, tiT, tiR1, tiR2, rI, rI0, rU, rLen, rInts, rBools, rInt, rTuple, rList, rIxD, nn_none, nn_int, nn_tup, noOwn, wipeD, Slot.addr, truD, List.getElem?_cons_zero, List.getElem?_cons_succ, List.set_cons_zero, List.set_cons_succ, List.map_cons, List.map_nil, List.length_cons, List.length_nil, List.cons_append, List.nil_append, List.replicate, Nat.sub_self, Nat.zero_add, Nat.add_one_sub_one, Nat.reduceAdd, Nat.reduceSub, Nat.succ_sub_succ_eq_sub, Nat.sub_zero, List.all_cons, List.all_nil, Option.isNone_none, Bool.and_self, Bool.and_true, List.reduceReplicate, true_and, and_true, wD, bD, lD, pD, if_true, if_false, Bool.not_true, Bool.not_false, Bool.false_eq_true]
        refine ⟨_, rfl, ?_⟩
        by_cases hm : x ∈ ks.drop (A + 1)
        · rw [List.contains_iff_mem.mpr hm]
          simp only [tdSeq, tdIfS, tdRet, tdRetN, tdNext, tdNever, tdDrop, tdBreak, tdCont, tdSet, tdOwn, tdAsg, tdAppend, tdExtend, tdPop, tdAug, tdAugSub, tdPar, tdParOO, tdParSO, tdAsgSOS, tdParSD, tdPutT, tdSortKeys, tdFor, tdLc, tdYes, gdName, gdNil, gdCons, gdTup, gdSub, tdSh, tdLent, tdC, td1, td2, tf1, tdB, tdAnd, tdOr, tdNot, tdAndV, tdOrV, tdNotV, tdIf, tdNil, tdCons, tdTup, tdLst, tdChain, tdIxB, tdRep, tdCat, tdCall, tdCallR, tiL, tiT, tiR1, tiR2, rI, rI0, rU, rLen, rInts, rBools, rInt, rTuple, rList, rIxD, nn_none, nn_int, nn_tup, noOwn, wipeD, Slot.addr, truD, List.getElem?_cons_zero, List.getElem?_cons_succ, List.set_cons_zero, List.set_cons_succ, List.map_cons, List.map_nil, List.length_cons, List.length_nil, List.cons_append, List.nil_append, List.replicate, Nat.sub_self, Nat.zero_add, Nat.add_one_sub_one, Nat.reduceAdd, Nat.reduceSub, Nat.succ_sub_succ_eq_sub, Nat.sub_zero, List.all_cons, List.all_nil, Option.isNone_none, Bool.and_self, Bool.and_true, List.reduceReplicate, true_and, and_true, wD, bD, lD, pD, if_true, if_false, Bool.not_true, Bool.not_false, Bool.false_eq_true]
          refine ⟨.int cur[x.toNat], by rw [atI_pos x0 (by rw [List.length_map]; omega), List.getElem?_map, hx]; rfl, ?_⟩
          simp only [tdSeq, tdIfS, tdRet, tdRetN, tdNext, tdNever, tdDrop, tdBreak, tdCont, tdSet, tdOwn, tdAsg, tdAppend, tdExtend, tdPop, tdAug, tdAugSub, tdPar, tdParOO, tdParSO, tdAsgSOS, tdParSD, tdPutT, tdSortKeys, tdFor, tdLc, tdYes, gdName, gdNil, gdCons, gdTup, gdSub, tdSh, tdLent, tdC, td1, td2, tf1, tdB, tdAnd, tdOr, tdNot, tdAndV, tdOrV, tdNotV, tdIf, tdNil, tdCons, tdTup, tdLst, tdChain, tdIxB, tdRep, tdCat, tdCall, tdCallR, tiL, tiT, tiR1, tiR2, rI, rI0, rU, rLen, rInts, rBools, rInt, rTuple, rList, rIxD, nn_none, nn_int, nn_tup, noOwn, wipeD, Slot.addr, truD, List.getElem?_cons_zero, List.getElem?_cons_succ, List.set_cons_zero, List.set_cons_succ, List.map_cons, List.map_nil, List.length_cons, List.length_nil, List.cons_append, List.nil_append, List.replicate, Nat.sub_self, Nat.zero_add, Nat.add_one_sub_one, Nat.reduceAdd, Nat.reduceSub, Nat.succ_sub_succ_eq_sub, Nat.sub_zero, List.all_cons, List.all_nil, Option.isNone_none, Bool.and_self, Bool.and_true, List.reduceReplicate, true_and, and_true, wD, bD, lD, pD, if_true, if_false, Bool.not_true, Bool.not_false, Bool.false_eq_true]
          refine ⟨x.toNat, ixN_pos x0 (by rw [List.length_map]; omega), ?_⟩
          rw [List.filter_cons_of_pos (by simpa using hm)] at hf
          have e : flip1 cur[x.toNat] = 1 - cur[x.toNat] := if_neg (by omega)
          refine hkk _ ⟨rest, cur.set x.toNat (flip1 cur[x.toNat]), .sh (.int x), rfl, n2, fun y hy => rng y (List.mem_cons_of_mem _ hy), by rw [List.length_set]; exact cl, fun y hy => ?_, ?_, by rw [List.map_set, e]; rfl⟩
          · rcases List.mem_or_eq_of_mem_set hy with h | h
            · exact cv y h
            · rw [h, e]; omega
          · rw [flipL_cons x0 (fun z => n1 (List.mem_filter.mp z).1) hx]
            exact hf
        · have : (ks.drop (A + 1)).contains x = false := Bool.eq_false_iff.mpr fun z => hm (List.contains_iff_mem.mp z)
          rw [this]
          simp only [tdSeq, tdIfS, tdRet, tdRetN, tdNext, tdNever, tdDrop, tdBreak, tdCont, tdSet, tdOwn, tdAsg, tdAppend, tdExtend, tdPop, tdAug, tdAugSub, tdPar, tdParOO, tdParSO, tdAsgSOS, tdParSD, tdPutT, tdSortKeys, tdFor, tdLc, tdYes, gdName, gdNil, gdCons, gdTup, gdSub, tdSh, tdLent, tdC, td1, td2, tf1, tdB, tdAnd, tdOr, tdNot, tdAndV, tdOrV, tdNotV, tdIf, tdNil, tdCons, tdTup, tdLst, tdChain, tdIxB, tdRep, tdCat, tdCall, tdCallR, tiL, tiT, tiR1, tiR2, rI, rI0, rU, rLen, rInts, rBools, rInt, rTuple, rList, rIxD, nn_none, nn_int, nn_tup, noOwn, wipeD, Slot.addr, truD, List.getElem?_cons_zero, List.getElem?_cons_succ, List.set_cons_zero, List.set_cons_succ, List.map_cons, List.map_nil, List.length_cons, List.length_nil, List.cons_append, List.nil_append, List.replicate, Nat.sub_self, Nat.zero_add, Nat.add_one_sub_one, Nat.reduceAdd, Nat.reduceSub, Nat.succ_sub_succ_eq_sub, Nat.sub_zero, List.all_cons, List.all_nil, Option.isNone_none, Bool.and_self, Bool.and_true, List.reduceReplicate, true_and, and_true, wD, bD, lD, pD, if_true, if_false, Bool.not_true, Bool.not_false, Bool.false_eq_true]
          rw [List.filter_cons_of_neg (by simpa using hm)] at hf
          exact hkk _ ⟨rest, cur, .sh (.int x), rfl, n2, fun y hy => rng y (List.mem_cons_of_mem _ hy), cl, cv, hf, rfl⟩
    · have := adj_rng W (mem_nbr.mp hx)
      exact ⟨this.1, this.2.1⟩
  · rw [Nat.sub_zero, bwd_end, List.map_replicate]
    have : (List.replicate n.toNat [PyData.int 0]).flatten = List.replicate n.toNat (PyData.int 0) := by
      rw [flat_rep, List.map_replicate]; rfl
    rw [this]
    rfl
theorem fn__law_full (T : Top K mg) (F__law_laying : Fn P w K mg base 2 "_law_laying" (spD K 2 sd__law_laying)) (F__law_taken : Fn P w K mg base 1 "_law_taken" (spR K 1 sd__law_taken)) (F__law_order : Fn P w K mg base 2 "_law_order" (spR K 1 sd__law_order)) : Fn P w K mg base 3 "_law_full" (spR K 1 sd__law_full) := by
  refine defR (n := 1) T.d__law_full sc__law_full rfl (by decide) (fun f cdv A outer s H E hr => (dss_cons (ds_if (dt_cmp (l_eq hr.units) (dcallR 0 F__law_taken hr (da_cons de_int da_nil)) de_int (nomark _)) (dss_one (ds_ret (de_t1 call_tuple_of l1_tuple rfl T.b_tuple (by decide +kernel) (d1 (DE.lend (DF.de (df_lc (own := [("k", 2)]) rfl sc__law_full.nd (di_range1 rfl T.b_range (da_cons (de_ix (dv 1) de_int (fun _ _ => rfl)) da_nil)) (blkOk_by (N := ["row", "web", "k"]) (sc := defScope s__law_full) (by decide +kernel)) (fun _ _ _ _ _ => (dgn 2 sc__law_full.nd)) (fun _ _ _ _ _ => dts_nil) (fun _ _ _ _ _ => (dcallR 0 F__law_taken hr (da_cons de_int da_nil)))))))))) dss_nil)
  (dss_one (ds_ret (dcall F__law_laying hr (da_cons (dv 1) (da_cons (de_t1 call_tuple_of l1_tuple rfl T.b_tuple (by decide +kernel) (d1 (DE.lend (dcallR 0 F__law_order hr (da_cons (de_ix (dv 1) de_int (fun _ _ => rfl)) da_nil))))) da_nil))))))) ?_
  rintro ds q hl ⟨n, es, rfl, W, hq⟩
  have hlo := W.lo
  have hhi := W.hi
  simp only [tdSeq, tdIfS, tdRet, tdRetN, tdNext, tdNever, tdDrop, tdBreak, tdCont, tdSet, tdOwn, tdAsg, tdAppend, tdExtend, tdPop, tdAug, tdAugSub, tdPar, tdParOO, tdParSO, tdAsgSOS, tdParSD, tdPutT, tdSortKeys, tdFor, tdLc, tdYes, gdName, gdNil, gdCons, gdTup, gdSub, tdSh, tdLent, tdC, td1, td2, tf1, tdB, tdAnd, tdOr, tdNot, tdAndV, tdOrV, tdNotV, tdIf, tdNil, tdCons, tdTup, tdLst, tdChain, tdIxB, tdRep, tdCat, tdCall, tdCallR, tiL, tiT, tiR1, tiR2, rI, rI0, rU, rLen, rInts, rBools, rInt, rTuple, rList, rIxD, nn_none, nn_int, nn_tup, noOwn, wipeD, Slot.addr, truD, List.getElem?_cons_zero, List.getElem?_cons_succ, List.set_cons_zero, List.set_cons_succ, List.map_cons, List.map_nil, List.length_cons, List.length_nil, List.cons_append, List.nil_append, List.replicate, Nat.sub_self, Nat.zero_add, Nat.add_one_sub_one, Nat.reduceAdd, Nat.reduceSub, Nat.succ_sub_succ_eq_sub, Nat.sub_zero, List.all_cons, List.all_nil, Option.isNone_none, Bool.and_self, Bool.and_true, List.reduceReplicate, true_and, and_true, wD, bD, lD, pD, if_true, if_false, Bool.not_true, Bool.not_false, Bool.false_eq_true]
  refine ⟨_, rfl, by decide, by decide, fun tt t0 t1 => ?_⟩
  simp only [tdSeq, tdIfS, tdRet, tdRetN, tdNext, tdNever, tdDrop, tdBreak, tdCont, tdSet, tdOwn, tdAsg, tdAppend, tdExtend, tdPop, tdAug, tdAugSub, tdPar, tdParOO, tdParSO, tdAsgSOS, tdParSD, tdPutT, tdSortKeys, tdFor, tdLc, tdYes, gdName, gdNil, gdCons, gdTup, gdSub, tdSh, tdLent, tdC, td1, td2, tf1, tdB, tdAnd, tdOr, tdNot, tdAndV, tdOrV, tdNotV, tdIf, tdNil, tdCons, tdTup, tdLst, tdChain, tdIxB, tdRep, tdCat, tdCall, tdCallR, tiL, tiT, tiR1, tiR2, rI, rI0, rU, rLen, rInts, rBools, rInt, rTuple, rList, rIxD, nn_none, nn_int, nn_tup, noOwn, wipeD, Slot.addr, truD, List.getElem?_cons_zero, List.getElem?_cons_succ, List.set_cons_zero, List.set_cons_succ, List.map_cons, List.map_nil, List.length_cons, List.length_nil, List.cons_append, List.nil_append, List.replicate, Nat.sub_self, Nat.zero_add, Nat.add_one_sub_one, Nat.reduceAdd, Nat.reduceSub, Nat.succ_sub_succ_eq_sub, Nat.sub_zero, List.all_cons, List.all_nil, Option.isNone_none, Bool.and_self, Bool.and_true, List.reduceReplicate, true_and, and_true, wD, bD, lD, pD, if_true, if_false, Bool.not_true, Bool.not_false, Bool.false_eq_true]
  refine ⟨sh_int _, sh_int _, ?_⟩
  rw [eqv_int]
  by_cases ht : tt = 0
  · simp only [ht, decide_true, if_true]
    refine ⟨_, rfl, ?_⟩
    simp only [tdSeq, tdIfS, tdRet, tdRetN, tdNext, tdNever, tdDrop, tdBreak, tdCont, tdSet, tdOwn, tdAsg, tdAppend, tdExtend, tdPop, tdAug, tdAugSub, tdPar, tdParOO, tdParSO, tdAsgSOS, tdParSD, tdPutT, tdSortKeys, tdFor, tdLc, tdYes, gdName, gdNil, gdCons, gdTup, gdSub, tdSh, tdLent, tdC, td1, td2, tf1, tdB, tdAnd, tdOr, tdNot, tdAndV, tdOrV, tdNotV, tdIf, tdNil, tdCons, tdTup, tdLst, tdChain, tdIxB, tdRep, tdCat, tdCall, tdCallR, tiL, tiT, tiR1, tiR2, rI, rI0, rU, rLen, rInts, rBools, rInt, rTuple, rList, rIxD, nn_none, nn_int, nn_tup, noOwn, wipeD, Slot.addr, truD, List.getElem?_cons_zero, List.getElem?_cons_succ, List.set_cons_zero, List.set_cons_succ, List.map_cons, List.map_nil, List.length_cons, List.length_nil, List.cons_append, List.nil_append, List.replicate, Nat.sub_self, Nat.zero_add, Nat.add_one_sub_one, Nat.reduceAdd, Nat.reduceSub, Nat.succ_sub_succ_eq_sub, Nat.sub_zero, List.all_cons, List.all_nil, Option.isNone_none, Bool.and_self, Bool.and_true, List.reduceReplicate, true_and, and_true, wD, bD, lD, pD, if_true, if_false, Bool.not_true, Bool.not_false, Bool.false_eq_true]
    refine ⟨⟨by omega, by omega⟩, ?_⟩
    refine wLc_ind (fun ds acc => acc.length + ds.length = n.toNat ∧ ∃ ls : List Int, acc = ls.map .int ∧ ∀ x ∈ ls, x = 0 ∨ x = 1) ?_ ?_ _ _ ⟨by unfold rangeD; simp, [], rfl, by simp⟩
    · rintro acc ⟨hlen, ls, rfl, hv⟩
      rw [List.length_map, List.length_nil] at hlen
      exact hq ls ⟨by omega, hv⟩
    · rintro d ds acc k ⟨hlen, ls, rfl, hv⟩ hk
      rw [List.length_map, List.length_cons] at hlen
      simp only [tdSeq, tdIfS, tdRet, tdRetN, tdNext, tdNever, tdDrop, tdBreak, tdCont, tdSet, tdOwn, tdAsg, tdAppend, tdExtend, tdPop, tdAug, tdAugSub, tdPar, tdParOO, tdParSO, tdAsgSOS, tdParSD, tdPutT, tdSortKeys, tdFor, tdLc, tdYes, gdName, gdNil, gdCons, gdTup, gdSub, tdSh, tdLent, tdC, td1, td2, tf1, tdB, tdAnd, tdOr, tdNot, tdAndV, tdOrV, tdNotV, tdIf, tdNil, tdCons, tdTup, tdLst, tdChain, tdIxB, tdRep, tdCat, tdCall, tdCallR, tiL, tiT, tiR1, tiR2, rI, rI0, rU, rLen, rInts, rBools, rInt, rTuple, rList, rIxD, nn_none, nn_int, nn_tup, noOwn, wipeD, Slot.addr, truD, List.getElem?_cons_zero, List.getElem?_cons_succ, List.set_cons_zero, List.set_cons_succ, List.map_cons, List.map_nil, List.length_cons, List.length_nil, List.cons_append, List.nil_append, List.replicate, Nat.sub_self, Nat.zero_add, Nat.add_one_sub_one, Nat.reduceAdd, Nat.reduceSub, Nat.succ_sub_succ_eq_sub, Nat.sub_zero, List.all_cons, List.all_nil, Option.isNone_none, Bool.and_self, Bool.and_true, List.reduceReplicate, true_and, and_true, wD, bD, lD, pD, if_true, if_false, Bool.not_true, Bool.not_false, Bool.false_eq_true]
      refine ⟨_, rfl, by decide, by decide, fun y y0 y1 => ?_⟩
      refine ⟨by rw [List.length_map]; unfold sizeLine; omega, hk _ ⟨?_, ls ++ [y], by rw [List.map_append]; rfl, fun z hz => ?_⟩⟩
      · rw [List.length_append, List.length_map, List.length_cons, List.length_nil]; omega
      · rcases List.mem_append.mp hz with h | h
        · exact hv z h
        · have : z = y := by simpa using h
          omega
  · simp only [ht, decide_false]
    simp only [tdSeq, tdIfS, tdRet, tdRetN, tdNext, tdNever, tdDrop, tdBreak, tdCont, tdSet, tdOwn, tdAsg, tdAppend, tdExtend, tdPop, tdAug, tdAugSub, tdPar, tdParOO, tdParSO, tdAsgSOS, tdParSD, tdPutT, tdSortKeys, tdFor, tdLc, tdYes, gdName, gdNil, gdCons, gdTup, gdSub, tdSh, tdLent, tdC, td1, td2, tf1, tdB, tdAnd, tdOr, tdNot, tdAndV, tdOrV, tdNotV, tdIf, tdNil, tdCons, tdTup, tdLst, tdChain, tdIxB, tdRep, tdCat, tdCall, tdCallR, tiL, tiT, tiR1, tiR2, rI, rI0, rU, rLen, rInts, rBools, rInt, rTuple, rList, rIxD, nn_none, nn_int, nn_tup, noOwn, wipeD, Slot.addr, truD, List.getElem?_cons_zero, List.getElem?_cons_succ, List.set_cons_zero, List.set_cons_succ, List.map_cons, List.map_nil, List.length_cons, List.length_nil, List.cons_append, List.nil_append, List.replicate, Nat.sub_self, Nat.zero_add, Nat.add_one_sub_one, Nat.reduceAdd, Nat.reduceSub, Nat.succ_sub_succ_eq_sub, Nat.sub_zero, List.all_cons, List.all_nil, Option.isNone_none, Bool.and_self, Bool.and_true, List.reduceReplicate, true_and, and_true, wD, bD, lD, pD, if_true, if_false, Bool.not_true, Bool.not_false, Bool.false_eq_true]
    refine ⟨_, rfl, ?_⟩
    refine ⟨n, rfl, by omega, by omega, fun ks N1 N2 N3 => ?_⟩
    exact ⟨n, es, ks, rfl, W, ⟨N1, N2, N3⟩, hq _ (layOf_full (by omega) es ks)⟩
theorem fn__law_pick (T : Top K mg) (F__law_taken : Fn P w K mg base 1 "_law_taken" (spR K 1 sd__law_taken)) : Fn P w K mg base 2 "_law_pick" (spR K 1 sd__law_pick) := by
  refine defR (n := 1) T.d__law_pick sc__law_pick rfl (by decide) (fun f cdv A outer s H E hr => (dss_one (ds_ret (de_ix (dv 1) (dcallR 0 F__law_taken hr (da_cons (de_b1 call_len_seq l1_len rfl T.b_len (by decide +kernel) (d1 (dbv 1))) da_nil)) (fun _ _ => rfl))))) ?_
  rintro ds q hl ⟨xs, rfl | rfl, h0, h1, hq⟩
  all_goals
    simp only [tdSeq, tdIfS, tdRet, tdRetN, tdNext, tdNever, tdDrop, tdBreak, tdCont, tdSet, tdOwn, tdAsg, tdAppend, tdExtend, tdPop, tdAug, tdAugSub, tdPar, tdParOO, tdParSO, tdAsgSOS, tdParSD, tdPutT, tdSortKeys, tdFor, tdLc, tdYes, gdName, gdNil, gdCons, gdTup, gdSub, tdSh, tdLent, tdC, td1, td2, tf1, tdB, tdAnd, tdOr, tdNot, tdAndV, tdOrV, tdNotV, tdIf, tdNil, tdCons, tdTup, tdLst, tdChain, tdIxB, tdRep, tdCat, tdCall, tdCallR, tiL, tiT, tiR1, tiR2, rI, rI0, rU, rLen, rInts, rBools, rInt, rTuple, rList, rIxD, nn_none, nn_int, nn_tup, noOwn, wipeD, Slot.addr, truD, List.getElem?_cons_zero, List.getElem?_cons_succ, List.set_cons_zero, List.set_cons_succ, List.map_cons, List.map_nil, List.length_cons, List.length_nil, List.cons_append, List.nil_append, List.replicate, Nat.sub_self, Nat.zero_add, Nat.add_one_sub_one, Nat.reduceAdd, Nat.reduceSub, Nat.succ_sub_succ_eq_sub, Nat.sub_zero, List.all_cons, List.all_nil, Option.isNone_none, Bool.and_self, Bool.and_true, List.reduceReplicate, true_and, and_true, wD, bD, lD, pD, if_true, if_false, Bool.not_true, Bool.not_false, Bool.false_eq_true]
    refine ⟨_, rfl, by omega, by omega, fun k g0 g1 => ?_⟩
    obtain ⟨a, rfl⟩ := Int.eq_ofNat_of_zero_le g0
    have ha : a < xs.length := by omega
    simp only [tdSeq, tdIfS, tdRet, tdRetN, tdNext, tdNever, tdDrop, tdBreak, tdCont, tdSet, tdOwn, tdAsg, tdAppend, tdExtend, tdPop, tdAug, tdAugSub, tdPar, tdParOO, tdParSO, tdAsgSOS, tdParSD, tdPutT, tdSortKeys, tdFor, tdLc, tdYes, gdName, gdNil, gdCons, gdTup, gdSub, tdSh, tdLent, tdC, td1, td2, tf1, tdB, tdAnd, tdOr, tdNot, tdAndV, tdOrV, tdNotV, tdIf, tdNil, tdCons, tdTup, tdLst, tdChain, tdIxB, tdRep, tdCat, tdCall, tdCallR, tiL, tiT, tiR1, tiR2, rI, rI0, rU, rLen, rInts, rBools, rInt, rTuple, rList, rIxD, nn_none, nn_int, nn_tup, noOwn, wipeD, Slot.addr, truD, List.getElem?_cons_zero, List.getElem?_cons_succ, List.set_cons_zero, List.set_cons_succ, List.map_cons, List.map_nil, List.length_cons, List.length_nil, List.cons_append, List.nil_append, List.replicate, Nat.sub_self, Nat.zero_add, Nat.add_one_sub_one, Nat.reduceAdd, Nat.reduceSub, Nat.succ_sub_succ_eq_sub, Nat.sub_zero, List.all_cons, List.all_nil, Option.isNone_none, Bool.and_self, Bool.and_true, List.reduceReplicate, true_and, and_true, wD, bD, lD, pD, if_true, if_false, Bool.not_true, Bool.not_false, Bool.false_eq_true]
    exact ⟨_, by rw [atI_nat ha, List.getElem?_eq_getElem ha], hq _ (List.getElem_mem ha)⟩
theorem fn__law_state (T : Top K mg) (F__law_pick : Fn P w K mg base 2 "_law_pick" (spR K 1 sd__law_pick)) (F__law_taken : Fn P w K mg base 1 "_law_taken" (spR K 1 sd__law_taken)) : Fn P w K mg base 3 "_law_state" (spR K 1 sd__law_state) := by
  refine defR (n := 1) T.d__law_state sc__law_state rfl (by decide) (fun f cdv A outer s H E hr => (dss_cons (dset 2 sc__law_state.nd (dcallR 0 F__law_pick hr (da_cons (DF.de (df_lst (da_cons de_int (da_cons de_int (da_cons de_int da_nil))))) da_nil)))
  (dss_one (ds_ret (de_t1 call_tuple_of l1_tuple rfl T.b_tuple (by decide +kernel) (d1 (DE.lend (DF.de (df_lc (own := [("k", 3)]) rfl sc__law_state.nd (di_range1 rfl T.b_range (da_cons (dv 1) da_nil)) (blkOk_by (N := ["row", "many", "thin", "k"]) (sc := defScope s__law_state) (by decide +kernel)) (fun _ _ _ _ _ => (dgn 3 sc__law_state.nd)) (fun _ _ _ _ _ => (dts_one (dt_cmp (l_eq hr.units) (dcallR 0 F__law_taken hr (da_cons (dv 2) da_nil)) de_int (nomark _)))) (fun _ _ _ _ _ => (dv 3))))))))))) ?_
  rintro ds q hl ⟨n, rfl, h0, h9, hq⟩
  simp only [tdSeq, tdIfS, tdRet, tdRetN, tdNext, tdNever, tdDrop, tdBreak, tdCont, tdSet, tdOwn, tdAsg, tdAppend, tdExtend, tdPop, tdAug, tdAugSub, tdPar, tdParOO, tdParSO, tdAsgSOS, tdParSD, tdPutT, tdSortKeys, tdFor, tdLc, tdYes, gdName, gdNil, gdCons, gdTup, gdSub, tdSh, tdLent, tdC, td1, td2, tf1, tdB, tdAnd, tdOr, tdNot, tdAndV, tdOrV, tdNotV, tdIf, tdNil, tdCons, tdTup, tdLst, tdChain, tdIxB, tdRep, tdCat, tdCall, tdCallR, tiL, tiT, tiR1, tiR2, rI, rI0, rU, rLen, rInts, rBools, rInt, rTuple, rList, rIxD, nn_none, nn_int, nn_tup, noOwn, wipeD, Slot.addr, truD, List.getElem?_cons_zero, List.getElem?_cons_succ, List.set_cons_zero, List.set_cons_succ, List.map_cons, List.map_nil, List.length_cons, List.length_nil, List.cons_append, List.nil_append, List.replicate, Nat.sub_self, Nat.zero_add, Nat.add_one_sub_one, Nat.reduceAdd, Nat.reduceSub, Nat.succ_sub_succ_eq_sub, Nat.sub_zero, List.all_cons, List.all_nil, Option.isNone_none, Bool.and_self, Bool.and_true, List.reduceReplicate, true_and, and_true, wD, bD, lD, pD, if_true, if_false, Bool.not_true, Bool.not_false, Bool.false_eq_true]
  refine ⟨by decide, _, .inl rfl, by decide, by decide, fun th hth => ?_⟩
  obtain ⟨t, rfl, ht⟩ : ∃ t : Int, th = .int t ∧ (t = 2 ∨ t = 4) := by
    simp only [List.mem_cons, List.not_mem_nil, or_false] at hth
    rcases hth with rfl | rfl | rfl
    · exact ⟨2, rfl, .inl rfl⟩
    · exact ⟨2, rfl, .inl rfl⟩
    · exact ⟨4, rfl, .inr rfl⟩
  refine ⟨⟨by omega, by omega⟩, ?_⟩
  refine wLc_ind (fun ds acc => ∃ (i : Nat) (S : List Int), ds = (rangeD 0 n.toNat).drop i ∧ acc = S.map .int ∧ S.Pairwise (· < ·) ∧ S.length ≤ i ∧ ∀ k ∈ S, 0 ≤ k ∧ k < i ∧ k < n) ?_ ?_ _ _ ⟨0, [], rfl, rfl, .nil, by simp, by simp⟩
  · rintro acc ⟨i, S, _, rfl, hS, _, hr⟩
    exact hq S ⟨hS, fun k hk => ⟨(hr k hk).1, (hr k hk).2.2⟩⟩
  · rintro d ds acc k ⟨i, S, hd, rfl, hS, hl, hr⟩ hk
    obtain ⟨hi, rfl, rfl⟩ := range_step hd
    simp only [tdSeq, tdIfS, tdRet, tdRetN, tdNext, tdNever, tdDrop, tdBreak, tdCont, tdSet, tdOwn, tdAsg, tdAppend, tdExtend, tdPop, tdAug, tdAugSub, tdPar, tdParOO, tdParSO, tdAsgSOS, tdParSD, tdPutT, tdSortKeys, tdFor, tdLc, tdYes, gdName, gdNil, gdCons, gdTup, gdSub, tdSh, tdLent, tdC, td1, td2, tf1, tdB, tdAnd, tdOr, tdNot, tdAndV, tdOrV, tdNotV, tdIf, tdNil, tdCons, tdTup, tdLst, tdChain, tdIxB, tdRep, tdCat, tdCall, tdCallR, tiL, tiT, tiR1, tiR2, rI, rI0, rU, rLen, rInts, rBools, rInt, rTuple, rList, rIxD, nn_none, nn_int, nn_tup, noOwn, wipeD, Slot.addr, truD, List.getElem?_cons_zero, List.getElem?_cons_succ, List.set_cons_zero, List.set_cons_succ, List.map_cons, List.map_nil, List.length_cons, List.length_nil, List.cons_append, List.nil_append, List.replicate, Nat.sub_self, Nat.zero_add, Nat.add_one_sub_one, Nat.reduceAdd, Nat.reduceSub, Nat.succ_sub_succ_eq_sub, Nat.sub_zero, List.all_cons, List.all_nil, Option.isNone_none, Bool.and_self, Bool.and_true, List.reduceReplicate, true_and, and_true, wD, bD, lD, pD, if_true, if_false, Bool.not_true, Bool.not_false, Bool.false_eq_true]
    refine ⟨_, rfl, by omega, by omega, fun y y0 y1 => ?_⟩
    simp only [tdSeq, tdIfS, tdRet, tdRetN, tdNext, tdNever, tdDrop, tdBreak, tdCont, tdSet, tdOwn, tdAsg, tdAppend, tdExtend, tdPop, tdAug, tdAugSub, tdPar, tdParOO, tdParSO, tdAsgSOS, tdParSD, tdPutT, tdSortKeys, tdFor, tdLc, tdYes, gdName, gdNil, gdCons, gdTup, gdSub, tdSh, tdLent, tdC, td1, td2, tf1, tdB, tdAnd, tdOr, tdNot, tdAndV, tdOrV, tdNotV, tdIf, tdNil, tdCons, tdTup, tdLst, tdChain, tdIxB, tdRep, tdCat, tdCall, tdCallR, tiL, tiT, tiR1, tiR2, rI, rI0, rU, rLen, rInts, rBools, rInt, rTuple, rList, rIxD, nn_none, nn_int, nn_tup, noOwn, wipeD, Slot.addr, truD, List.getElem?_cons_zero, List.getElem?_cons_succ, List.set_cons_zero, List.set_cons_succ, List.map_cons, List.map_nil, List.length_cons, List.length_nil, List.cons_append, List.nil_append, List.replicate, Nat.sub_self, Nat.zero_add, Nat.add_one_sub_one, Nat.reduceAdd, Nat.reduceSub, Nat.succ_sub_succ_eq_sub, Nat.sub_zero, List.all_cons, List.all_nil, Option.isNone_none, Bool.and_self, Bool.and_true, List.reduceReplicate, true_and, and_true, wD, bD, lD, pD, if_true, if_false, Bool.not_true, Bool.not_false, Bool.false_eq_true]
    refine ⟨sh_int _, sh_int _, ?_⟩
    rw [eqv_int]
    by_cases hy : y = 0
    · rw [decide_eq_true hy]
      simp only [tdSeq, tdIfS, tdRet, tdRetN, tdNext, tdNever, tdDrop, tdBreak, tdCont, tdSet, tdOwn, tdAsg, tdAppend, tdExtend, tdPop, tdAug, tdAugSub, tdPar, tdParOO, tdParSO, tdAsgSOS, tdParSD, tdPutT, tdSortKeys, tdFor, tdLc, tdYes, gdName, gdNil, gdCons, gdTup, gdSub, tdSh, tdLent, tdC, td1, td2, tf1, tdB, tdAnd, tdOr, tdNot, tdAndV, tdOrV, tdNotV, tdIf, tdNil, tdCons, tdTup, tdLst, tdChain, tdIxB, tdRep, tdCat, tdCall, tdCallR, tiL, tiT, tiR1, tiR2, rI, rI0, rU, rLen, rInts, rBools, rInt, rTuple, rList, rIxD, nn_none, nn_int, nn_tup, noOwn, wipeD, Slot.addr, truD, List.getElem?_cons_zero, List.getElem?_cons_succ, List.set_cons_zero, List.set_cons_succ, List.map_cons, List.map_nil, List.length_cons, List.length_nil, List.cons_append, List.nil_append, List.replicate, Nat.sub_self, Nat.zero_add, Nat.add_one_sub_one, Nat.reduceAdd, Nat.reduceSub, Nat.succ_sub_succ_eq_sub, Nat.sub_zero, List.all_cons, List.all_nil, Option.isNone_none, Bool.and_self, Bool.and_true, List.reduceReplicate, true_and, and_true, wD, bD, lD, pD, if_true, if_false, Bool.not_true, Bool.not_false, Bool.false_eq_true]
      refine ⟨by rw [List.length_map]; unfold sizeLine; omega, hk _ ⟨i + 1, S ++ [(i : Int)], rfl, by rw [List.map_append]; rfl, ?_, by rw [List.length_append]; simpa using hl, fun z hz => ?_⟩⟩
      · refine List.pairwise_append.mpr ⟨hS, by simp, fun a ha b hb => ?_⟩
        have : b = i := by simpa using hb
        have := (hr a ha).2.1
        omega
      · rcases List.mem_append.mp hz with h | h
        · have := hr z h; omega
        · have : z = i := by simpa using h
          omega
    · rw [decide_eq_false hy]
      simp only [tdSeq, tdIfS, tdRet, tdRetN, tdNext, tdNever, tdDrop, tdBreak, tdCont, tdSet, tdOwn, tdAsg, tdAppend, tdExtend, tdPop, tdAug, tdAugSub, tdPar, tdParOO, tdParSO, tdAsgSOS, tdParSD, tdPutT, tdSortKeys, tdFor, tdLc, tdYes, gdName, gdNil, gdCons, gdTup, gdSub, tdSh, tdLent, tdC, td1, td2, tf1, tdB, tdAnd, tdOr, tdNot, tdAndV, tdOrV, tdNotV, tdIf, tdNil, tdCons, tdTup, tdLst, tdChain, tdIxB, tdRep, tdCat, tdCall, tdCallR, tiL, tiT, tiR1, tiR2, rI, rI0, rU, rLen, rInts, rBools, rInt, rTuple, rList, rIxD, nn_none, nn_int, nn_tup, noOwn, wipeD, Slot.addr, truD, List.getElem?_cons_zero, List.getElem?_cons_succ, List.set_cons_zero, List.set_cons_succ, List.map_cons, List.map_nil, List.length_cons, List.length_nil, List.cons_append, List.nil_append, List.replicate, Nat.sub_self, Nat.zero_add, Nat.add_one_sub_one, Nat.reduceAdd, Nat.reduceSub, Nat.succ_sub_succ_eq_sub, Nat.sub_zero, List.all_cons, List.all_nil, Option.isNone_none, Bool.and_self, Bool.and_true, List.reduceReplicate, true_and, and_true, wD, bD, lD, pD, if_true, if_false, Bool.not_true, Bool.not_false, Bool.false_eq_true]
      exact hk _ ⟨i + 1, S, rfl, rfl, hS, by omega, fun z hz => by have := hr z hz; omega⟩
set_option maxHeartbeats 0 in
theorem ok_law {f : Addr} {fd : FuncData} (T : Top K mg) (F : Fun K "law" "law" s_law f fd) (F__law_web : Fn P w K mg base 3 "_law_web" (spR K 1 sd__law_web)) (F_steps_between : Fn P w K mg base 7 "steps_between" (spD K 4 sd_steps_between)) (F__law_full : Fn P w K mg base 3 "_law_full" (spR K 1 sd__law_full)) (F__law_state : Fn P w K mg base 3 "_law_state" (spR K 1 sd__law_state)) (F_can_clear : Fn P w K mg base 6 "can_clear" (spD K 2 sd_can_clear)) (F_joined_count : Fn P w K mg base 6 "joined_count" (spD K 3 sd_joined_count)) (F_state_parts : Fn P w K mg base 5 "state_parts" (spD K 2 sd_state_parts)) (F_way_between : Fn P w K mg base 7 "way_between" (spD K 4 sd_way_between)) (F_ways_to : Fn P w K mg base 6 "ways_to" (spD K 3 sd_ways_to)) (F_farthest : Fn P w K mg base 6 "farthest" (spD K 3 sd_farthest)) : FnOk P w K mg base CX0 8 f fd ["script"] (spD K 1 sdLaw) := by
  refine fnL (m := 11) F sc_law rfl rfl (fun cdv A outer s H E hr => ⟨(down 1 sc_law.nd (df_lst (da_cons (dv 0) (da_cons de_int (da_cons de_int (da_cons de_int da_nil)))))), (dss_cons (dset 2 sc_law.nd (dcallR 1 F__law_web hr (da_cons de_int da_nil)))
  (dss_cons (by first | exact ds_par (i := 3) (j := 4) rfl sc_law.nd rfl rfl (by decide) rfl rfl (dcallR 1 F__law_full hr (da_cons (dv 2) da_nil)) (de_ix (dv 2) de_int (fun _ _ => rfl)) (by rfl) | exact ds_asg (de_tup (da_cons (dcallR 1 F__law_full hr (da_cons (dv 2) da_nil)) (da_cons (de_ix (dv 2) de_int (fun _ _ => rfl)) da_nil))) (dg_tup (n := 2) rfl (dgs_cons (dgn 3 sc_law.nd) (dgs_cons (dgn 4 sc_law.nd) dgs_nil))))
  (dss_cons (by first | exact ds_par3 (i := 5) (j := 6) (l := 7) rfl sc_law.nd rfl rfl rfl (by decide) (by decide) (by decide) rfl rfl rfl (dcallR 1 F__law_state hr (da_cons (dv 4) da_nil)) (dcallR 1 F__law_state hr (da_cons (dv 4) da_nil)) (de_tupRg1 rfl rfl T.b_tuple rfl T.b_range (dv 4)) (by rfl) | exact ds_asg (de_tup (da_cons (dcallR 1 F__law_state hr (da_cons (dv 4) da_nil)) (da_cons (dcallR 1 F__law_state hr (da_cons (dv 4) da_nil)) (da_cons (de_tupRg1 rfl rfl T.b_tuple rfl T.b_range (dv 4)) da_nil)))) (dg_tup (n := 3) rfl (dgs_cons (dgn 5 sc_law.nd) (dgs_cons (dgn 6 sc_law.nd) (dgs_cons (dgn 7 sc_law.nd) dgs_nil)))))
  (dss_cons (dset 8 sc_law.nd (dcall F_steps_between hr (da_cons (dv 2) (da_cons (dv 3) (da_cons (dv 5) (da_cons (dv 6) da_nil))))))
  (dss_cons (ds_if (dt_cmp l_notN (dv 8) de_non (nomark _)) (dss_cons (by first | exact ds_par (i := 9) (j := 10) rfl sc_law.nd rfl rfl (by decide) rfl rfl (dcall F_way_between hr (da_cons (dv 2) (da_cons (dv 3) (da_cons (dv 5) (da_cons (dv 6) da_nil))))) (dv 5) (by rfl) | exact ds_asg (de_tup (da_cons (dcall F_way_between hr (da_cons (dv 2) (da_cons (dv 3) (da_cons (dv 5) (da_cons (dv 6) da_nil))))) (da_cons (dv 5) da_nil))) (dg_tup (n := 2) rfl (dgs_cons (dgn 9 sc_law.nd) (dgs_cons (dgn 10 sc_law.nd) dgs_nil))))
  (dss_cons (ds_if (DW.dt (dw_or (dt_cmp (l_ne hr.units) (de_op l_mod (de_t1 call_int1 l1_int rfl T.b_int (by decide +kernel) (d1 (DE.lend (de_op l_sub (de_op l_sub (dv 8) (de_b1 call_len_seq l1_len rfl T.b_len (by decide +kernel) (d1 (dbv 5)))) (de_b1 call_len_seq l1_len rfl T.b_len (by decide +kernel) (d1 (dbv 6))))))) de_int) de_int (nomark _)) (dw_or1 (dt_cmp (l_ne hr.units) (de_b1 call_len_seq l1_len rfl T.b_len (by decide +kernel) (d1 (dbv 9))) (dv 8) (nomark _))))) (dss_one (ds_ret de_bl)) dss_nil)
  (dss_cons (ds_for PassesOwn.never rfl (di_tup (dv 9)) (dgn 11 sc_law.nd)
   (dss_one (dset 10 sc_law.nd (de_t1 call_tuple_of l1_tuple rfl T.b_tuple (by decide +kernel) (d1 (DE.lend (DF.de (df_b1 cr_sortedI lf_sorted rfl T.b_sorted (by decide +kernel) (d1 (DE.lend (de_op l_addL (DF.de (df_lc (own := [("x", 12)]) rfl sc_law.nd (di_tup (dv 10)) (blkOk_by (N := ["script", "row", "web", "laying", "many", "one", "other", "every", "steps", "way", "here", "k", "x"]) (sc := defScope s_law) (by decide +kernel)) (fun _ _ _ _ _ => (dgn 12 sc_law.nd)) (fun _ _ _ _ _ => (dts_one (dt_cmp (l_ne hr.units) (dv 12) (dv 11) (nomark _)))) (fun _ _ _ _ _ => (dv 12)))) (de_if (dt_cmp l_in (dv 11) (dv 10) (by rfl)) (DF.de (df_lst da_nil)) (DF.de (df_lst (da_cons (dv 11) da_nil)))))))))))))))
  (dss_one (ds_if (DW.dt (dw_or (dt_cmp (l_ne hr.units) (dv 10) (dv 6) (nomark _)) (dw_or1 (dt_cmp l_gt (dv 8) (de_ix (dcall F_farthest hr (da_cons (dv 2) (da_cons (dv 3) (da_cons (dv 5) da_nil)))) de_int (fun _ _ => rfl)) (nomark _))))) (dss_one (ds_ret de_bl)) dss_nil))))) dss_nil)
  (dss_cons (ds_if (DW.dt (dw_and (dt_cmp l_gt (dcall F_ways_to hr (da_cons (dv 2) (da_cons (dv 3) (da_cons (dv 6) da_nil)))) de_int (nomark _)) (dw_and1 (dt_cmp (l_ne hr.units) (dcall F_steps_between hr (da_cons (dv 2) (da_cons (dv 3) (da_cons (de_tup da_nil) (da_cons (dv 6) da_nil))))) (de_b1 call_len_seq l1_len rfl T.b_len (by decide +kernel) (d1 (dbv 6))) (nomark _))))) (dss_one (ds_ret de_bl)) dss_nil)
  (dss_cons (ds_if (DW.dt (dw_and (dt_val (dcall F_can_clear hr (da_cons (dv 2) (da_cons (dv 3) da_nil)))) (dw_and1 (dt_cmp (l_ne hr.units) (dcall F_steps_between hr (da_cons (dv 2) (da_cons (dv 3) (da_cons (de_tup da_nil) (da_cons (dv 7) da_nil))))) (dv 4) (nomark _))))) (dss_one (ds_ret de_bl)) dss_nil)
  (dss_one (ds_ret (de_cmp l_in (dcall F_joined_count hr (da_cons (dv 2) (da_cons (dv 3) (da_cons (dv 5) da_nil)))) (dcall F_state_parts hr (da_cons (dv 2) (da_cons (dv 3) da_nil))) (by rfl)))))))))))⟩) ?_
  intro ns hns
  unfold tdOwn
  generalize hL : LawRow ns _ _ = L
  simp only [tdSeq, tdIfS, tdRet, tdRetN, tdNext, tdNever, tdDrop, tdBreak, tdCont, tdSet, tdOwn, tdAsg, tdAppend, tdExtend, tdPop, tdAug, tdAugSub, tdPar, tdParOO, tdParSO, tdAsgSOS, tdParSD, tdPutT, tdSortKeys, tdFor, tdLc, tdYes, gdName, gdNil, gdCons, gdTup, gdSub, tdSh, tdLent, tdC, td1, td2, tf1, tdB, tdAnd, tdOr, tdNot, tdAndV, tdOrV, tdNotV, tdIf, tdNil, tdCons, tdTup, tdLst, tdChain, tdIxB, tdRep, tdCat, tdCall, tdCallR, tiL, tiT, tiR1, tiR2, rI, rI0, rU, rLen, rInts, rBools, rInt, rTuple, rList, rIxD, nn_none, nn_int, nn_tup, noOwn, wipeD, Slot.addr, truD, List.getElem?_cons_zero, List.getElem?_cons_succ, List.set_cons_zero, List.set_cons_succ, List.map_cons, List.map_nil, List.length_cons, List.length_nil, List.cons_append, List.nil_append, List.replicate, Nat.sub_self, Nat.zero_add, Nat.add_one_sub_one, Nat.reduceAdd, Nat.reduceSub, Nat.succ_sub_succ_eq_sub, Nat.sub_zero, List.all_cons, List.all_nil, Option.isNone_none, Bool.and_self, Bool.and_true, List.reduceReplicate, true_and, and_true, wD, bD, lD, pD, if_true, if_false, Bool.not_true, Bool.not_false, Bool.false_eq_true]
  refine ⟨by decide, fun a ha => ?_⟩
  rw [← hL]
  refine ⟨a, 0, 8987, 0, rfl, ⟨by decide, by decide, by decide, by decide⟩, ?_⟩
  refine seqG fun K1 hK1 => ?_
  simp only [tdSeq, tdIfS, tdRet, tdRetN, tdNext, tdNever, tdDrop, tdBreak, tdCont, tdSet, tdOwn, tdAsg, tdAppend, tdExtend, tdPop, tdAug, tdAugSub, tdPar, tdParOO, tdParSO, tdAsgSOS, tdParSD, tdPutT, tdSortKeys, tdFor, tdLc, tdYes, gdName, gdNil, gdCons, gdTup, gdSub, tdSh, tdLent, tdC, td1, td2, tf1, tdB, tdAnd, tdOr, tdNot, tdAndV, tdOrV, tdNotV, tdIf, tdNil, tdCons, tdTup, tdLst, tdChain, tdIxB, tdRep, tdCat, tdCall, tdCallR, tiL, tiT, tiR1, tiR2, rI, rI0, rU, rLen, rInts, rBools, rInt, rTuple, rList, rIxD, nn_none, nn_int, nn_tup, noOwn, wipeD, Slot.addr, truD, List.getElem?_cons_zero, List.getElem?_cons_succ, List.set_cons_zero, List.set_cons_succ, List.map_cons, List.map_nil, List.length_cons, List.length_nil, List.cons_append, List.nil_append, List.replicate, Nat.sub_self, Nat.zero_add, Nat.add_one_sub_one, Nat.reduceAdd, Nat.reduceSub, Nat.succ_sub_succ_eq_sub, Nat.sub_zero, List.all_cons, List.all_nil, Option.isNone_none, Bool.and_self, Bool.and_true, List.reduceReplicate, true_and, and_true, wD, bD, lD, pD, if_true, if_false, Bool.not_true, Bool.not_false, Bool.false_eq_true]
  refine ⟨6, rfl, by decide, by decide, fun n es W h6 => ?_⟩
  have hlo := W.lo
  have hhi := W.hi
  rw [hK1]; clear hK1 K1
  refine seqG fun K1 hK1 => ?_
  simp only [tdSeq, tdIfS, tdRet, tdRetN, tdNext, tdNever, tdDrop, tdBreak, tdCont, tdSet, tdOwn, tdAsg, tdAppend, tdExtend, tdPop, tdAug, tdAugSub, tdPar, tdParOO, tdParSO, tdAsgSOS, tdParSD, tdPutT, tdSortKeys, tdFor, tdLc, tdYes, gdName, gdNil, gdCons, gdTup, gdSub, tdSh, tdLent, tdC, td1, td2, tf1, tdB, tdAnd, tdOr, tdNot, tdAndV, tdOrV, tdNotV, tdIf, tdNil, tdCons, tdTup, tdLst, tdChain, tdIxB, tdRep, tdCat, tdCall, tdCallR, tiL, tiT, tiR1, tiR2, rI, rI0, rU, rLen, rInts, rBools, rInt, rTuple, rList, rIxD, nn_none, nn_int, nn_tup, noOwn, wipeD, Slot.addr, truD, List.getElem?_cons_zero, List.getElem?_cons_succ, List.set_cons_zero, List.set_cons_succ, List.map_cons, List.map_nil, List.length_cons, List.length_nil, List.cons_append, List.nil_append, List.replicate, Nat.sub_self, Nat.zero_add, Nat.add_one_sub_one, Nat.reduceAdd, Nat.reduceSub, Nat.succ_sub_succ_eq_sub, Nat.sub_zero, List.all_cons, List.all_nil, Option.isNone_none, Bool.and_self, Bool.and_true, List.reduceReplicate, true_and, and_true, wD, bD, lD, pD, if_true, if_false, Bool.not_true, Bool.not_false, Bool.false_eq_true]
  refine ⟨n, es, rfl, W, fun ls F => ?_⟩
  try simp only [tdSeq, tdIfS, tdRet, tdRetN, tdNext, tdNever, tdDrop, tdBreak, tdCont, tdSet, tdOwn, tdAsg, tdAppend, tdExtend, tdPop, tdAug, tdAugSub, tdPar, tdParOO, tdParSO, tdAsgSOS, tdParSD, tdPutT, tdSortKeys, tdFor, tdLc, tdYes, gdName, gdNil, gdCons, gdTup, gdSub, tdSh, tdLent, tdC, td1, td2, tf1, tdB, tdAnd, tdOr, tdNot, tdAndV, tdOrV, tdNotV, tdIf, tdNil, tdCons, tdTup, tdLst, tdChain, tdIxB, tdRep, tdCat, tdCall, tdCallR, tiL, tiT, tiR1, tiR2, rI, rI0, rU, rLen, rInts, rBools, rInt, rTuple, rList, rIxD, nn_none, nn_int, nn_tup, noOwn, wipeD, Slot.addr, truD, List.getElem?_cons_zero, List.getElem?_cons_succ, List.set_cons_zero, List.set_cons_succ, List.map_cons, List.map_nil, List.length_cons, List.length_nil, List.cons_append, List.nil_append, List.replicate, Nat.sub_self, Nat.zero_add, Nat.add_one_sub_one, Nat.reduceAdd, Nat.reduceSub, Nat.succ_sub_succ_eq_sub, Nat.sub_zero, List.all_cons, List.all_nil, Option.isNone_none, Bool.and_self, Bool.and_true, List.reduceReplicate, true_and, and_true, wD, bD, lD, pD, if_true, if_false, Bool.not_true, Bool.not_false, Bool.false_eq_true]
  refine ⟨.int n, rfl, ?_⟩
  rw [hK1]; clear hK1 K1
  refine seqG fun K1 hK1 => ?_
  unfold tdPar3
  simp only [tdSeq, tdIfS, tdRet, tdRetN, tdNext, tdNever, tdDrop, tdBreak, tdCont, tdSet, tdOwn, tdAsg, tdAppend, tdExtend, tdPop, tdAug, tdAugSub, tdPar, tdParOO, tdParSO, tdAsgSOS, tdParSD, tdPutT, tdSortKeys, tdFor, tdLc, tdYes, gdName, gdNil, gdCons, gdTup, gdSub, tdSh, tdLent, tdC, td1, td2, tf1, tdB, tdAnd, tdOr, tdNot, tdAndV, tdOrV, tdNotV, tdIf, tdNil, tdCons, tdTup, tdLst, tdChain, tdIxB, tdRep, tdCat, tdCall, tdCallR, tiL, tiT, tiR1, tiR2, rI, rI0, rU, rLen, rInts, rBools, rInt, rTuple, rList, rIxD, nn_none, nn_int, nn_tup, noOwn, wipeD, Slot.addr, truD, List.getElem?_cons_zero, List.getElem?_cons_succ, List.set_cons_zero, List.set_cons_succ, List.map_cons, List.map_nil, List.length_cons, List.length_nil, List.cons_append, List.nil_append, List.replicate, Nat.sub_self, Nat.zero_add, Nat.add_one_sub_one, Nat.reduceAdd, Nat.reduceSub, Nat.succ_sub_succ_eq_sub, Nat.sub_zero, List.all_cons, List.all_nil, Option.isNone_none, Bool.and_self, Bool.and_true, List.reduceReplicate, true_and, and_true, wD, bD, lD, pD, if_true, if_false, Bool.not_true, Bool.not_false, Bool.false_eq_true]
  refine ⟨n, rfl, by omega, hhi, fun S1 O1 => ?_⟩
  obtain ⟨one, ho, rfl⟩ := st_mask hhi O1
  refine ⟨n, rfl, by omega, hhi, fun S2 O2 => ?_⟩
  obtain ⟨oth, hot, rfl⟩ := st_mask hhi O2
  try simp only [tdSeq, tdIfS, tdRet, tdRetN, tdNext, tdNever, tdDrop, tdBreak, tdCont, tdSet, tdOwn, tdAsg, tdAppend, tdExtend, tdPop, tdAug, tdAugSub, tdPar, tdParOO, tdParSO, tdAsgSOS, tdParSD, tdPutT, tdSortKeys, tdFor, tdLc, tdYes, gdName, gdNil, gdCons, gdTup, gdSub, tdSh, tdLent, tdC, td1, td2, tf1, tdB, tdAnd, tdOr, tdNot, tdAndV, tdOrV, tdNotV, tdIf, tdNil, tdCons, tdTup, tdLst, tdChain, tdIxB, tdRep, tdCat, tdCall, tdCallR, tiL, tiT, tiR1, tiR2, rI, rI0, rU, rLen, rInts, rBools, rInt, rTuple, rList, rIxD, nn_none, nn_int, nn_tup, noOwn, wipeD, Slot.addr, truD, List.getElem?_cons_zero, List.getElem?_cons_succ, List.set_cons_zero, List.set_cons_succ, List.map_cons, List.map_nil, List.length_cons, List.length_nil, List.cons_append, List.nil_append, List.replicate, Nat.sub_self, Nat.zero_add, Nat.add_one_sub_one, Nat.reduceAdd, Nat.reduceSub, Nat.succ_sub_succ_eq_sub, Nat.sub_zero, List.all_cons, List.all_nil, Option.isNone_none, Bool.and_self, Bool.and_true, List.reduceReplicate, true_and, and_true, wD, bD, lD, pD, if_true, if_false, Bool.not_true, Bool.not_false, Bool.false_eq_true]
  refine ⟨⟨by omega, by omega⟩, ?_⟩
  have hp : 2 ^ n.toNat ≤ 2 ^ 9 := Nat.pow_le_pow_right (by decide) (by omega)
  have h0 : 0 < 2 ^ n.toNat := Nat.two_pow_pos _
  have hfu : 2 ^ n.toNat - 1 < 2 ^ n.toNat := by omega
  have b0 : bitsOf 0 = [] := bits_zero
  have bf : rangeD 0 n.toNat = (bitsOf (2 ^ n.toNat - 1)).map PyData.int := range_bits _
  rw [hK1]; clear hK1 K1
  refine seqG fun K1 hK1 => ?_
  suffices fin : ∀ d : PyData, (d = .none ∨ ∃ k : Nat, d = .int (k : Int) ∧ DstR (Stp n es ls) one k oth) → K1 [.sh (.list (ns.map .int)), .row, .sh (wD n es), .sh (lD ls), .sh (.int n), .sh (tI (bitsOf one)), .sh (tI (bitsOf oth)), .sh (.tuple (rangeD 0 n.toNat)), .sh d, .un, .un, .un, .un] by
    simp only [tdSeq, tdIfS, tdRet, tdRetN, tdNext, tdNever, tdDrop, tdBreak, tdCont, tdSet, tdOwn, tdAsg, tdAppend, tdExtend, tdPop, tdAug, tdAugSub, tdPar, tdParOO, tdParSO, tdAsgSOS, tdParSD, tdPutT, tdSortKeys, tdFor, tdLc, tdYes, gdName, gdNil, gdCons, gdTup, gdSub, tdSh, tdLent, tdC, td1, td2, tf1, tdB, tdAnd, tdOr, tdNot, tdAndV, tdOrV, tdNotV, tdIf, tdNil, tdCons, tdTup, tdLst, tdChain, tdIxB, tdRep, tdCat, tdCall, tdCallR, tiL, tiT, tiR1, tiR2, rI, rI0, rU, rLen, rInts, rBools, rInt, rTuple, rList, rIxD, nn_none, nn_int, nn_tup, noOwn, wipeD, Slot.addr, truD, List.getElem?_cons_zero, List.getElem?_cons_succ, List.set_cons_zero, List.set_cons_succ, List.map_cons, List.map_nil, List.length_cons, List.length_nil, List.cons_append, List.nil_append, List.replicate, Nat.sub_self, Nat.zero_add, Nat.add_one_sub_one, Nat.reduceAdd, Nat.reduceSub, Nat.succ_sub_succ_eq_sub, Nat.sub_zero, List.all_cons, List.all_nil, Option.isNone_none, Bool.and_self, Bool.and_true, List.reduceReplicate, true_and, and_true, wD, bD, lD, pD, if_true, if_false, Bool.not_true, Bool.not_false, Bool.false_eq_true]
    exact ⟨n, es, ls, one, oth, rfl, W, F, ho, hot, fun k d => fin _ (.inr ⟨k, rfl, d⟩), fun _ => fin _ (.inl rfl)⟩
  intro d hd
  rw [hK1]; clear hK1 K1
  refine seqG fun K1 hK1 => ?_
  suffices fin : ∀ x9 x10 x11 : Slot, K1 [.sh (.list (ns.map .int)), .row, .sh (wD n es), .sh (lD ls), .sh (.int n), .sh (tI (bitsOf one)), .sh (tI (bitsOf oth)), .sh (.tuple (rangeD 0 n.toNat)), .sh d, x9, x10, x11, .un] by
    rcases hd with rfl | ⟨k, rfl, dk⟩
    · simp only [tdSeq, tdIfS, tdRet, tdRetN, tdNext, tdNever, tdDrop, tdBreak, tdCont, tdSet, tdOwn, tdAsg, tdAppend, tdExtend, tdPop, tdAug, tdAugSub, tdPar, tdParOO, tdParSO, tdAsgSOS, tdParSD, tdPutT, tdSortKeys, tdFor, tdLc, tdYes, gdName, gdNil, gdCons, gdTup, gdSub, tdSh, tdLent, tdC, td1, td2, tf1, tdB, tdAnd, tdOr, tdNot, tdAndV, tdOrV, tdNotV, tdIf, tdNil, tdCons, tdTup, tdLst, tdChain, tdIxB, tdRep, tdCat, tdCall, tdCallR, tiL, tiT, tiR1, tiR2, rI, rI0, rU, rLen, rInts, rBools, rInt, rTuple, rList, rIxD, nn_none, nn_int, nn_tup, noOwn, wipeD, Slot.addr, truD, List.getElem?_cons_zero, List.getElem?_cons_succ, List.set_cons_zero, List.set_cons_succ, List.map_cons, List.map_nil, List.length_cons, List.length_nil, List.cons_append, List.nil_append, List.replicate, Nat.sub_self, Nat.zero_add, Nat.add_one_sub_one, Nat.reduceAdd, Nat.reduceSub, Nat.succ_sub_succ_eq_sub, Nat.sub_zero, List.all_cons, List.all_nil, Option.isNone_none, Bool.and_self, Bool.and_true, List.reduceReplicate, true_and, and_true, wD, bD, lD, pD, if_true, if_false, Bool.not_true, Bool.not_false, Bool.false_eq_true]
      exact fin _ _ _
    · simp only [tdSeq, tdIfS, tdRet, tdRetN, tdNext, tdNever, tdDrop, tdBreak, tdCont, tdSet, tdOwn, tdAsg, tdAppend, tdExtend, tdPop, tdAug, tdAugSub, tdPar, tdParOO, tdParSO, tdAsgSOS, tdParSD, tdPutT, tdSortKeys, tdFor, tdLc, tdYes, gdName, gdNil, gdCons, gdTup, gdSub, tdSh, tdLent, tdC, td1, td2, tf1, tdB, tdAnd, tdOr, tdNot, tdAndV, tdOrV, tdNotV, tdIf, tdNil, tdCons, tdTup, tdLst, tdChain, tdIxB, tdRep, tdCat, tdCall, tdCallR, tiL, tiT, tiR1, tiR2, rI, rI0, rU, rLen, rInts, rBools, rInt, rTuple, rList, rIxD, nn_none, nn_int, nn_tup, noOwn, wipeD, Slot.addr, truD, List.getElem?_cons_zero, List.getElem?_cons_succ, List.set_cons_zero, List.set_cons_succ, List.map_cons, List.map_nil, List.length_cons, List.length_nil, List.cons_append, List.nil_append, List.replicate, Nat.sub_self, Nat.zero_add, Nat.add_one_sub_one, Nat.reduceAdd, Nat.reduceSub, Nat.succ_sub_succ_eq_sub, Nat.sub_zero, List.all_cons, List.all_nil, Option.isNone_none, Bool.and_self, Bool.and_true, List.reduceReplicate, true_and, and_true, wD, bD, lD, pD, if_true, if_false, Bool.not_true, Bool.not_false, Bool.false_eq_true]
      refine ⟨n, es, ls, one, oth, rfl, W, F, ho, hot, fun P LP => ?_, fun z => absurd ⟨k, dk.1⟩ z⟩
      have hPk : P.length = k := LP.dst.uniq dk
      obtain ⟨w1, w2⟩ := wlk_len k dk.1
      refine ⟨by decide, sh_int _, sh_int _, ?_⟩
      rw [eqv_int, List.length_map, List.length_map, decide_eq_true (by omega)]
      refine ite_no (by decide) ?_
      try simp only [tdSeq, tdIfS, tdRet, tdRetN, tdNext, tdNever, tdDrop, tdBreak, tdCont, tdSet, tdOwn, tdAsg, tdAppend, tdExtend, tdPop, tdAug, tdAugSub, tdPar, tdParOO, tdParSO, tdAsgSOS, tdParSD, tdPutT, tdSortKeys, tdFor, tdLc, tdYes, gdName, gdNil, gdCons, gdTup, gdSub, tdSh, tdLent, tdC, td1, td2, tf1, tdB, tdAnd, tdOr, tdNot, tdAndV, tdOrV, tdNotV, tdIf, tdNil, tdCons, tdTup, tdLst, tdChain, tdIxB, tdRep, tdCat, tdCall, tdCallR, tiL, tiT, tiR1, tiR2, rI, rI0, rU, rLen, rInts, rBools, rInt, rTuple, rList, rIxD, nn_none, nn_int, nn_tup, noOwn, wipeD, Slot.addr, truD, List.getElem?_cons_zero, List.getElem?_cons_succ, List.set_cons_zero, List.set_cons_succ, List.map_cons, List.map_nil, List.length_cons, List.length_nil, List.cons_append, List.nil_append, List.replicate, Nat.sub_self, Nat.zero_add, Nat.add_one_sub_one, Nat.reduceAdd, Nat.reduceSub, Nat.succ_sub_succ_eq_sub, Nat.sub_zero, List.all_cons, List.all_nil, Option.isNone_none, Bool.and_self, Bool.and_true, List.reduceReplicate, true_and, and_true, wD, bD, lD, pD, if_true, if_false, Bool.not_true, Bool.not_false, Bool.false_eq_true]
      refine ⟨sh_int _, sh_int _, ?_⟩
      rw [eqv_int, List.length_map, decide_eq_true (by omega)]
      refine ite_no (by decide) ?_
      refine wFor_at (fun i ρ => ∃ (s : Nat) (x11 : Slot), PthR n es ls one (P.take i) s ∧ s < 2 ^ n.toNat ∧ ρ = [.sh (.list (ns.map .int)), .row, .sh (wD n es), .sh (lD ls), .sh (.int n), .sh (tI (bitsOf one)), .sh (tI (bitsOf oth)), .sh (.tuple (rangeD 0 n.toNat)), .sh (.int (k : Nat)), .sh (tI P), .sh (tI (bitsOf s)), x11, .un]) _ ?_ ?_ _ ⟨one, .un, by rw [List.take_zero]; rfl, ho, rfl⟩
      · rintro ρ ⟨s, x11, hP, hs, rfl⟩
        rw [List.length_map, List.take_length] at hP
        try simp only [tdSeq, tdIfS, tdRet, tdRetN, tdNext, tdNever, tdDrop, tdBreak, tdCont, tdSet, tdOwn, tdAsg, tdAppend, tdExtend, tdPop, tdAug, tdAugSub, tdPar, tdParOO, tdParSO, tdAsgSOS, tdParSD, tdPutT, tdSortKeys, tdFor, tdLc, tdYes, gdName, gdNil, gdCons, gdTup, gdSub, tdSh, tdLent, tdC, td1, td2, tf1, tdB, tdAnd, tdOr, tdNot, tdAndV, tdOrV, tdNotV, tdIf, tdNil, tdCons, tdTup, tdLst, tdChain, tdIxB, tdRep, tdCat, tdCall, tdCallR, tdNewD, tdDPut, tdDV, tdShD, tiItems, tiKeys, tdSortKD, tdNotMem, tdMemGet, tdMemPut, tdCallM, tdParSSM, tiL, tiT, tiR1, tiR2, rI, rI0, rU, rLen, rInts, rBools, rInt, rTuple, rList, rIxD, nn_none, nn_int, nn_tup, noOwn, wipeD, Slot.addr, truD, List.getElem?_cons_zero, List.getElem?_cons_succ, List.set_cons_zero, List.set_cons_succ, List.map_cons, List.map_nil, List.length_cons, List.length_nil, List.cons_append, List.nil_append, List.replicate, Nat.sub_self, Nat.zero_add, Nat.add_one_sub_one, Nat.reduceAdd, Nat.reduceSub, Nat.succ_sub_succ_eq_sub, Nat.sub_zero, List.all_cons, List.all_nil, Option.isNone_none, Bool.and_self, Bool.and_true, List.reduceReplicate, true_and, and_true, wD, bD, lD, pD, if_true, if_false, Bool.not_true, Bool.not_false, Bool.false_eq_true]
        obtain rfl := pth_uniq _ hP LP.pth
        refine ⟨sh_ints _, sh_ints _, ?_⟩
        refine ite_no (by rw [eqv_tI, decide_eq_true rfl]; decide) ?_
        refine ⟨n, es, ls, one, rfl, W, F, ho, fun m ss _ hm _ _ _ => ?_⟩
        dsimp only
        refine ⟨.int (m : Nat), by show atI _ ((0 : Nat) : Int) = _; rw [atI_nat (by simp)]; rfl, ?_⟩
        dsimp only
        exact ite_no (by rw [decide_eq_true_eq]; have := hm k s dk; omega) (fin _ _ _)
      · rintro i d ρ k2 hd ⟨s, x11, hP, hs, rfl⟩ hk2
        rw [List.getElem?_map] at hd
        obtain ⟨p, hp1, rfl⟩ := Option.map_eq_some_iff.mp hd
        obtain ⟨q0, q1, q2⟩ := pth_at LP.pth hp1 hP
        obtain ⟨p, rfl⟩ := Int.eq_ofNat_of_zero_le q0
        rw [Int.toNat_natCast] at q1 q2
        have hbl := bits_lenn (n := n) hs
        try simp only [tdSeq, tdIfS, tdRet, tdRetN, tdNext, tdNever, tdDrop, tdBreak, tdCont, tdSet, tdOwn, tdAsg, tdAppend, tdExtend, tdPop, tdAug, tdAugSub, tdPar, tdParOO, tdParSO, tdAsgSOS, tdParSD, tdPutT, tdSortKeys, tdFor, tdLc, tdYes, gdName, gdNil, gdCons, gdTup, gdSub, tdSh, tdLent, tdC, td1, td2, tf1, tdB, tdAnd, tdOr, tdNot, tdAndV, tdOrV, tdNotV, tdIf, tdNil, tdCons, tdTup, tdLst, tdChain, tdIxB, tdRep, tdCat, tdCall, tdCallR, tdNewD, tdDPut, tdDV, tdShD, tiItems, tiKeys, tdSortKD, tdNotMem, tdMemGet, tdMemPut, tdCallM, tdParSSM, tiL, tiT, tiR1, tiR2, rI, rI0, rU, rLen, rInts, rBools, rInt, rTuple, rList, rIxD, nn_none, nn_int, nn_tup, noOwn, wipeD, Slot.addr, truD, List.getElem?_cons_zero, List.getElem?_cons_succ, List.set_cons_zero, List.set_cons_succ, List.map_cons, List.map_nil, List.length_cons, List.length_nil, List.cons_append, List.nil_append, List.replicate, Nat.sub_self, Nat.zero_add, Nat.add_one_sub_one, Nat.reduceAdd, Nat.reduceSub, Nat.succ_sub_succ_eq_sub, Nat.sub_zero, List.all_cons, List.all_nil, Option.isNone_none, Bool.and_self, Bool.and_true, List.reduceReplicate, true_and, and_true, wD, bD, lD, pD, if_true, if_false, Bool.not_true, Bool.not_false, Bool.false_eq_true]
        refine wLc_map .int (fun x => !decide (x = (p : Int))) .int (bitsOf s) (by unfold sizeLine; omega) ?_ ?_
        · intro x hx k3 k4 hk3 hk4
          try simp only [tdSeq, tdIfS, tdRet, tdRetN, tdNext, tdNever, tdDrop, tdBreak, tdCont, tdSet, tdOwn, tdAsg, tdAppend, tdExtend, tdPop, tdAug, tdAugSub, tdPar, tdParOO, tdParSO, tdAsgSOS, tdParSD, tdPutT, tdSortKeys, tdFor, tdLc, tdYes, gdName, gdNil, gdCons, gdTup, gdSub, tdSh, tdLent, tdC, td1, td2, tf1, tdB, tdAnd, tdOr, tdNot, tdAndV, tdOrV, tdNotV, tdIf, tdNil, tdCons, tdTup, tdLst, tdChain, tdIxB, tdRep, tdCat, tdCall, tdCallR, tdNewD, tdDPut, tdDV, tdShD, tiItems, tiKeys, tdSortKD, tdNotMem, tdMemGet, tdMemPut, tdCallM, tdParSSM, tiL, tiT, tiR1, tiR2, rI, rI0, rU, rLen, rInts, rBools, rInt, rTuple, rList, rIxD, nn_none, nn_int, nn_tup, noOwn, wipeD, Slot.addr, truD, List.getElem?_cons_zero, List.getElem?_cons_succ, List.set_cons_zero, List.set_cons_succ, List.map_cons, List.map_nil, List.length_cons, List.length_nil, List.cons_append, List.nil_append, List.replicate, Nat.sub_self, Nat.zero_add, Nat.add_one_sub_one, Nat.reduceAdd, Nat.reduceSub, Nat.succ_sub_succ_eq_sub, Nat.sub_zero, List.all_cons, List.all_nil, Option.isNone_none, Bool.and_self, Bool.and_true, List.reduceReplicate, true_and, and_true, wD, bD, lD, pD, if_true, if_false, Bool.not_true, Bool.not_false, Bool.false_eq_true]
          refine ⟨sh_int _, sh_int _, ?_⟩
          rw [eqv_int]
          by_cases e : x = (p : Int)
          · exact ite_no (by simp [e]) (hk4 (by simp [e]))
          · exact ite_yes (by simp [e]) (hk3 (by simp [e]))
        have hfl := List.length_filter_le (fun x => !decide (x = (p : Int))) (bitsOf s)
        have fin2 : ∀ ns' : List Int, ns'.Perm (((bitsOf s).filter fun x => !decide (x = (p : Int))) ++ if (bitsOf s).contains (p : Int) = true then [] else [(p : Int)]) → ns'.Pairwise (· ≤ ·) → k2 [.sh (.list (ns.map .int)), .row, .sh (wD n es), .sh (lD ls), .sh (.int n), .sh (tI (bitsOf one)), .sh (tI (bitsOf oth)), .sh (.tuple (rangeD 0 n.toNat)), .sh (.int (k : Nat)), .sh (tI P), .sh (tI ns'), .sh (.int (p : Int)), .un] := fun ns' h1 h2 =>
          hk2 _ ⟨s ^^^ 2 ^ p, .sh (.int (p : Int)), q2, xor_ltN hs (rdy_lt q1), by rw [flip_sorted h1 h2]⟩
        refine ⟨bitsOf s, rfl, ?_⟩
        cases hcn : (bitsOf s).contains (p : Int) with
        | true =>
          rw [hcn] at fin2
          refine ite_yes rfl ⟨by decide, by rw [List.length_map]; unfold sizeLine; omega, _, by rw [List.append_nil], fun ns' h1 h2 => ?_⟩
          exact fin2 ns' (by rw [if_pos rfl, List.append_nil]; exact h1) h2
        | false =>
          rw [hcn] at fin2
          refine ite_no (by decide) ⟨by decide, by rw [List.length_map]; unfold sizeLine; omega, (bitsOf s).filter (fun x => !decide (x = (p : Int))) ++ [(p : Int)], by rw [List.map_append]; rfl, fun ns' h1 h2 => ?_⟩
          exact fin2 ns' (by rw [if_neg (by decide)]; exact h1) h2
  intro x9 x10 x11
  rw [hK1]; clear hK1 K1
  refine seqG fun K1 hK1 => ?_
  suffices fin : K1 [.sh (.list (ns.map .int)), .row, .sh (wD n es), .sh (lD ls), .sh (.int n), .sh (tI (bitsOf one)), .sh (tI (bitsOf oth)), .sh (.tuple (rangeD 0 n.toNat)), .sh d, x9, x10, x11, .un] by
    try simp only [tdSeq, tdIfS, tdRet, tdRetN, tdNext, tdNever, tdDrop, tdBreak, tdCont, tdSet, tdOwn, tdAsg, tdAppend, tdExtend, tdPop, tdAug, tdAugSub, tdPar, tdParOO, tdParSO, tdAsgSOS, tdParSD, tdPutT, tdSortKeys, tdFor, tdLc, tdYes, gdName, gdNil, gdCons, gdTup, gdSub, tdSh, tdLent, tdC, td1, td2, tf1, tdB, tdAnd, tdOr, tdNot, tdAndV, tdOrV, tdNotV, tdIf, tdNil, tdCons, tdTup, tdLst, tdChain, tdIxB, tdRep, tdCat, tdCall, tdCallR, tiL, tiT, tiR1, tiR2, rI, rI0, rU, rLen, rInts, rBools, rInt, rTuple, rList, rIxD, nn_none, nn_int, nn_tup, noOwn, wipeD, Slot.addr, truD, List.getElem?_cons_zero, List.getElem?_cons_succ, List.set_cons_zero, List.set_cons_succ, List.map_cons, List.map_nil, List.length_cons, List.length_nil, List.cons_append, List.nil_append, List.replicate, Nat.sub_self, Nat.zero_add, Nat.add_one_sub_one, Nat.reduceAdd, Nat.reduceSub, Nat.succ_sub_succ_eq_sub, Nat.sub_zero, List.all_cons, List.all_nil, Option.isNone_none, Bool.and_self, Bool.and_true, List.reduceReplicate, true_and, and_true, wD, bD, lD, pD, if_true, if_false, Bool.not_true, Bool.not_false, Bool.false_eq_true]
    refine ⟨n, es, ls, bitsOf oth, rfl, W, F, bits_st hot, fun to m TO hm hbm => ?_⟩
    obtain rfl := bits_inj hbm
    dsimp only
    by_cases hpos : 0 < to.getD m 0
    · refine ite_yes (decide_eq_true (by omega)) ?_
      have d0 := dst_from0 (toS_wlk TO m hm hpos) rfl
      refine ⟨by decide, n, es, ls, 0, m, by rw [b0]; rfl, W, F, h0, hm, fun k d => ?_, fun z => absurd ⟨_, d0.1⟩ z⟩
      obtain rfl := d.uniq d0
      refine ⟨sh_int _, sh_int _, ?_⟩
      rw [eqv_int, List.length_map, decide_eq_true rfl]
      exact ite_no (by decide) fin
    · exact ite_no (by rw [decide_eq_true_eq]; omega) fin
  rw [hK1]; clear hK1 K1
  refine seqG fun K1 hK1 => ?_
  suffices fin : K1 [.sh (.list (ns.map .int)), .row, .sh (wD n es), .sh (lD ls), .sh (.int n), .sh (tI (bitsOf one)), .sh (tI (bitsOf oth)), .sh (.tuple (rangeD 0 n.toNat)), .sh d, x9, x10, x11, .un] by
    try simp only [tdSeq, tdIfS, tdRet, tdRetN, tdNext, tdNever, tdDrop, tdBreak, tdCont, tdSet, tdOwn, tdAsg, tdAppend, tdExtend, tdPop, tdAug, tdAugSub, tdPar, tdParOO, tdParSO, tdAsgSOS, tdParSD, tdPutT, tdSortKeys, tdFor, tdLc, tdYes, gdName, gdNil, gdCons, gdTup, gdSub, tdSh, tdLent, tdC, td1, td2, tf1, tdB, tdAnd, tdOr, tdNot, tdAndV, tdOrV, tdNotV, tdIf, tdNil, tdCons, tdTup, tdLst, tdChain, tdIxB, tdRep, tdCat, tdCall, tdCallR, tiL, tiT, tiR1, tiR2, rI, rI0, rU, rLen, rInts, rBools, rInt, rTuple, rList, rIxD, nn_none, nn_int, nn_tup, noOwn, wipeD, Slot.addr, truD, List.getElem?_cons_zero, List.getElem?_cons_succ, List.set_cons_zero, List.set_cons_succ, List.map_cons, List.map_nil, List.length_cons, List.length_nil, List.cons_append, List.nil_append, List.replicate, Nat.sub_self, Nat.zero_add, Nat.add_one_sub_one, Nat.reduceAdd, Nat.reduceSub, Nat.succ_sub_succ_eq_sub, Nat.sub_zero, List.all_cons, List.all_nil, Option.isNone_none, Bool.and_self, Bool.and_true, List.reduceReplicate, true_and, and_true, wD, bD, lD, pD, if_true, if_false, Bool.not_true, Bool.not_false, Bool.false_eq_true]
    refine ⟨n, es, ls, rfl, W, F, ?_⟩
    try simp only [tdSeq, tdIfS, tdRet, tdRetN, tdNext, tdNever, tdDrop, tdBreak, tdCont, tdSet, tdOwn, tdAsg, tdAppend, tdExtend, tdPop, tdAug, tdAugSub, tdPar, tdParOO, tdParSO, tdAsgSOS, tdParSD, tdPutT, tdSortKeys, tdFor, tdLc, tdYes, gdName, gdNil, gdCons, gdTup, gdSub, tdSh, tdLent, tdC, td1, td2, tf1, tdB, tdAnd, tdOr, tdNot, tdAndV, tdOrV, tdNotV, tdIf, tdNil, tdCons, tdTup, tdLst, tdChain, tdIxB, tdRep, tdCat, tdCall, tdCallR, tiL, tiT, tiR1, tiR2, rI, rI0, rU, rLen, rInts, rBools, rInt, rTuple, rList, rIxD, nn_none, nn_int, nn_tup, noOwn, wipeD, Slot.addr, truD, List.getElem?_cons_zero, List.getElem?_cons_succ, List.set_cons_zero, List.set_cons_succ, List.map_cons, List.map_nil, List.length_cons, List.length_nil, List.cons_append, List.nil_append, List.replicate, Nat.sub_self, Nat.zero_add, Nat.add_one_sub_one, Nat.reduceAdd, Nat.reduceSub, Nat.succ_sub_succ_eq_sub, Nat.sub_zero, List.all_cons, List.all_nil, Option.isNone_none, Bool.and_self, Bool.and_true, List.reduceReplicate, true_and, and_true, wD, bD, lD, pD, if_true, if_false, Bool.not_true, Bool.not_false, Bool.false_eq_true]
    by_cases hc : 0 < cnt es n.toNat ls
    · refine ite_yes (decide_eq_true hc) ?_
      have d0 : DstR (Stp n es ls) 0 n.toNat (2 ^ n.toNat - 1) := dst_from0 (cnt_wlk W F n.toNat 0 h0 (by rw [b0]; simp) (by rw [stB_zero F]; exact hc)) (bits_full (by omega))
      refine ⟨by decide, n, es, ls, 0, 2 ^ n.toNat - 1, by rw [b0, bf]; rfl, W, F, h0, hfu, fun k d => ?_, fun z => absurd ⟨_, d0.1⟩ z⟩
      obtain rfl := d.uniq d0
      refine ⟨sh_int _, sh_int _, ?_⟩
      rw [eqv_int, decide_eq_true (by omega)]
      exact ite_no (by decide) fin
    · exact ite_no (by rw [decide_eq_true_eq]; exact hc) fin
  rw [hK1]; clear hK1 K1
  simp only [tdSeq, tdIfS, tdRet, tdRetN, tdNext, tdNever, tdDrop, tdBreak, tdCont, tdSet, tdOwn, tdAsg, tdAppend, tdExtend, tdPop, tdAug, tdAugSub, tdPar, tdParOO, tdParSO, tdAsgSOS, tdParSD, tdPutT, tdSortKeys, tdFor, tdLc, tdYes, gdName, gdNil, gdCons, gdTup, gdSub, tdSh, tdLent, tdC, td1, td2, tf1, tdB, tdAnd, tdOr, tdNot, tdAndV, tdOrV, tdNotV, tdIf, tdNil, tdCons, tdTup, tdLst, tdChain, tdIxB, tdRep, tdCat, tdCall, tdCallR, tiL, tiT, tiR1, tiR2, rI, rI0, rU, rLen, rInts, rBools, rInt, rTuple, rList, rIxD, nn_none, nn_int, nn_tup, noOwn, wipeD, Slot.addr, truD, List.getElem?_cons_zero, List.getElem?_cons_succ, List.set_cons_zero, List.set_cons_succ, List.map_cons, List.map_nil, List.length_cons, List.length_nil, List.cons_append, List.nil_append, List.replicate, Nat.sub_self, Nat.zero_add, Nat.add_one_sub_one, Nat.reduceAdd, Nat.reduceSub, Nat.succ_sub_succ_eq_sub, Nat.sub_zero, List.all_cons, List.all_nil, Option.isNone_none, Bool.and_self, Bool.and_true, List.reduceReplicate, true_and, and_true, wD, bD, lD, pD, if_true, if_false, Bool.not_true, Bool.not_false, Bool.false_eq_true]
  refine ⟨n, es, ls, one, rfl, W, F, ho, ?_⟩
  refine ⟨n, es, ls, rfl, W, F, fun ts h1 h2 => ?_⟩
  refine ⟨ts, rfl, congrArg PyData.bool (List.contains_iff_mem.mpr (h2.mem_iff.mpr ?_))⟩
  obtain ⟨r, hr, e⟩ := List.mem_map.mp (sz_reps (Q := 2 ^ n.toNat) (stp_symm W ls) ho)
  exact List.mem_map.mpr ⟨r, hr, by rw [e]⟩
end
theorem def_mk {K : PySem.W.Frag} {h : Heap} {mg : Str → Option Value} {x : Str} {st : Stmt} {ps : List Str} {f : Addr} {oc : Value} {od an : Option Addr} {osl : Array (Option Value)} {kV doc pm cdv ct : Value} (X : K.In h) (G : h.Ns mainGlobals mg)
    (a : PySem.W.nsIn K mainGlobals x = some (some (.ref f))) (l : K.lookup f = some ⟨oc, od, .func (PySem.W.fnOf x x (defArgs st) (defBody st) (defScope st) .none kV doc pm an cdv ct), osl⟩) (c : PySem.W.codeIn K cdv x = true) (k : PySem.W.keepIn K (.ref f) = true)
    (hb : ∀ (kV doc pm : Value) (an : Option Addr) (cdv ct : Value) (us : List Value), us.length = ps.length → bindArgs (PySem.W.fnOf x x (defArgs st) (defBody st) (defScope st) .none kV doc pm an cdv ct) ⟨us, []⟩ = pure (ps.zip us)) : Def K mg x st ps :=
  ⟨_, _, fun_mk l c k, PySem.W.mg_of X G a, (fun_mk l c k).binds hb⟩
set_option maxHeartbeats 0 in
theorem all_mk {l : PySem.W.OpenLaw} {w : World} {K : PySem.W.Frag} {h : Heap} {mg : Str → Option Value} {fa : Addr} (X : K.In h) (G : h.Ns mainGlobals mg) (hfa : mg "law" = some (.ref fa))
    {f0 : Addr} {od0 an0 : Option Addr} {sl0 : Array (Option Value)} {oc0 kV0 dc0 pm0 cd0 ct0 : Value} (a0 : PySem.W.nsIn K mainGlobals "is_integer" = some (some (.ref f0))) (l0 : K.lookup f0 = some ⟨oc0, od0, .func (PySem.W.fnOf "is_integer" "is_integer" (defArgs s_is_integer) (defBody s_is_integer) (defScope s_is_integer) .none kV0 dc0 pm0 an0 cd0 ct0), sl0⟩) (c0 : PySem.W.codeIn K cd0 "is_integer" = true) (k0 : PySem.W.keepIn K (.ref f0) = true)
    {f1 : Addr} {od1 an1 : Option Addr} {sl1 : Array (Option Value)} {oc1 kV1 dc1 pm1 cd1 ct1 : Value} (a1 : PySem.W.nsIn K mainGlobals "is_between" = some (some (.ref f1))) (l1 : K.lookup f1 = some ⟨oc1, od1, .func (PySem.W.fnOf "is_between" "is_between" (defArgs s_is_between) (defBody s_is_between) (defScope s_is_between) .none kV1 dc1 pm1 an1 cd1 ct1), sl1⟩) (c1 : PySem.W.codeIn K cd1 "is_between" = true) (k1 : PySem.W.keepIn K (.ref f1) = true)
    {f2 : Addr} {od2 an2 : Option Addr} {sl2 : Array (Option Value)} {oc2 kV2 dc2 pm2 cd2 ct2 : Value} (a2 : PySem.W.nsIn K mainGlobals "is_tuple_of" = some (some (.ref f2))) (l2 : K.lookup f2 = some ⟨oc2, od2, .func (PySem.W.fnOf "is_tuple_of" "is_tuple_of" (defArgs s_is_tuple_of) (defBody s_is_tuple_of) (defScope s_is_tuple_of) .none kV2 dc2 pm2 an2 cd2 ct2), sl2⟩) (c2 : PySem.W.codeIn K cd2 "is_tuple_of" = true) (k2 : PySem.W.keepIn K (.ref f2) = true)
    {f3 : Addr} {od3 an3 : Option Addr} {sl3 : Array (Option Value)} {oc3 kV3 dc3 pm3 cd3 ct3 : Value} (a3 : PySem.W.nsIn K mainGlobals "is_rising" = some (some (.ref f3))) (l3 : K.lookup f3 = some ⟨oc3, od3, .func (PySem.W.fnOf "is_rising" "is_rising" (defArgs s_is_rising) (defBody s_is_rising) (defScope s_is_rising) .none kV3 dc3 pm3 an3 cd3 ct3), sl3⟩) (c3 : PySem.W.codeIn K cd3 "is_rising" = true) (k3 : PySem.W.keepIn K (.ref f3) = true)
    {f4 : Addr} {od4 an4 : Option Addr} {sl4 : Array (Option Value)} {oc4 kV4 dc4 pm4 cd4 ct4 : Value} (a4 : PySem.W.nsIn K mainGlobals "are_rising" = some (some (.ref f4))) (l4 : K.lookup f4 = some ⟨oc4, od4, .func (PySem.W.fnOf "are_rising" "are_rising" (defArgs s_are_rising) (defBody s_are_rising) (defScope s_are_rising) .none kV4 dc4 pm4 an4 cd4 ct4), sl4⟩) (c4 : PySem.W.codeIn K cd4 "are_rising" = true) (k4 : PySem.W.keepIn K (.ref f4) = true)
    {f5 : Addr} {od5 an5 : Option Addr} {sl5 : Array (Option Value)} {oc5 kV5 dc5 pm5 cd5 ct5 : Value} (a5 : PySem.W.nsIn K mainGlobals "is_edge" = some (some (.ref f5))) (l5 : K.lookup f5 = some ⟨oc5, od5, .func (PySem.W.fnOf "is_edge" "is_edge" (defArgs s_is_edge) (defBody s_is_edge) (defScope s_is_edge) .none kV5 dc5 pm5 an5 cd5 ct5), sl5⟩) (c5 : PySem.W.codeIn K cd5 "is_edge" = true) (k5 : PySem.W.keepIn K (.ref f5) = true)
    {f6 : Addr} {od6 an6 : Option Addr} {sl6 : Array (Option Value)} {oc6 kV6 dc6 pm6 cd6 ct6 : Value} (a6 : PySem.W.nsIn K mainGlobals "check_web" = some (some (.ref f6))) (l6 : K.lookup f6 = some ⟨oc6, od6, .func (PySem.W.fnOf "check_web" "check_web" (defArgs s_check_web) (defBody s_check_web) (defScope s_check_web) .none kV6 dc6 pm6 an6 cd6 ct6), sl6⟩) (c6 : PySem.W.codeIn K cd6 "check_web" = true) (k6 : PySem.W.keepIn K (.ref f6) = true)
    {f7 : Addr} {od7 an7 : Option Addr} {sl7 : Array (Option Value)} {oc7 kV7 dc7 pm7 cd7 ct7 : Value} (a7 : PySem.W.nsIn K mainGlobals "check_full" = some (some (.ref f7))) (l7 : K.lookup f7 = some ⟨oc7, od7, .func (PySem.W.fnOf "check_full" "check_full" (defArgs s_check_full) (defBody s_check_full) (defScope s_check_full) .none kV7 dc7 pm7 an7 cd7 ct7), sl7⟩) (c7 : PySem.W.codeIn K cd7 "check_full" = true) (k7 : PySem.W.keepIn K (.ref f7) = true)
    {f8 : Addr} {od8 an8 : Option Addr} {sl8 : Array (Option Value)} {oc8 kV8 dc8 pm8 cd8 ct8 : Value} (a8 : PySem.W.nsIn K mainGlobals "check_state" = some (some (.ref f8))) (l8 : K.lookup f8 = some ⟨oc8, od8, .func (PySem.W.fnOf "check_state" "check_state" (defArgs s_check_state) (defBody s_check_state) (defScope s_check_state) .none kV8 dc8 pm8 an8 cd8 ct8), sl8⟩) (c8 : PySem.W.codeIn K cd8 "check_state" = true) (k8 : PySem.W.keepIn K (.ref f8) = true)
    {f9 : Addr} {od9 an9 : Option Addr} {sl9 : Array (Option Value)} {oc9 kV9 dc9 pm9 cd9 ct9 : Value} (a9 : PySem.W.nsIn K mainGlobals "mask_of" = some (some (.ref f9))) (l9 : K.lookup f9 = some ⟨oc9, od9, .func (PySem.W.fnOf "mask_of" "mask_of" (defArgs s_mask_of) (defBody s_mask_of) (defScope s_mask_of) .none kV9 dc9 pm9 an9 cd9 ct9), sl9⟩) (c9 : PySem.W.codeIn K cd9 "mask_of" = true) (k9 : PySem.W.keepIn K (.ref f9) = true)
    {f10 : Addr} {od10 an10 : Option Addr} {sl10 : Array (Option Value)} {oc10 kV10 dc10 pm10 cd10 ct10 : Value} (a10 : PySem.W.nsIn K mainGlobals "places_in" = some (some (.ref f10))) (l10 : K.lookup f10 = some ⟨oc10, od10, .func (PySem.W.fnOf "places_in" "places_in" (defArgs s_places_in) (defBody s_places_in) (defScope s_places_in) .none kV10 dc10 pm10 an10 cd10 ct10), sl10⟩) (c10 : PySem.W.codeIn K cd10 "places_in" = true) (k10 : PySem.W.keepIn K (.ref f10) = true)
    {f11 : Addr} {od11 an11 : Option Addr} {sl11 : Array (Option Value)} {oc11 kV11 dc11 pm11 cd11 ct11 : Value} (a11 : PySem.W.nsIn K mainGlobals "lowest_in" = some (some (.ref f11))) (l11 : K.lookup f11 = some ⟨oc11, od11, .func (PySem.W.fnOf "lowest_in" "lowest_in" (defArgs s_lowest_in) (defBody s_lowest_in) (defScope s_lowest_in) .none kV11 dc11 pm11 an11 cd11 ct11), sl11⟩) (c11 : PySem.W.codeIn K cd11 "lowest_in" = true) (k11 : PySem.W.keepIn K (.ref f11) = true)
    {f12 : Addr} {od12 an12 : Option Addr} {sl12 : Array (Option Value)} {oc12 kV12 dc12 pm12 cd12 ct12 : Value} (a12 : PySem.W.nsIn K mainGlobals "head_mask" = some (some (.ref f12))) (l12 : K.lookup f12 = some ⟨oc12, od12, .func (PySem.W.fnOf "head_mask" "head_mask" (defArgs s_head_mask) (defBody s_head_mask) (defScope s_head_mask) .none kV12 dc12 pm12 an12 cd12 ct12), sl12⟩) (c12 : PySem.W.codeIn K cd12 "head_mask" = true) (k12 : PySem.W.keepIn K (.ref f12) = true)
    {f13 : Addr} {od13 an13 : Option Addr} {sl13 : Array (Option Value)} {oc13 kV13 dc13 pm13 cd13 ct13 : Value} (a13 : PySem.W.nsIn K mainGlobals "lying_mask" = some (some (.ref f13))) (l13 : K.lookup f13 = some ⟨oc13, od13, .func (PySem.W.fnOf "lying_mask" "lying_mask" (defArgs s_lying_mask) (defBody s_lying_mask) (defScope s_lying_mask) .none kV13 dc13 pm13 an13 cd13 ct13), sl13⟩) (c13 : PySem.W.codeIn K cd13 "lying_mask" = true) (k13 : PySem.W.keepIn K (.ref f13) = true)
    {f14 : Addr} {od14 an14 : Option Addr} {sl14 : Array (Option Value)} {oc14 kV14 dc14 pm14 cd14 ct14 : Value} (a14 : PySem.W.nsIn K mainGlobals "near_masks" = some (some (.ref f14))) (l14 : K.lookup f14 = some ⟨oc14, od14, .func (PySem.W.fnOf "near_masks" "near_masks" (defArgs s_near_masks) (defBody s_near_masks) (defScope s_near_masks) .none kV14 dc14 pm14 an14 cd14 ct14), sl14⟩) (c14 : PySem.W.codeIn K cd14 "near_masks" = true) (k14 : PySem.W.keepIn K (.ref f14) = true)
    {f15 : Addr} {od15 an15 : Option Addr} {sl15 : Array (Option Value)} {oc15 kV15 dc15 pm15 cd15 ct15 : Value} (a15 : PySem.W.nsIn K mainGlobals "turned_table" = some (some (.ref f15))) (l15 : K.lookup f15 = some ⟨oc15, od15, .func (PySem.W.fnOf "turned_table" "turned_table" (defArgs s_turned_table) (defBody s_turned_table) (defScope s_turned_table) .none kV15 dc15 pm15 an15 cd15 ct15), sl15⟩) (c15 : PySem.W.codeIn K cd15 "turned_table" = true) (k15 : PySem.W.keepIn K (.ref f15) = true)
    {f16 : Addr} {od16 an16 : Option Addr} {sl16 : Array (Option Value)} {oc16 kV16 dc16 pm16 cd16 ct16 : Value} (a16 : PySem.W.nsIn K mainGlobals "ready_table" = some (some (.ref f16))) (l16 : K.lookup f16 = some ⟨oc16, od16, .func (PySem.W.fnOf "ready_table" "ready_table" (defArgs s_ready_table) (defBody s_ready_table) (defScope s_ready_table) .none kV16 dc16 pm16 an16 cd16 ct16), sl16⟩) (c16 : PySem.W.codeIn K cd16 "ready_table" = true) (k16 : PySem.W.keepIn K (.ref f16) = true)
    {f17 : Addr} {od17 an17 : Option Addr} {sl17 : Array (Option Value)} {oc17 kV17 dc17 pm17 cd17 ct17 : Value} (a17 : PySem.W.nsIn K mainGlobals "on_table" = some (some (.ref f17))) (l17 : K.lookup f17 = some ⟨oc17, od17, .func (PySem.W.fnOf "on_table" "on_table" (defArgs s_on_table) (defBody s_on_table) (defScope s_on_table) .none kV17 dc17 pm17 an17 cd17 ct17), sl17⟩) (c17 : PySem.W.codeIn K cd17 "on_table" = true) (k17 : PySem.W.keepIn K (.ref f17) = true)
    {f18 : Addr} {od18 an18 : Option Addr} {sl18 : Array (Option Value)} {oc18 kV18 dc18 pm18 cd18 ct18 : Value} (a18 : PySem.W.nsIn K mainGlobals "to_table" = some (some (.ref f18))) (l18 : K.lookup f18 = some ⟨oc18, od18, .func (PySem.W.fnOf "to_table" "to_table" (defArgs s_to_table) (defBody s_to_table) (defScope s_to_table) .none kV18 dc18 pm18 an18 cd18 ct18), sl18⟩) (c18 : PySem.W.codeIn K cd18 "to_table" = true) (k18 : PySem.W.keepIn K (.ref f18) = true)
    {f19 : Addr} {od19 an19 : Option Addr} {sl19 : Array (Option Value)} {oc19 kV19 dc19 pm19 cd19 ct19 : Value} (a19 : PySem.W.nsIn K mainGlobals "check_all" = some (some (.ref f19))) (l19 : K.lookup f19 = some ⟨oc19, od19, .func (PySem.W.fnOf "check_all" "check_all" (defArgs s_check_all) (defBody s_check_all) (defScope s_check_all) .none kV19 dc19 pm19 an19 cd19 ct19), sl19⟩) (c19 : PySem.W.codeIn K cd19 "check_all" = true) (k19 : PySem.W.keepIn K (.ref f19) = true)
    {f20 : Addr} {od20 an20 : Option Addr} {sl20 : Array (Option Value)} {oc20 kV20 dc20 pm20 cd20 ct20 : Value} (a20 : PySem.W.nsIn K mainGlobals "ways_to" = some (some (.ref f20))) (l20 : K.lookup f20 = some ⟨oc20, od20, .func (PySem.W.fnOf "ways_to" "ways_to" (defArgs s_ways_to) (defBody s_ways_to) (defScope s_ways_to) .none kV20 dc20 pm20 an20 cd20 ct20), sl20⟩) (c20 : PySem.W.codeIn K cd20 "ways_to" = true) (k20 : PySem.W.keepIn K (.ref f20) = true)
    {f21 : Addr} {od21 an21 : Option Addr} {sl21 : Array (Option Value)} {oc21 kV21 dc21 pm21 cd21 ct21 : Value} (a21 : PySem.W.nsIn K mainGlobals "check_both" = some (some (.ref f21))) (l21 : K.lookup f21 = some ⟨oc21, od21, .func (PySem.W.fnOf "check_both" "check_both" (defArgs s_check_both) (defBody s_check_both) (defScope s_check_both) .none kV21 dc21 pm21 an21 cd21 ct21), sl21⟩) (c21 : PySem.W.codeIn K cd21 "check_both" = true) (k21 : PySem.W.keepIn K (.ref f21) = true)
    {f22 : Addr} {od22 an22 : Option Addr} {sl22 : Array (Option Value)} {oc22 kV22 dc22 pm22 cd22 ct22 : Value} (a22 : PySem.W.nsIn K mainGlobals "step_table" = some (some (.ref f22))) (l22 : K.lookup f22 = some ⟨oc22, od22, .func (PySem.W.fnOf "step_table" "step_table" (defArgs s_step_table) (defBody s_step_table) (defScope s_step_table) .none kV22 dc22 pm22 an22 cd22 ct22), sl22⟩) (c22 : PySem.W.codeIn K cd22 "step_table" = true) (k22 : PySem.W.keepIn K (.ref f22) = true)
    {f23 : Addr} {od23 an23 : Option Addr} {sl23 : Array (Option Value)} {oc23 kV23 dc23 pm23 cd23 ct23 : Value} (a23 : PySem.W.nsIn K mainGlobals "steps_from" = some (some (.ref f23))) (l23 : K.lookup f23 = some ⟨oc23, od23, .func (PySem.W.fnOf "steps_from" "steps_from" (defArgs s_steps_from) (defBody s_steps_from) (defScope s_steps_from) .none kV23 dc23 pm23 an23 cd23 ct23), sl23⟩) (c23 : PySem.W.codeIn K cd23 "steps_from" = true) (k23 : PySem.W.keepIn K (.ref f23) = true)
    {f24 : Addr} {od24 an24 : Option Addr} {sl24 : Array (Option Value)} {oc24 kV24 dc24 pm24 cd24 ct24 : Value} (a24 : PySem.W.nsIn K mainGlobals "steps_between" = some (some (.ref f24))) (l24 : K.lookup f24 = some ⟨oc24, od24, .func (PySem.W.fnOf "steps_between" "steps_between" (defArgs s_steps_between) (defBody s_steps_between) (defScope s_steps_between) .none kV24 dc24 pm24 an24 cd24 ct24), sl24⟩) (c24 : PySem.W.codeIn K cd24 "steps_between" = true) (k24 : PySem.W.keepIn K (.ref f24) = true)
    {f25 : Addr} {od25 an25 : Option Addr} {sl25 : Array (Option Value)} {oc25 kV25 dc25 pm25 cd25 ct25 : Value} (a25 : PySem.W.nsIn K mainGlobals "way_between" = some (some (.ref f25))) (l25 : K.lookup f25 = some ⟨oc25, od25, .func (PySem.W.fnOf "way_between" "way_between" (defArgs s_way_between) (defBody s_way_between) (defScope s_way_between) .none kV25 dc25 pm25 an25 cd25 ct25), sl25⟩) (c25 : PySem.W.codeIn K cd25 "way_between" = true) (k25 : PySem.W.keepIn K (.ref f25) = true)
    {f26 : Addr} {od26 an26 : Option Addr} {sl26 : Array (Option Value)} {oc26 kV26 dc26 pm26 cd26 ct26 : Value} (a26 : PySem.W.nsIn K mainGlobals "joined_count" = some (some (.ref f26))) (l26 : K.lookup f26 = some ⟨oc26, od26, .func (PySem.W.fnOf "joined_count" "joined_count" (defArgs s_joined_count) (defBody s_joined_count) (defScope s_joined_count) .none kV26 dc26 pm26 an26 cd26 ct26), sl26⟩) (c26 : PySem.W.codeIn K cd26 "joined_count" = true) (k26 : PySem.W.keepIn K (.ref f26) = true)
    {f27 : Addr} {od27 an27 : Option Addr} {sl27 : Array (Option Value)} {oc27 kV27 dc27 pm27 cd27 ct27 : Value} (a27 : PySem.W.nsIn K mainGlobals "farthest" = some (some (.ref f27))) (l27 : K.lookup f27 = some ⟨oc27, od27, .func (PySem.W.fnOf "farthest" "farthest" (defArgs s_farthest) (defBody s_farthest) (defScope s_farthest) .none kV27 dc27 pm27 an27 cd27 ct27), sl27⟩) (c27 : PySem.W.codeIn K cd27 "farthest" = true) (k27 : PySem.W.keepIn K (.ref f27) = true)
    {f28 : Addr} {od28 an28 : Option Addr} {sl28 : Array (Option Value)} {oc28 kV28 dc28 pm28 cd28 ct28 : Value} (a28 : PySem.W.nsIn K mainGlobals "state_parts" = some (some (.ref f28))) (l28 : K.lookup f28 = some ⟨oc28, od28, .func (PySem.W.fnOf "state_parts" "state_parts" (defArgs s_state_parts) (defBody s_state_parts) (defScope s_state_parts) .none kV28 dc28 pm28 an28 cd28 ct28), sl28⟩) (c28 : PySem.W.codeIn K cd28 "state_parts" = true) (k28 : PySem.W.keepIn K (.ref f28) = true)
    {f29 : Addr} {od29 an29 : Option Addr} {sl29 : Array (Option Value)} {oc29 kV29 dc29 pm29 cd29 ct29 : Value} (a29 : PySem.W.nsIn K mainGlobals "order_count" = some (some (.ref f29))) (l29 : K.lookup f29 = some ⟨oc29, od29, .func (PySem.W.fnOf "order_count" "order_count" (defArgs s_order_count) (defBody s_order_count) (defScope s_order_count) .none kV29 dc29 pm29 an29 cd29 ct29), sl29⟩) (c29 : PySem.W.codeIn K cd29 "order_count" = true) (k29 : PySem.W.keepIn K (.ref f29) = true)
    {f30 : Addr} {od30 an30 : Option Addr} {sl30 : Array (Option Value)} {oc30 kV30 dc30 pm30 cd30 ct30 : Value} (a30 : PySem.W.nsIn K mainGlobals "can_clear" = some (some (.ref f30))) (l30 : K.lookup f30 = some ⟨oc30, od30, .func (PySem.W.fnOf "can_clear" "can_clear" (defArgs s_can_clear) (defBody s_can_clear) (defScope s_can_clear) .none kV30 dc30 pm30 an30 cd30 ct30), sl30⟩) (c30 : PySem.W.codeIn K cd30 "can_clear" = true) (k30 : PySem.W.keepIn K (.ref f30) = true)
    {f31 : Addr} {od31 an31 : Option Addr} {sl31 : Array (Option Value)} {oc31 kV31 dc31 pm31 cd31 ct31 : Value} (a31 : PySem.W.nsIn K mainGlobals "_law_taken" = some (some (.ref f31))) (l31 : K.lookup f31 = some ⟨oc31, od31, .func (PySem.W.fnOf "_law_taken" "_law_taken" (defArgs s__law_taken) (defBody s__law_taken) (defScope s__law_taken) .none kV31 dc31 pm31 an31 cd31 ct31), sl31⟩) (c31 : PySem.W.codeIn K cd31 "_law_taken" = true) (k31 : PySem.W.keepIn K (.ref f31) = true)
    {f32 : Addr} {od32 an32 : Option Addr} {sl32 : Array (Option Value)} {oc32 kV32 dc32 pm32 cd32 ct32 : Value} (a32 : PySem.W.nsIn K mainGlobals "_law_order" = some (some (.ref f32))) (l32 : K.lookup f32 = some ⟨oc32, od32, .func (PySem.W.fnOf "_law_order" "_law_order" (defArgs s__law_order) (defBody s__law_order) (defScope s__law_order) .none kV32 dc32 pm32 an32 cd32 ct32), sl32⟩) (c32 : PySem.W.codeIn K cd32 "_law_order" = true) (k32 : PySem.W.keepIn K (.ref f32) = true)
    {f33 : Addr} {od33 an33 : Option Addr} {sl33 : Array (Option Value)} {oc33 kV33 dc33 pm33 cd33 ct33 : Value} (a33 : PySem.W.nsIn K mainGlobals "_law_web" = some (some (.ref f33))) (l33 : K.lookup f33 = some ⟨oc33, od33, .func (PySem.W.fnOf "_law_web" "_law_web" (defArgs s__law_web) (defBody s__law_web) (defScope s__law_web) .none kV33 dc33 pm33 an33 cd33 ct33), sl33⟩) (c33 : PySem.W.codeIn K cd33 "_law_web" = true) (k33 : PySem.W.keepIn K (.ref f33) = true)
    {f34 : Addr} {od34 an34 : Option Addr} {sl34 : Array (Option Value)} {oc34 kV34 dc34 pm34 cd34 ct34 : Value} (a34 : PySem.W.nsIn K mainGlobals "_law_near" = some (some (.ref f34))) (l34 : K.lookup f34 = some ⟨oc34, od34, .func (PySem.W.fnOf "_law_near" "_law_near" (defArgs s__law_near) (defBody s__law_near) (defScope s__law_near) .none kV34 dc34 pm34 an34 cd34 ct34), sl34⟩) (c34 : PySem.W.codeIn K cd34 "_law_near" = true) (k34 : PySem.W.keepIn K (.ref f34) = true)
    {f35 : Addr} {od35 an35 : Option Addr} {sl35 : Array (Option Value)} {oc35 kV35 dc35 pm35 cd35 ct35 : Value} (a35 : PySem.W.nsIn K mainGlobals "_law_laying" = some (some (.ref f35))) (l35 : K.lookup f35 = some ⟨oc35, od35, .func (PySem.W.fnOf "_law_laying" "_law_laying" (defArgs s__law_laying) (defBody s__law_laying) (defScope s__law_laying) .none kV35 dc35 pm35 an35 cd35 ct35), sl35⟩) (c35 : PySem.W.codeIn K cd35 "_law_laying" = true) (k35 : PySem.W.keepIn K (.ref f35) = true)
    {f36 : Addr} {od36 an36 : Option Addr} {sl36 : Array (Option Value)} {oc36 kV36 dc36 pm36 cd36 ct36 : Value} (a36 : PySem.W.nsIn K mainGlobals "_law_full" = some (some (.ref f36))) (l36 : K.lookup f36 = some ⟨oc36, od36, .func (PySem.W.fnOf "_law_full" "_law_full" (defArgs s__law_full) (defBody s__law_full) (defScope s__law_full) .none kV36 dc36 pm36 an36 cd36 ct36), sl36⟩) (c36 : PySem.W.codeIn K cd36 "_law_full" = true) (k36 : PySem.W.keepIn K (.ref f36) = true)
    {f37 : Addr} {od37 an37 : Option Addr} {sl37 : Array (Option Value)} {oc37 kV37 dc37 pm37 cd37 ct37 : Value} (a37 : PySem.W.nsIn K mainGlobals "_law_pick" = some (some (.ref f37))) (l37 : K.lookup f37 = some ⟨oc37, od37, .func (PySem.W.fnOf "_law_pick" "_law_pick" (defArgs s__law_pick) (defBody s__law_pick) (defScope s__law_pick) .none kV37 dc37 pm37 an37 cd37 ct37), sl37⟩) (c37 : PySem.W.codeIn K cd37 "_law_pick" = true) (k37 : PySem.W.keepIn K (.ref f37) = true)
    {f38 : Addr} {od38 an38 : Option Addr} {sl38 : Array (Option Value)} {oc38 kV38 dc38 pm38 cd38 ct38 : Value} (a38 : PySem.W.nsIn K mainGlobals "_law_state" = some (some (.ref f38))) (l38 : K.lookup f38 = some ⟨oc38, od38, .func (PySem.W.fnOf "_law_state" "_law_state" (defArgs s__law_state) (defBody s__law_state) (defScope s__law_state) .none kV38 dc38 pm38 an38 cd38 ct38), sl38⟩) (c38 : PySem.W.codeIn K cd38 "_law_state" = true) (k38 : PySem.W.keepIn K (.ref f38) = true)
    {f39 : Addr} {od39 an39 : Option Addr} {sl39 : Array (Option Value)} {oc39 kV39 dc39 pm39 cd39 ct39 : Value} (a39 : PySem.W.nsIn K mainGlobals "law" = some (some (.ref f39))) (l39 : K.lookup f39 = some ⟨oc39, od39, .func (PySem.W.fnOf "law" "law" (defArgs s_law) (defBody s_law) (defScope s_law) .none kV39 dc39 pm39 an39 cd39 ct39), sl39⟩) (c39 : PySem.W.codeIn K cd39 "law" = true) (k39 : PySem.W.keepIn K (.ref f39) = true)
    (b_all : PySem.W.nsIn K mainGlobals "all" = some none)
    (b_bool : PySem.W.nsIn K mainGlobals "bool" = some none)
    (b_enumerate : PySem.W.nsIn K mainGlobals "enumerate" = some none)
    (b_int : PySem.W.nsIn K mainGlobals "int" = some none)
    (b_isinstance : PySem.W.nsIn K mainGlobals "isinstance" = some none)
    (b_len : PySem.W.nsIn K mainGlobals "len" = some none)
    (b_list : PySem.W.nsIn K mainGlobals "list" = some none)
    (b_max : PySem.W.nsIn K mainGlobals "max" = some none)
    (b_min : PySem.W.nsIn K mainGlobals "min" = some none)
    (b_range : PySem.W.nsIn K mainGlobals "range" = some none)
    (b_reversed : PySem.W.nsIn K mainGlobals "reversed" = some none)
    (b_sorted : PySem.W.nsIn K mainGlobals "sorted" = some none)
    (b_sum : PySem.W.nsIn K mainGlobals "sum" = some none)
    (b_tuple : PySem.W.nsIn K mainGlobals "tuple" = some none)
    {t_MOST_PLACES : Tok} (c_MOST_PLACES : PySem.W.nsIn K mainGlobals "MOST_PLACES" = some (some (.int 9 t_MOST_PLACES)))
    : ∃ fd : FuncData, (∀ (s : Shared) (v : Value), BindsTo s fd ⟨[v], []⟩ [("script", v)]) ∧ ∀ base : Heap, K.In base → base.Ns mainGlobals mg → FnOk l.prog w K mg base CX0 8 fa fd ["script"] (spD K 1 sdLaw) := by
  have e := hfa.symm.trans (PySem.W.mg_of X G a39)
  cases e
  have T : Top K mg := ⟨PySem.W.mg_none_of X G b_all,
    PySem.W.mg_none_of X G b_bool,
    PySem.W.mg_none_of X G b_enumerate,
    PySem.W.mg_none_of X G b_int,
    PySem.W.mg_none_of X G b_isinstance,
    PySem.W.mg_none_of X G b_len,
    PySem.W.mg_none_of X G b_list,
    PySem.W.mg_none_of X G b_max,
    PySem.W.mg_none_of X G b_min,
    PySem.W.mg_none_of X G b_range,
    PySem.W.mg_none_of X G b_reversed,
    PySem.W.mg_none_of X G b_sorted,
    PySem.W.mg_none_of X G b_sum,
    PySem.W.mg_none_of X G b_tuple,
    ⟨_, PySem.W.mg_of X G c_MOST_PLACES, ⟨_, rfl⟩⟩,
    def_mk X G a0 l0 c0 k0 fun _ _ _ _ _ _ us hl => match us, hl with | [_], _ => rfl,
    def_mk X G a1 l1 c1 k1 fun _ _ _ _ _ _ us hl => match us, hl with | [_, _, _], _ => rfl,
    def_mk X G a2 l2 c2 k2 fun _ _ _ _ _ _ us hl => match us, hl with | [_, _], _ => rfl,
    def_mk X G a3 l3 c3 k3 fun _ _ _ _ _ _ us hl => match us, hl with | [_, _], _ => rfl,
    def_mk X G a4 l4 c4 k4 fun _ _ _ _ _ _ us hl => match us, hl with | [_], _ => rfl,
    def_mk X G a5 l5 c5 k5 fun _ _ _ _ _ _ us hl => match us, hl with | [_, _], _ => rfl,
    def_mk X G a6 l6 c6 k6 fun _ _ _ _ _ _ us hl => match us, hl with | [_], _ => rfl,
    def_mk X G a7 l7 c7 k7 fun _ _ _ _ _ _ us hl => match us, hl with | [_, _], _ => rfl,
    def_mk X G a8 l8 c8 k8 fun _ _ _ _ _ _ us hl => match us, hl with | [_, _], _ => rfl,
    def_mk X G a9 l9 c9 k9 fun _ _ _ _ _ _ us hl => match us, hl with | [_], _ => rfl,
    def_mk X G a10 l10 c10 k10 fun _ _ _ _ _ _ us hl => match us, hl with | [_], _ => rfl,
    def_mk X G a11 l11 c11 k11 fun _ _ _ _ _ _ us hl => match us, hl with | [_], _ => rfl,
    def_mk X G a12 l12 c12 k12 fun _ _ _ _ _ _ us hl => match us, hl with | [_], _ => rfl,
    def_mk X G a13 l13 c13 k13 fun _ _ _ _ _ _ us hl => match us, hl with | [_], _ => rfl,
    def_mk X G a14 l14 c14 k14 fun _ _ _ _ _ _ us hl => match us, hl with | [_], _ => rfl,
    def_mk X G a15 l15 c15 k15 fun _ _ _ _ _ _ us hl => match us, hl with | [_, _], _ => rfl,
    def_mk X G a16 l16 c16 k16 fun _ _ _ _ _ _ us hl => match us, hl with | [_, _], _ => rfl,
    def_mk X G a17 l17 c17 k17 fun _ _ _ _ _ _ us hl => match us, hl with | [_], _ => rfl,
    def_mk X G a18 l18 c18 k18 fun _ _ _ _ _ _ us hl => match us, hl with | [_], _ => rfl,
    def_mk X G a19 l19 c19 k19 fun _ _ _ _ _ _ us hl => match us, hl with | [_, _, _], _ => rfl,
    def_mk X G a20 l20 c20 k20 fun _ _ _ _ _ _ us hl => match us, hl with | [_, _, _], _ => rfl,
    def_mk X G a21 l21 c21 k21 fun _ _ _ _ _ _ us hl => match us, hl with | [_, _, _, _], _ => rfl,
    def_mk X G a22 l22 c22 k22 fun _ _ _ _ _ _ us hl => match us, hl with | [_, _], _ => rfl,
    def_mk X G a23 l23 c23 k23 fun _ _ _ _ _ _ us hl => match us, hl with | [_, _], _ => rfl,
    def_mk X G a24 l24 c24 k24 fun _ _ _ _ _ _ us hl => match us, hl with | [_, _, _, _], _ => rfl,
    def_mk X G a25 l25 c25 k25 fun _ _ _ _ _ _ us hl => match us, hl with | [_, _, _, _], _ => rfl,
    def_mk X G a26 l26 c26 k26 fun _ _ _ _ _ _ us hl => match us, hl with | [_, _, _], _ => rfl,
    def_mk X G a27 l27 c27 k27 fun _ _ _ _ _ _ us hl => match us, hl with | [_, _, _], _ => rfl,
    def_mk X G a28 l28 c28 k28 fun _ _ _ _ _ _ us hl => match us, hl with | [_, _], _ => rfl,
    def_mk X G a29 l29 c29 k29 fun _ _ _ _ _ _ us hl => match us, hl with | [_, _], _ => rfl,
    def_mk X G a30 l30 c30 k30 fun _ _ _ _ _ _ us hl => match us, hl with | [_, _], _ => rfl,
    def_mk X G a31 l31 c31 k31 fun _ _ _ _ _ _ us hl => match us, hl with | [_, _], _ => rfl,
    def_mk X G a32 l32 c32 k32 fun _ _ _ _ _ _ us hl => match us, hl with | [_, _], _ => rfl,
    def_mk X G a33 l33 c33 k33 fun _ _ _ _ _ _ us hl => match us, hl with | [_, _], _ => rfl,
    def_mk X G a34 l34 c34 k34 fun _ _ _ _ _ _ us hl => match us, hl with | [_], _ => rfl,
    def_mk X G a35 l35 c35 k35 fun _ _ _ _ _ _ us hl => match us, hl with | [_, _], _ => rfl,
    def_mk X G a36 l36 c36 k36 fun _ _ _ _ _ _ us hl => match us, hl with | [_, _], _ => rfl,
    def_mk X G a37 l37 c37 k37 fun _ _ _ _ _ _ us hl => match us, hl with | [_, _], _ => rfl,
    def_mk X G a38 l38 c38 k38 fun _ _ _ _ _ _ us hl => match us, hl with | [_, _], _ => rfl⟩
  have F := fun_mk (st := s_law) l39 c39 k39
  refine ⟨PySem.W.fnOf "law" "law" (defArgs s_law) (defBody s_law) (defScope s_law) .none kV39 dc39 pm39 an39 cd39 ct39, fun s v => .of_eq rfl, fun base _ _ => ?_⟩
  have F_is_integer := fn_is_integer (P := l.prog) (w := w) (base := base) T 
  have F_is_between := fn_is_between (P := l.prog) (w := w) (base := base) T F_is_integer
  have F_is_tuple_of := fn_is_tuple_of (P := l.prog) (w := w) (base := base) T 
  have F_are_rising := fn_are_rising (P := l.prog) (w := w) (base := base) T 
  have F_is_rising := fn_is_rising (P := l.prog) (w := w) (base := base) T F_are_rising F_is_between
  have F_is_edge := fn_is_edge (P := l.prog) (w := w) (base := base) T F_is_tuple_of F_is_between
  have F_check_web := fn_check_web (P := l.prog) (w := w) (base := base) T F_is_tuple_of F_is_between F_is_edge
  have F_check_full := fn_check_full (P := l.prog) (w := w) (base := base) T F_is_tuple_of F_is_between
  have F_check_state := fn_check_state (P := l.prog) (w := w) (base := base) T F_is_rising
  have F_mask_of := fn_mask_of (P := l.prog) (w := w) (base := base) T 
  have F_places_in := fn_places_in (P := l.prog) (w := w) (base := base) T 
  have F_lowest_in := fn_lowest_in (P := l.prog) (w := w) (base := base) T 
  have F_head_mask := fn_head_mask (P := l.prog) (w := w) (base := base) T F_mask_of
  have F_lying_mask := fn_lying_mask (P := l.prog) (w := w) (base := base) T F_mask_of
  have F_near_masks := fn_near_masks (P := l.prog) (w := w) (base := base) T 
  have F_turned_table := fn_turned_table (P := l.prog) (w := w) (base := base) T F_near_masks F_lowest_in
  have F_ready_table := fn_ready_table (P := l.prog) (w := w) (base := base) T F_lying_mask F_turned_table F_head_mask
  have F_on_table := fn_on_table (P := l.prog) (w := w) (base := base) T F_places_in
  have F_to_table := fn_to_table (P := l.prog) (w := w) (base := base) T F_places_in
  have F_check_all := fn_check_all (P := l.prog) (w := w) (base := base) T F_check_web F_check_full F_check_state
  have F_ways_to := fn_ways_to (P := l.prog) (w := w) (base := base) T F_check_all F_to_table F_mask_of F_ready_table
  have F_check_both := fn_check_both (P := l.prog) (w := w) (base := base) T F_check_all F_check_state
  have F_step_table := fn_step_table (P := l.prog) (w := w) (base := base) T F_ready_table F_places_in
  have F_steps_from := fn_steps_from (P := l.prog) (w := w) (base := base) T F_places_in
  have F_steps_between := fn_steps_between (P := l.prog) (w := w) (base := base) T F_check_both F_mask_of F_steps_from F_step_table
  have F_way_between := fn_way_between (P := l.prog) (w := w) (base := base) T F_check_both F_step_table F_steps_from F_mask_of F_places_in
  have F_joined_count := fn_joined_count (P := l.prog) (w := w) (base := base) T F_check_all F_steps_from F_step_table F_mask_of
  have F_farthest := fn_farthest (P := l.prog) (w := w) (base := base) T F_check_all F_steps_from F_step_table F_mask_of F_places_in
  have F_state_parts := fn_state_parts (P := l.prog) (w := w) (base := base) T F_check_web F_check_full F_step_table F_steps_from
  have F_order_count := fn_order_count (P := l.prog) (w := w) (base := base) T F_check_web F_check_full F_on_table F_ready_table
  have F_can_clear := fn_can_clear (P := l.prog) (w := w) (base := base) T F_order_count
  have F__law_taken := fn__law_taken (P := l.prog) (w := w) (base := base) T 
  have F__law_order := fn__law_order (P := l.prog) (w := w) (base := base) T F__law_taken
  have F__law_web := fn__law_web (P := l.prog) (w := w) (base := base) T F__law_taken F__law_order
  have F__law_near := fn__law_near (P := l.prog) (w := w) (base := base) T 
  have F__law_laying := fn__law_laying (P := l.prog) (w := w) (base := base) T F__law_near
  have F__law_full := fn__law_full (P := l.prog) (w := w) (base := base) T F__law_laying F__law_taken F__law_order
  have F__law_pick := fn__law_pick (P := l.prog) (w := w) (base := base) T F__law_taken
  have F__law_state := fn__law_state (P := l.prog) (w := w) (base := base) T F__law_pick F__law_taken
  exact ok_law T F F__law_web F_steps_between F__law_full F__law_state F_can_clear F_joined_count F_state_parts F_way_between F_ways_to F_farthest
theorem walk {l : PySem.W.OpenLaw} {q : Program} {loose : List Str} {XP : (Str → Option Value) → Heap → Prop} {YP : World → Heap → Prop} {d : DefRec} {K : Params → PySem.W.Frag} (hn : l.most = some 63) (hdf : d.params.defaults = [])
    (hY : ∀ (w : World) (h : Heap), YP w h → (K w.params).In h)
    (F : ∀ (w : World) (mg : Str → Option Value) (fa : Addr) (h : Heap), (K w.params).In h → h.Ns mainGlobals mg → mg d.name = some (.ref fa) →
      ∃ fd : FuncData, (∀ (s : Shared) (u : Value), BindsTo s fd ⟨[u], []⟩ [("script", u)]) ∧ ∀ base : Heap, (K w.params).In base → base.Ns mainGlobals mg → FnOk l.prog w (K w.params) mg base CX0 8 fa fd ["script"] (spD (K w.params) 1 sdLaw)) :
    PySem.W.WalkO q loose XP YP l.row.toRowW d [] (fun f vs => PySem.call f vs) :=
  L2.walk_of (n := 63) (k := 8) (x := "script") (CX := fun _ => CX0) (sp := fun w => spD (K w.params) 1 sdLaw) hn (by decide) hdf ⟨rfl, by decide, by decide⟩ hY F (fun w H a ns hl _ hS => ⟨rfl, [], [.list (ns.map .int)], fun d => d = .bool true, fun a h => (nomatch h), by rw [hide_nil]; exact .cons (.lst hS (DpAll.of_ints ns)) .nil, ⟨ns, rfl, hl, rfl⟩, fun d e v H' l D => by subst e; cases D; rfl⟩) fun _ _ _ _ _ z => z
end DL
open PySem PySem.W PyProof.Rows
set_option maxRecDepth 100000 in
set_option maxHeartbeats 0 in
theorem PySem.Challenge.cw_cointakes_k87_across_puttings_back_holds : PySem.Challenge.rw_cointakes_k87_across_puttings_back.Holds := by
  w_on; o_law; k_head; (case hw => w_witness2)
  k_fill
  refine DL.walk (l := PySem.Challenge.rw_cointakes_k87_across_puttings_back) rfl rfl (fun w h Y => PySem.W.kIn_of Y) ?F
  case F =>
    intro w mg fa h KX G hmg
    refine' DL.all_mk KX G hmg ?a0 ?l0 ?c0 ?k0 ?a1 ?l1 ?c1 ?k1 ?a2 ?l2 ?c2 ?k2 ?a3 ?l3 ?c3 ?k3 ?a4 ?l4 ?c4 ?k4 ?a5 ?l5 ?c5 ?k5 ?a6 ?l6 ?c6 ?k6 ?a7 ?l7 ?c7 ?k7 ?a8 ?l8 ?c8 ?k8 ?a9 ?l9 ?c9 ?k9 ?a10 ?l10 ?c10 ?k10 ?a11 ?l11 ?c11 ?k11 ?a12 ?l12 ?c12 ?k12 ?a13 ?l13 ?c13 ?k13 ?a14 ?l14 ?c14 ?k14 ?a15 ?l15 ?c15 ?k15 ?a16 ?l16 ?c16 ?k16 ?a17 ?l17 ?c17 ?k17 ?a18 ?l18 ?c18 ?k18 ?a19 ?l19 ?c19 ?k19 ?a20 ?l20 ?c20 ?k20 ?a21 ?l21 ?c21 ?k21 ?a22 ?l22 ?c22 ?k22 ?a23 ?l23 ?c23 ?k23 ?a24 ?l24 ?c24 ?k24 ?a25 ?l25 ?c25 ?k25 ?a26 ?l26 ?c26 ?k26 ?a27 ?l27 ?c27 ?k27 ?a28 ?l28 ?c28 ?k28 ?a29 ?l29 ?c29 ?k29 ?a30 ?l30 ?c30 ?k30 ?a31 ?l31 ?c31 ?k31 ?a32 ?l32 ?c32 ?k32 ?a33 ?l33 ?c33 ?k33 ?a34 ?l34 ?c34 ?k34 ?a35 ?l35 ?c35 ?k35 ?a36 ?l36 ?c36 ?k36 ?a37 ?l37 ?c37 ?k37 ?a38 ?l38 ?c38 ?k38 ?a39 ?l39 ?c39 ?k39 ?b_all ?b_bool ?b_enumerate ?b_int ?b_isinstance ?b_len ?b_list ?b_max ?b_min ?b_range ?b_reversed ?b_sorted ?b_sum ?b_tuple ?c_MOST_PLACES
    (case a0 => k_is)
    (case l0 => k_is)
    (case c0 => k_is)
    (case k0 => k_is)
    (case a1 => k_is)
    (case l1 => k_is)
    (case c1 => k_is)
    (case k1 => k_is)
    (case a2 => k_is)
    (case l2 => k_is)
    (case c2 => k_is)
    (case k2 => k_is)
    (case a3 => k_is)
    (case l3 => k_is)
    (case c3 => k_is)
    (case k3 => k_is)
    (case a4 => k_is)
    (case l4 => k_is)
    (case c4 => k_is)
    (case k4 => k_is)
    (case a5 => k_is)
    (case l5 => k_is)
    (case c5 => k_is)
    (case k5 => k_is)
    (case a6 => k_is)
    (case l6 => k_is)
    (case c6 => k_is)
    (case k6 => k_is)
    (case a7 => k_is)
    (case l7 => k_is)
    (case c7 => k_is)
    (case k7 => k_is)
    (case a8 => k_is)
    (case l8 => k_is)
    (case c8 => k_is)
    (case k8 => k_is)
    (case a9 => k_is)
    (case l9 => k_is)
    (case c9 => k_is)
    (case k9 => k_is)
    (case a10 => k_is)
    (case l10 => k_is)
    (case c10 => k_is)
    (case k10 => k_is)
    (case a11 => k_is)
    (case l11 => k_is)
    (case c11 => k_is)
    (case k11 => k_is)
    (case a12 => k_is)
    (case l12 => k_is)
    (case c12 => k_is)
    (case k12 => k_is)
    (case a13 => k_is)
    (case l13 => k_is)
    (case c13 => k_is)
    (case k13 => k_is)
    (case a14 => k_is)
    (case l14 => k_is)
    (case c14 => k_is)
    (case k14 => k_is)
    (case a15 => k_is)
    (case l15 => k_is)
    (case c15 => k_is)
    (case k15 => k_is)
    (case a16 => k_is)
    (case l16 => k_is)
    (case c16 => k_is)
    (case k16 => k_is)
    (case a17 => k_is)
    (case l17 => k_is)
    (case c17 => k_is)
    (case k17 => k_is)
    (case a18 => k_is)
    (case l18 => k_is)
    (case c18 => k_is)
    (case k18 => k_is)
    (case a19 => k_is)
    (case l19 => k_is)
    (case c19 => k_is)
    (case k19 => k_is)
    (case a20 => k_is)
    (case l20 => k_is)
    (case c20 => k_is)
    (case k20 => k_is)
    (case a21 => k_is)
    (case l21 => k_is)
    (case c21 => k_is)
    (case k21 => k_is)
    (case a22 => k_is)
    (case l22 => k_is)
    (case c22 => k_is)
    (case k22 => k_is)
    (case a23 => k_is)
    (case l23 => k_is)
    (case c23 => k_is)
    (case k23 => k_is)
    (case a24 => k_is)
    (case l24 => k_is)
    (case c24 => k_is)
    (case k24 => k_is)
    (case a25 => k_is)
    (case l25 => k_is)
    (case c25 => k_is)
    (case k25 => k_is)
    (case a26 => k_is)
    (case l26 => k_is)
    (case c26 => k_is)
    (case k26 => k_is)
    (case a27 => k_is)
    (case l27 => k_is)
    (case c27 => k_is)
    (case k27 => k_is)
    (case a28 => k_is)
    (case l28 => k_is)
    (case c28 => k_is)
    (case k28 => k_is)
    (case a29 => k_is)
    (case l29 => k_is)
    (case c29 => k_is)
    (case k29 => k_is)
    (case a30 => k_is)
    (case l30 => k_is)
    (case c30 => k_is)
    (case k30 => k_is)
    (case a31 => k_is)
    (case l31 => k_is)
    (case c31 => k_is)
    (case k31 => k_is)
    (case a32 => k_is)
    (case l32 => k_is)
    (case c32 => k_is)
    (case k32 => k_is)
    (case a33 => k_is)
    (case l33 => k_is)
    (case c33 => k_is)
    (case k33 => k_is)
    (case a34 => k_is)
    (case l34 => k_is)
    (case c34 => k_is)
    (case k34 => k_is)
    (case a35 => k_is)
    (case l35 => k_is)
    (case c35 => k_is)
    (case k35 => k_is)
    (case a36 => k_is)
    (case l36 => k_is)
    (case c36 => k_is)
    (case k36 => k_is)
    (case a37 => k_is)
    (case l37 => k_is)
    (case c37 => k_is)
    (case k37 => k_is)
    (case a38 => k_is)
    (case l38 => k_is)
    (case c38 => k_is)
    (case k38 => k_is)
    (case a39 => k_is)
    (case l39 => k_is)
    (case c39 => k_is)
    (case k39 => k_is)
    (case b_all => k_is)
    (case b_bool => k_is)
    (case b_enumerate => k_is)
    (case b_int => k_is)
    (case b_isinstance => k_is)
    (case b_len => k_is)
    (case b_list => k_is)
    (case b_max => k_is)
    (case b_min => k_is)
    (case b_range => k_is)
    (case b_reversed => k_is)
    (case b_sorted => k_is)
    (case b_sum => k_is)
    (case b_tuple => k_is)
    (case c_MOST_PLACES => k_is)
