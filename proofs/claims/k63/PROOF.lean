import PyProof.Rows.All
import Wide.All
import OpenK.AllK
import Wide.FinOn
import HandS.ForMost
import HandS.IsInst
import HandS.RevRange
import HandS.Zip
import HandS.Conv
import HandS.SortInts
import HandS.WideBits
import HandS.TupAny
import KE.GoesMore
import HandS.TupLe
import HandS.SortRule
import KE.KDictCopyH
import KE.KDictSum
import HandS.Text
import HandS.TupMul
import HandS.Style
import KE.SortData
import HandS.Deep
import HandS.SetFor
import KE.KTupSum
import HandS.Gcd
import KE.DataCmp
import KE.KDictWalk
import HandS.SetIn
import KE.DataMinMax
import HandS.SortKw
import PyProof.Rows.TupDisplay
import HandS.Strs
import HandS.TupSets
import KE.KRevSl
import KE.KMathGC
import HandS.Star
import HandS.RepeatKit
import HandS.RevTup
import PyProof.TupleIter
import PyProof.ListNew
import PyProof.WalksS
import PyProof.Walks
import HandS.DictTup
import HandS.Wide
import PySem.Challenge.RW_cointakes_k63_whole_orders_by_falls
set_option Elab.async false
set_option maxRecDepth 100000
set_option linter.all false
/-! DL: what a def does, said of data by value: no address is seen. -/
namespace DL
open PySem PySem.Spec PyProof.Rows L2

/-- what a dict of one's own holds: keys ints and texts, or tuples of them -/
inductive DCon where
  | K (kvs : List (Key × PyData))
  | T (kvs : List (List Key × PyData))
/-- a slot of a def: unknown, data that nobody changes any more, a list that this def alone holds, the row of draws -/
inductive Slot where
  | un
  | sh (d : PyData)
  | own (a : Addr) (ds : List PyData)
  | dic (a : Addr) (c : DCon)
  | row
  | mem (a : Addr) (f : List Int → PyData → Prop) (ks : List (List Int))
abbrev DEnv := List Slot
def Slot.addr : Slot → Option Addr
  | .own a _ => some a
  | .dic a _ => some a
  | .mem a _ _ => some a
  | _ => none
def owns (ρ : DEnv) : List Addr := ρ.filterMap Slot.addr
/-- what stands around: the heap at the entry, what others hold, the row of draws -/
structure Ctx where
  H0 : Hp
  ex : List Addr
  rw : List Addr
def mu (C : Ctx) (ρ : DEnv) : List Addr := C.rw ++ owns ρ
def hs (C : Ctx) (ρ : DEnv) : List Addr := C.ex ++ mu C ρ
/-- the heap without some addresses -/
def hide (as : List Addr) (H : Hp) : Hp := fun b => if b ∈ as then none else H b
theorem hide_out {as : List Addr} {H : Hp} {b : Addr} (h : b ∉ as) : hide as H b = H b := if_neg h
theorem hide_in {as : List Addr} {H : Hp} {b : Addr} (h : b ∈ as) : hide as H b = none := if_pos h
theorem hide_some {as : List Addr} {H : Hp} {b : Addr} {o : HO} (h : hide as H b = some o) : b ∉ as ∧ H b = some o := by
  by_cases q : b ∈ as
  · rw [hide_in q] at h; cases h
  · exact ⟨q, by rw [hide_out q] at h; exact h⟩
theorem hide_nil (H : Hp) : hide [] H = H := by funext b; exact hide_out (by simp)
theorem hide_congr {as bs : List Addr} {H : Hp} (h : ∀ b, b ∈ as ↔ b ∈ bs) : hide as H = hide bs H := by
  funext b
  by_cases q : b ∈ as
  · rw [hide_in q, hide_in ((h b).mp q)]
  · rw [hide_out q, hide_out (fun z => q ((h b).mpr z))]

/-- every tracked object of the first stands in the second -/
def Le (H H' : Hp) : Prop := ∀ b o, H b = some o → H' b = some o
theorem Le.rfl {H : Hp} : Le H H := fun _ _ e => e
theorem Le.trans {H H' H'' : Hp} (a : Le H H') (b : Le H' H'') : Le H H'' := fun c o e => b c o (a c o e)
theorem Le.upd {H : Hp} {p : Addr} {o : HO} (h : H p = none) : Le H (upd H p o) := fun b u e => by
  rw [upd_ne (ne_of_none e h)]; exact e
theorem Rd.le {H H' : Hp} {a : Addr} {u : HO} (l : Le H H') (r : Rd H a u) : Rd H' a u := by
  rcases r with r | ⟨o, r⟩
  · exact .inl (l _ _ r)
  · exact .inr ⟨o, l _ _ r⟩
theorem SqL.le {K : PySem.W.Frag} {H H' : Hp} {a : Addr} {xs : List V} (l : Le H H') (r : SqL K H a xs) : SqL K H' a xs := by
  rcases r with r | r
  · exact .inl (Rd.le l r)
  · exact .inr r
theorem SqT.le {K : PySem.W.Frag} {H H' : Hp} {a : Addr} {xs : List V} (l : Le H H') (r : SqT K H a xs) : SqT K H' a xs := by
  rcases r with r | r
  · exact .inl (Rd.le l r)
  · exact .inr r
/-- keys as data -/
def kD : Key → PyData
  | .inl i => .int i
  | .inr x => .str x
def tD (k : List Key) : PyData := .tuple (k.map kD)
/-! data by value: every tuple of it stands in the heap as one, every dict of it is locked for good -/
mutual
inductive Dp (K : PySem.W.Frag) (H : Hp) : V → PyData → Prop
  | non : Dp K H .non .none
  | bl (b : Bool) : Dp K H (.bl b) (.bool b)
  | int (i : Int) : Dp K H (.int i) (.int i)
  | str (x : Str) : Dp K H (.str x) (.str x)
  | lst {a : Addr} {xs : List V} {ds : List PyData} : SqL K H a xs → DpAll K H xs ds → Dp K H (.ref a) (.list ds)
  | tup {a : Addr} {xs : List V} {ds : List PyData} : H a = some (.tup xs) → DpAll K H xs ds → Dp K H (.ref a) (.tuple ds)
  | dicK {a : Addr} {o : Obj} {kvV : List (Key × V)} {kvs : List (PyData × PyData)} : H a = some (.frz o (.dK kvV)) → kvs.map (·.1) = kvV.map (fun p => kD p.1) → DpAll K H (kvV.map (·.2)) (kvs.map (·.2)) → Dp K H (.ref a) (.dict kvs)
  | dicT {a : Addr} {o : Obj} {kvV : List (List Key × V)} {kvs : List (PyData × PyData)} : H a = some (.frz o (.dT kvV)) → kvs.map (·.1) = kvV.map (fun p => tD p.1) → DpAll K H (kvV.map (·.2)) (kvs.map (·.2)) → Dp K H (.ref a) (.dict ((.none, .none) :: kvs))
inductive DpAll (K : PySem.W.Frag) (H : Hp) : List V → List PyData → Prop
  | nil : DpAll K H [] []
  | cons {v : V} {vs : List V} {d : PyData} {ds : List PyData} : Dp K H v d → DpAll K H vs ds → DpAll K H (v :: vs) (d :: ds)
end
/-! no dict within -/
mutual
def plain : PyData → Bool
  | .list xs => plainAll xs
  | .tuple xs => plainAll xs
  | .dict _ => false
  | _ => true
def plainAll : List PyData → Bool
  | [] => true
  | x :: xs => plain x && plainAll xs
end
mutual
theorem Dp.old {K : PySem.W.Frag} {H : Hp} : ∀ {v : V} {d : PyData}, plain d = true → Dp K H v d → L2.Dp K H v d
  | _, _, _, .non => .non
  | _, _, _, .bl b => .bl b
  | _, _, _, .int i => .int i
  | _, _, _, .str x => .str x
  | _, _, p, .lst s a => .lst s (DpAll.old (by simpa [plain] using p) a)
  | _, _, p, .tup s a => .tup (SqT.of s) (DpAll.old (by simpa [plain] using p) a)
  | _, _, p, .dicK _ _ _ => by simp [plain] at p
  | _, _, p, .dicT _ _ _ => by simp [plain] at p
theorem DpAll.old {K : PySem.W.Frag} {H : Hp} : ∀ {vs : List V} {ds : List PyData}, plainAll ds = true → DpAll K H vs ds → L2.DpAll K H vs ds
  | _, _, _, .nil => .nil
  | _, _, p, .cons a b => by
    rw [plainAll, Bool.and_eq_true_iff] at p
    exact .cons (Dp.old p.1 a) (DpAll.old p.2 b)
end
mutual
theorem plain_of : ∀ d : PyData, d.canLay0 = true → plain d = true
  | .none, _ => rfl
  | .bool _, _ => rfl
  | .int _, _ => rfl
  | .str _, _ => rfl
  | .list xs, h => by
    simp only [plain]
    exact plain_all xs (by simpa [PyData.canLay0] using h)
  | .tuple xs, h => by
    simp only [plain]
    exact plain_all xs (by simpa [PyData.canLay0] using h)
  | .dict _, h => by simp [PyData.canLay0] at h
theorem plain_all : ∀ ds : List PyData, PyData.canLayAll0 ds = true → plainAll ds = true
  | [], _ => rfl
  | d :: ds, h => by
    have h' : d.canLay0 = true ∧ PyData.canLayAll0 ds = true := by simpa [PyData.canLayAll0] using h
    simp only [plainAll, plain_of d h'.1, plain_all ds h'.2, Bool.and_self]
end
theorem plain_sh {d : PyData} (h : SeqAt.shaped d = true) : plain d = true := plain_of d (by
  unfold SeqAt.shaped at h
  exact (Bool.and_eq_true_iff.mp h).1)
mutual
theorem Dp.le {K : PySem.W.Frag} {H H' : Hp} (l : Le H H') : ∀ {v : V} {d : PyData}, Dp K H v d → Dp K H' v d
  | _, _, .non => .non
  | _, _, .bl b => .bl b
  | _, _, .int i => .int i
  | _, _, .str x => .str x
  | _, _, .lst s a => .lst (SqL.le l s) (DpAll.le l a)
  | _, _, .tup s a => .tup (l _ _ s) (DpAll.le l a)
  | _, _, .dicK s k a => .dicK (l _ _ s) k (DpAll.le l a)
  | _, _, .dicT s k a => .dicT (l _ _ s) k (DpAll.le l a)
theorem DpAll.le {K : PySem.W.Frag} {H H' : Hp} (l : Le H H') : ∀ {vs : List V} {ds : List PyData}, DpAll K H vs ds → DpAll K H' vs ds
  | _, _, .nil => .nil
  | _, _, .cons a b => .cons (Dp.le l a) (DpAll.le l b)
end
section
variable {K : PySem.W.Frag} {H : Hp}
theorem DpAll.length : ∀ {vs : List V} {ds : List PyData}, DpAll K H vs ds → vs.length = ds.length
  | _, _, .nil => rfl
  | _, _, .cons _ b => by simp [DpAll.length b]
theorem DpAll.get : ∀ {vs : List V} {ds : List PyData} {i : Nat} {d : PyData}, DpAll K H vs ds → ds[i]? = some d → ∃ v, vs[i]? = some v ∧ Dp K H v d
  | _, _, _, _, .nil, e => by simp at e
  | _, _, 0, _, .cons a _, e => by simp at e; subst e; exact ⟨_, rfl, a⟩
  | _, _, i + 1, d, .cons _ b, e => by
    obtain ⟨v, h1, h2⟩ := DpAll.get (i := i) (d := d) b (by simpa using e)
    exact ⟨v, by simpa using h1, h2⟩
theorem DpAll.getV : ∀ {vs : List V} {ds : List PyData} {i : Nat} {v : V}, DpAll K H vs ds → vs[i]? = some v → ∃ d, ds[i]? = some d ∧ Dp K H v d
  | _, _, _, _, .nil, e => by simp at e
  | _, _, 0, _, .cons a _, e => by simp at e; subst e; exact ⟨_, rfl, a⟩
  | _, _, i + 1, d, .cons _ b, e => by
    obtain ⟨v, h1, h2⟩ := DpAll.getV (i := i) (v := d) b (by simpa using e)
    exact ⟨v, by simpa using h1, h2⟩
theorem DpAll.append : ∀ {vs ws : List V} {ds es : List PyData}, DpAll K H vs ds → DpAll K H ws es → DpAll K H (vs ++ ws) (ds ++ es)
  | _, _, _, _, .nil, s => s
  | _, _, _, _, .cons r t, s => .cons r (DpAll.append t s)
theorem DpAll.set {v : V} {d : PyData} (r : Dp K H v d) : ∀ {vs : List V} {ds : List PyData} (i : Nat), DpAll K H vs ds → DpAll K H (vs.set i v) (ds.set i d)
  | _, _, _, .nil => .nil
  | _, _, 0, .cons _ t => .cons r t
  | _, _, i + 1, .cons q t => .cons q (DpAll.set r i t)
theorem DpAll.take : ∀ {vs : List V} {ds : List PyData} (n : Nat), DpAll K H vs ds → DpAll K H (vs.take n) (ds.take n)
  | _, _, 0, _ => .nil
  | _, _, _ + 1, .nil => .nil
  | _, _, n + 1, .cons r t => .cons r (DpAll.take n t)
theorem DpAll.drop : ∀ {vs : List V} {ds : List PyData} (n : Nat), DpAll K H vs ds → DpAll K H (vs.drop n) (ds.drop n)
  | _, _, 0, r => r
  | _, _, _ + 1, .nil => .nil
  | _, _, n + 1, .cons _ t => DpAll.drop n t
theorem DpAll.dropLast {vs : List V} {ds : List PyData} (h : DpAll K H vs ds) : DpAll K H vs.dropLast ds.dropLast := by
  rw [List.dropLast_eq_take, List.dropLast_eq_take, DpAll.length h]
  exact DpAll.take _ h
theorem DpAll.ints : ∀ {vs : List V} {ns : List Int}, DpAll K H vs (ns.map PyData.int) → vs = ns.map V.int
  | _, [], .nil => rfl
  | _, n :: ns, .cons (.int _) b => by rw [List.map_cons, DpAll.ints b]
theorem DpAll.of_ints : ∀ (ns : List Int), DpAll K H (ns.map V.int) (ns.map PyData.int)
  | [] => .nil
  | n :: ns => .cons (.int n) (DpAll.of_ints ns)
theorem DpAll.bls : ∀ {vs : List V} {ns : List Bool}, DpAll K H vs (ns.map PyData.bool) → vs = ns.map V.bl
  | _, [], .nil => rfl
  | _, n :: ns, .cons (.bl _) b => by rw [List.map_cons, DpAll.bls b]
theorem DpAll.nil_iff {vs : List V} {ds : List PyData} (h : DpAll K H vs ds) : vs.isEmpty = ds.isEmpty := by cases h <;> rfl
theorem Dp.int_of {v : V} {i : Int} (h : Dp K H v (.int i)) : v = .int i := by cases h; rfl
theorem Dp.bl_of {v : V} {b : Bool} (h : Dp K H v (.bool b)) : v = .bl b := by cases h; rfl
theorem Dp.list_of {v : V} {ds : List PyData} (h : Dp K H v (.list ds)) : ∃ a vs, v = .ref a ∧ SqL K H a vs ∧ DpAll K H vs ds := by
  cases h with | lst a b => exact ⟨_, _, rfl, a, b⟩
theorem Dp.tup_of {v : V} {ds : List PyData} (h : Dp K H v (.tuple ds)) : ∃ a vs, v = .ref a ∧ SqT K H a vs ∧ DpAll K H vs ds := by
  cases h with | tup a b => exact ⟨_, _, rfl, .of a, b⟩
end

/-- the row of draws: the script, how many are taken, the seed, what is left of a large cell -/
def RowOk (K : PySem.W.Frag) (hH H : Hp) (r : Addr) : Prop :=
  ∃ (sc : Addr) (ns : List Int) (i s b : Int), H r = some (.lst [.ref sc, .int i, .int s, .int b]) ∧ SqL K hH sc (ns.map V.int) ∧ 0 ≤ i ∧ 0 ≤ s ∧ s < 2147483647 ∧ 0 ≤ b

/-- a dict of one's own -/
def DicOk (K : PySem.W.Frag) (hH H : Hp) (a : Addr) : DCon → Prop
  | .K kvs => ∃ kvV : List (Key × V), H a = some (.dK kvV) ∧ kvV.map (·.1) = kvs.map (·.1) ∧ DpAll K hH (kvV.map (·.2)) (kvs.map (·.2))
  | .T kvs => ∃ kvV : List (List Key × V), H a = some (.dT kvV) ∧ kvV.map (·.1) = kvs.map (·.1) ∧ DpAll K hH (kvV.map (·.2)) (kvs.map (·.2))
/-- a dict of one's own that remembers answers: tuples of ints as keys, each answer as f says; some keys that are there -/
def keyI (k : List Int) : List Key := k.map Sum.inl
def MemOk (K : PySem.W.Frag) (hH H : Hp) (a : Addr) (f : List Int → PyData → Prop) (ks : List (List Int)) : Prop :=
  ∃ kvs : List (List Int × V × PyData), H a = some (.dT (kvs.map fun t => (keyI t.1, t.2.1))) ∧ (∀ t ∈ kvs, Dp K hH t.2.1 t.2.2 ∧ f t.1 t.2.2) ∧ (∀ k ∈ ks, ∃ t ∈ kvs, t.1 = k) ∧ (kvs.map (·.1)).Nodup
/-- a slot's value -/
def SlotOk (K : PySem.W.Frag) (C : Ctx) (hH H : Hp) : Option V → Slot → Prop
  | _, .un => True
  | some v, .sh d => Dp K hH v d
  | some v, .own a ds => v = .ref a ∧ (∃ vs, H a = some (.lst vs) ∧ DpAll K hH vs ds) ∧ C.H0 a = none
  | some v, .dic a c => v = .ref a ∧ DicOk K hH H a c ∧ C.H0 a = none
  | some v, .row => ∃ a, v = .ref a ∧ a ∈ C.rw
  | some v, .mem a f ks => v = .ref a ∧ MemOk K hH H a f ks ∧ C.H0 a = none
  | none, _ => False
theorem DicOk.move {K : PySem.W.Frag} {hH hH' H H' : Hp} {a : Addr} {c : DCon} (l : Le hH hH') (k : ∀ o, H a = some o → H' a = some o) (s : DicOk K hH H a c) : DicOk K hH' H' a c := by
  cases c with
  | K kvs => obtain ⟨w, h1, h2, h3⟩ := s; exact ⟨w, k _ h1, h2, DpAll.le l h3⟩
  | T kvs => obtain ⟨w, h1, h2, h3⟩ := s; exact ⟨w, k _ h1, h2, DpAll.le l h3⟩
theorem DicOk.some {K : PySem.W.Frag} {hH H : Hp} {a : Addr} {c : DCon} (s : DicOk K hH H a c) : ∃ o, H a = some o ∧ ∀ xs, o ≠ HO.tup xs := by
  cases c with
  | K kvs => obtain ⟨w, h1, _⟩ := s; exact ⟨_, h1, fun _ z => nomatch z⟩
  | T kvs => obtain ⟨w, h1, _⟩ := s; exact ⟨_, h1, fun _ z => nomatch z⟩
theorem MemOk.move {K : PySem.W.Frag} {hH hH' H H' : Hp} {a : Addr} {f : List Int → PyData → Prop} {ks : List (List Int)} (l : Le hH hH') (k : ∀ o, H a = some o → H' a = some o) (s : MemOk K hH H a f ks) : MemOk K hH' H' a f ks := by
  obtain ⟨kvs, h1, h2, h3⟩ := s
  exact ⟨kvs, k _ h1, fun t ht => ⟨Dp.le l (h2 t ht).1, (h2 t ht).2⟩, h3⟩
theorem MemOk.some {K : PySem.W.Frag} {hH H : Hp} {a : Addr} {f : List Int → PyData → Prop} {ks : List (List Int)} (s : MemOk K hH H a f ks) : ∃ o, H a = some o ∧ ∀ xs, o ≠ HO.tup xs := by
  obtain ⟨kvs, h1, _⟩ := s
  exact ⟨_, h1, fun _ z => nomatch z⟩
theorem SlotOk.move {K : PySem.W.Frag} {C C' : Ctx} {hH hH' H H' : Hp} {v : Option V} {x : Slot} (l : Le hH hH') (k : ∀ a, x.addr = some a → ∀ o, H a = some o → H' a = some o) (h0 : C'.H0 = C.H0) (hr : C'.rw = C.rw) (s : SlotOk K C hH H v x) : SlotOk K C' hH' H' v x := by
  cases x with
  | un => cases v <;> trivial
  | sh d => cases v with
    | none => cases s
    | some v => exact Dp.le l s
  | own a ds => cases v with
    | none => cases s
    | some v =>
      obtain ⟨e2, ⟨vs, e3, e4⟩, e5⟩ := s
      exact ⟨e2, ⟨vs, k a rfl _ e3, DpAll.le l e4⟩, by rw [h0]; exact e5⟩
  | dic a c => cases v with
    | none => cases s
    | some v =>
      obtain ⟨e2, e3, e5⟩ := s
      exact ⟨e2, DicOk.move l (k a rfl) e3, by rw [h0]; exact e5⟩
  | row => cases v with
    | none => cases s
    | some v => obtain ⟨a, e, m⟩ := s; exact ⟨a, e, by rw [hr]; exact m⟩
  | mem a f ks => cases v with
    | none => cases s
    | some v =>
      obtain ⟨e2, e3, e5⟩ := s
      exact ⟨e2, MemOk.move l (k a rfl) e3, by rw [h0]; exact e5⟩
/-- what a slot holds alone is there, and was not at the entry -/
theorem SlotOk.has {K : PySem.W.Frag} {C : Ctx} {hH H : Hp} {v : Option V} {x : Slot} {a : Addr} (s : SlotOk K C hH H v x) (h : x.addr = some a) : (∃ o, H a = some o ∧ ∀ xs, o ≠ HO.tup xs) ∧ C.H0 a = none := by
  cases x with
  | own b ds => cases h; cases v with
    | none => cases s
    | some v => obtain ⟨_, ⟨vs, e, _⟩, e2⟩ := s; exact ⟨⟨_, e, fun _ z => nomatch z⟩, e2⟩
  | dic b c => cases h; cases v with
    | none => cases s
    | some v => obtain ⟨_, e, e2⟩ := s; exact ⟨e.some, e2⟩
  | mem b f ks => cases h; cases v with
    | none => cases s
    | some v => obtain ⟨_, e, e2⟩ := s; exact ⟨e.some, e2⟩
  | _ => cases h

structure EnvD (C : Ctx) (K : PySem.W.Frag) (H : Hp) (σ : L2.St) (ρ : DEnv) : Prop where
  len : σ.length = ρ.length
  slots : ∀ (i : Nat) (x : Slot), ρ[i]? = some x → ∃ v, σ[i]? = some v ∧ SlotOk K C (hide (hs C ρ) H) H v x
  nd : (owns ρ).Nodup
  dj : ∀ a ∈ owns ρ, a ∉ C.ex ∧ a ∉ C.rw
  dr : ∀ a ∈ C.rw, a ∉ C.ex
  exd : ∀ a ∈ C.ex, ∃ o, H a = some o ∧ ∀ xs, o ≠ HO.tup xs
  row : ∀ a ∈ C.rw, RowOk K (hide (hs C ρ) H) H a
  keep : ∀ b o, C.H0 b = some o → b ∉ C.rw → H b = some o

theorem mem_owns {ρ : DEnv} {a : Addr} : a ∈ owns ρ ↔ ∃ (i : Nat) (x : Slot), ρ[i]? = some x ∧ x.addr = some a := by
  unfold owns
  rw [List.mem_filterMap]
  constructor
  · rintro ⟨x, hx, e⟩
    obtain ⟨i, hi⟩ := List.mem_iff_getElem?.mp hx
    exact ⟨i, x, hi, e⟩
  · rintro ⟨i, x, h, e⟩
    exact ⟨_, List.mem_of_getElem? h, e⟩

theorem nodup_two {ρ : DEnv} (nd : (owns ρ).Nodup) {i j : Nat} (ij : i ≠ j) {a : Addr} {x y : Slot} (h : ρ[i]? = some x) (hx : x.addr = some a) (h' : ρ[j]? = some y) (hy : y.addr = some a) : False := by
  induction ρ generalizing i j with
  | nil => simp at h
  | cons z ρ ih =>
    cases i with
    | zero =>
      cases j with
      | zero => exact ij rfl
      | succ j =>
        simp at h h'
        subst h
        have : owns (z :: ρ) = a :: owns ρ := List.filterMap_cons_some hx
        rw [this] at nd
        exact (List.nodup_cons.mp nd).1 (mem_owns.mpr ⟨j, y, h', hy⟩)
    | succ i =>
      cases j with
      | zero =>
        simp at h h'
        subst h'
        have : owns (z :: ρ) = a :: owns ρ := List.filterMap_cons_some hy
        rw [this] at nd
        exact (List.nodup_cons.mp nd).1 (mem_owns.mpr ⟨i, x, h, hx⟩)
      | succ j =>
        simp at h h'
        have nd' : (owns ρ).Nodup := by
          cases q : z.addr with
          | none =>
            have : owns (z :: ρ) = owns ρ := List.filterMap_cons_none q
            rw [this] at nd; exact nd
          | some b =>
            have : owns (z :: ρ) = b :: owns ρ := List.filterMap_cons_some q
            rw [this] at nd; exact (List.nodup_cons.mp nd).2
        exact ih nd' (fun z => ij (by rw [z])) h h'
section
variable {C : Ctx} {K : PySem.W.Frag} {H H' : Hp} {σ : L2.St} {ρ ρ' ρ'' : DEnv}
theorem EnvD.own_some (E : EnvD C K H σ ρ) {a : Addr} (h : a ∈ owns ρ) : ∃ o, H a = some o ∧ ∀ xs, o ≠ HO.tup xs := by
  obtain ⟨i, x, e, hx⟩ := mem_owns.mp h
  obtain ⟨v, _, s⟩ := E.slots i _ e
  exact (s.has hx).1
/-- what is hidden is there -/
theorem EnvD.hid (E : EnvD C K H σ ρ) {a : Addr} (h : a ∈ hs C ρ) : ∃ o, H a = some o ∧ ∀ xs, o ≠ HO.tup xs := by
  rcases List.mem_append.mp h with h | h
  · exact E.exd a h
  · rcases List.mem_append.mp h with h | h
    · obtain ⟨_, _, _, _, _, e, _⟩ := E.row a h; exact ⟨_, e, fun _ z => nomatch z⟩
    · exact E.own_some h
theorem hide_le {as : List Addr} (l : Le H H') : Le (hide as H) (hide as H') := fun b o e => by
  obtain ⟨n, e⟩ := hide_some e
  rw [hide_out n]; exact l b o e
/-- a step: what is not held alone is kept; what is newly held is new -/
structure Step (C : Ctx) (ρ : DEnv) (H : Hp) (ρ' : DEnv) (H' : Hp) : Prop where
  keep : ∀ b o, b ∉ mu C ρ → H b = some o → H' b = some o
  dom : ∀ b o, H b = some o → ∃ o', H' b = some o'
  new : ∀ a ∈ owns ρ', a ∈ owns ρ ∨ H a = none
theorem Step.rfl : Step C ρ H ρ H := ⟨fun _ _ _ e => e, fun _ o e => ⟨o, e⟩, fun _ h => .inl h⟩
theorem Step.trans {H'' : Hp} (s : Step C ρ H ρ' H') (t : Step C ρ' H' ρ'' H'') : Step C ρ H ρ'' H'' := by
  refine ⟨fun b o n e => ?_, fun b o e => ?_, fun a h => ?_⟩
  · refine t.keep b o (fun z => ?_) (s.keep b o n e)
    rcases List.mem_append.mp z with z | z
    · exact n (List.mem_append_left _ z)
    · rcases s.new b z with z | z
      · exact n (List.mem_append_right _ z)
      · rw [z] at e; cases e
  · obtain ⟨o', e'⟩ := s.dom b o e
    exact t.dom b o' e'
  · rcases t.new a h with h | h
    · exact s.new a h
    · cases q : H a with
      | none => exact .inr _root_.rfl
      | some o => obtain ⟨o', e'⟩ := s.dom a o q; rw [h] at e'; cases e'

theorem EnvD.le (E : EnvD C K H σ ρ) (l : Le H H') : EnvD C K H' σ ρ where
  len := E.len
  slots := fun i x e => by
    obtain ⟨v, e1, s⟩ := E.slots i x e
    exact ⟨v, e1, s.move (hide_le l) (fun a _ o e => l a o e) rfl rfl⟩
  nd := E.nd
  dj := E.dj
  dr := E.dr
  exd := fun a h => let ⟨o, e, n⟩ := E.exd a h; ⟨o, l _ _ e, n⟩
  row := fun a h => by
    obtain ⟨sc, ns, i, s, b, e, q, r⟩ := E.row a h
    exact ⟨sc, ns, i, s, b, l _ _ e, SqL.le (hide_le l) q, r⟩
  keep := fun b o e n => l _ _ (E.keep b o e n)
theorem Step.le (l : Le H H') : Step C ρ H ρ H' := ⟨fun b o _ e => l b o e, fun b o e => ⟨o, l b o e⟩, fun _ h => .inl h⟩
/-- what is visible stays so -/
theorem Step.vis (s : Step C ρ H ρ' H') : Le (hide (hs C ρ) H) (hide (hs C ρ') H') := fun b o e => by
  obtain ⟨n, e⟩ := hide_some e
  have n1 : b ∉ C.ex := fun z => n (List.mem_append_left _ z)
  have n2 : b ∉ mu C ρ := fun z => n (List.mem_append_right _ z)
  rw [hide_out]
  · exact s.keep b o n2 e
  · intro z
    rcases List.mem_append.mp z with z | z
    · exact n1 z
    · rcases List.mem_append.mp z with z | z
      · exact n2 (List.mem_append_left _ z)
      · rcases s.new b z with z | z
        · exact n2 (List.mem_append_right _ z)
        · rw [z] at e; cases e
theorem EnvD.fresh0 (E : EnvD C K H σ ρ) {a : Addr} (h : H a = none) : C.H0 a = none := by
  cases q : C.H0 a with
  | none => rfl
  | some o =>
    by_cases r : a ∈ C.rw
    · obtain ⟨_, _, _, _, _, e, _⟩ := E.row a r; rw [h] at e; cases e
    · rw [E.keep a o q r] at h; cases h
theorem EnvD.notin (E : EnvD C K H σ ρ) {a : Addr} (h : H a = none) : a ∉ hs C ρ := fun z => by
  obtain ⟨o, e, _⟩ := E.hid z; rw [h] at e; cases e

/-! ### slots that change -/
theorem owns_set_sub {i : Nat} {x : Slot} (hx : x.addr = none) {a : Addr} (h : a ∈ owns (ρ.set i x)) : a ∈ owns ρ := by
  obtain ⟨j, y, e, hy⟩ := mem_owns.mp h
  rw [List.getElem?_set] at e
  split at e
  · split at e
    · cases e; rw [hx] at hy; cases hy
    · cases e
  · exact mem_owns.mpr ⟨j, y, e, hy⟩
theorem filterMap_set_sub {x : Slot} (hx : x.addr = none) : ∀ (ρ : DEnv) (i : Nat), (owns (ρ.set i x)).Sublist (owns ρ)
  | [], _ => by simp [owns]
  | y :: ρ, 0 => by
    show (List.filterMap Slot.addr (x :: ρ)).Sublist (List.filterMap Slot.addr (y :: ρ))
    rw [List.filterMap_cons_none hx]
    cases h : y.addr with
    | none => rw [List.filterMap_cons_none h]; exact List.Sublist.refl _
    | some a => rw [List.filterMap_cons_some h]; exact List.Sublist.cons _ (List.Sublist.refl _)
  | y :: ρ, i + 1 => by
    show (List.filterMap Slot.addr (y :: ρ.set i x)).Sublist (List.filterMap Slot.addr (y :: ρ))
    have ih := filterMap_set_sub hx ρ i
    cases h : y.addr with
    | none => rw [List.filterMap_cons_none h, List.filterMap_cons_none h]; exact ih
    | some a => rw [List.filterMap_cons_some h, List.filterMap_cons_some h]; exact List.Sublist.cons_cons _ ih
theorem hide_sub {as bs : List Addr} (h : ∀ b, b ∈ bs → b ∈ as) : Le (hide as H) (hide bs H) := fun b o e => by
  obtain ⟨n, e⟩ := hide_some e
  rw [hide_out (fun z => n (h b z))]; exact e
theorem hs_sub (h : ∀ b, b ∈ owns ρ' → b ∈ owns ρ) : ∀ b, b ∈ hs C ρ' → b ∈ hs C ρ := fun b z => by
  rcases List.mem_append.mp z with z | z
  · exact List.mem_append_left _ z
  · rcases List.mem_append.mp z with z | z
    · exact List.mem_append_right _ (List.mem_append_left _ z)
    · exact List.mem_append_right _ (List.mem_append_right _ (h b z))
theorem SlotOk.mono {hH hH' : Hp} {v : Option V} {x : Slot} (l : Le hH hH') (s : SlotOk K C hH H v x) : SlotOk K C hH' H v x := s.move l (fun _ _ _ e => e) rfl rfl
theorem RowOk.mono {hH hH' : Hp} {r : Addr} (l : Le hH hH') (s : RowOk K hH H r) : RowOk K hH' H r := by
  obtain ⟨sc, ns, i, s, b, e, q, r⟩ := s
  exact ⟨sc, ns, i, s, b, e, SqL.le l q, r⟩
/-- a slot is given something that is no list of one's own -/
theorem EnvD.put (E : EnvD C K H σ ρ) {i : Nat} {v : Option V} {x : Slot} (hx : x.addr = none) (hs' : SlotOk K C (hide (hs C (ρ.set i x)) H) H v x) : EnvD C K H (σ.set i v) (ρ.set i x) := by
  have sub : ∀ b, b ∈ owns (ρ.set i x) → b ∈ owns ρ := fun b z => owns_set_sub hx z
  have l : Le (hide (hs C ρ) H) (hide (hs C (ρ.set i x)) H) := hide_sub (hs_sub sub)
  refine ⟨by simp [E.len], fun j y e => ?_, (filterMap_set_sub hx ρ i).nodup E.nd, fun a h => E.dj a (sub a h), E.dr, E.exd, fun a h => RowOk.mono l (E.row a h), E.keep⟩
  rw [List.getElem?_set] at e
  by_cases ij : i = j
  · subst ij
    rw [if_pos rfl] at e
    split at e
    · cases e
      exact ⟨v, by rw [List.getElem?_set]; simp [E.len]; assumption, hs'⟩
    · cases e
  · rw [if_neg ij] at e
    obtain ⟨u, e1, s⟩ := E.slots j y e
    exact ⟨u, by rw [List.getElem?_set_ne ij]; exact e1, SlotOk.mono l s⟩
theorem EnvD.sh (E : EnvD C K H σ ρ) {i : Nat} {v : V} {d : PyData} (h : Dp K (hide (hs C ρ) H) v d) : EnvD C K H (σ.set i (some v)) (ρ.set i (.sh d)) :=
  E.put rfl (Dp.le (hide_sub (hs_sub fun b z => owns_set_sub rfl z)) h)
theorem Step.put {i : Nat} {x : Slot} (hx : x.addr = none) : Step C ρ H (ρ.set i x) H := ⟨fun _ _ _ e => e, fun _ o e => ⟨o, e⟩, fun _ h => .inl (owns_set_sub hx h)⟩
/-- a list of one's own is let go: from now on it stays as it is -/
theorem EnvD.freeze (E : EnvD C K H σ ρ) {i : Nat} {a : Addr} {ds : List PyData} (h : ρ[i]? = some (.own a ds)) : EnvD C K H σ (ρ.set i (.sh (.list ds))) ∧ ∃ v, σ[i]? = some (some v) ∧ Dp K (hide (hs C (ρ.set i (.sh (.list ds)))) H) v (.list ds) := by
  obtain ⟨v, e, s⟩ := E.slots i _ h
  cases v with
  | none => cases s
  | some v =>
    obtain ⟨e2, ⟨vs, e3, e4⟩, e5⟩ := s
    have sub : ∀ b, b ∈ owns (ρ.set i (.sh (.list ds))) → b ∈ owns ρ := fun b z => owns_set_sub rfl z
    have l : Le (hide (hs C ρ) H) (hide (hs C (ρ.set i (.sh (.list ds)))) H) := hide_sub (hs_sub sub)
    have na : a ∉ owns (ρ.set i (.sh (.list ds))) := by
      intro z
      obtain ⟨j, y, q, hy⟩ := mem_owns.mp z
      by_cases ij : i = j
      · subst ij
        rw [List.getElem?_set] at q
        split at q
        · split at q
          · cases q; cases hy
          · cases q
        · rename_i z; exact z rfl
      · rw [List.getElem?_set_ne ij] at q
        exact nodup_two E.nd ij h rfl q hy
    have ha := E.dj a (mem_owns.mpr ⟨i, _, h, rfl⟩)
    have vis : a ∉ hs C (ρ.set i (.sh (.list ds))) := fun z => by
      rcases List.mem_append.mp z with z | z
      · exact ha.1 z
      · rcases List.mem_append.mp z with z | z
        · exact ha.2 z
        · exact na z
    have D : Dp K (hide (hs C (ρ.set i (.sh (.list ds)))) H) v (.list ds) := by
      subst e2
      exact .lst (SqL.of (by rw [hide_out vis]; exact e3)) (DpAll.le l e4)
    refine ⟨?_, v, e, D⟩
    have E' := E.put (i := i) (v := some v) (x := .sh (.list ds)) rfl D
    have q : σ.set i (some v) = σ := by
      apply List.ext_getElem?
      intro j
      by_cases ij : i = j
      · subst ij
        rw [e, List.getElem?_set_self (by exact (List.getElem?_eq_some_iff.mp e).1)]
      · rw [List.getElem?_set_ne ij]
    rw [q] at E'
    exact E'
end
end DL
/-! DL: the judgements: what a piece of Python asks, said of data. -/
namespace DL
open PySem PySem.Spec PyProof.Rows L2
abbrev DQ := PyData → DEnv → Prop
abbrev TDE := DEnv → DQ → Prop
abbrev TDT := DEnv → (Bool → DEnv → Prop) → Prop
abbrev TDA := DEnv → (List PyData → DEnv → Prop) → Prop
/-- an expression -/
structure DE (X : Cx) (e : Expr) (t : TDE) : Prop where
  ex : ∃ te, PE X e te ∧ ∀ C σ H ρ q Q, EnvD C X.K H σ ρ → t ρ q → (∀ v H' d ρ', EnvD C X.K H' σ ρ' → Step C ρ H ρ' H' → Dp X.K (hide (hs C ρ') H') v d → q d ρ' → Q v H') → te σ H Q
/-- a value that may be a list of one's own, lent -/
def BV (K : PySem.W.Frag) (C : Ctx) (ρ : DEnv) (H : Hp) (v : V) (d : PyData) : Prop :=
  Dp K (hide (hs C ρ) H) v d ∨ ∃ a vs ds, v = .ref a ∧ d = .list ds ∧ H a = some (.lst vs) ∧ DpAll K (hide (hs C ρ) H) vs ds ∧ ∃ i : Nat, ρ[i]? = some (.own a ds)
structure DB (X : Cx) (e : Expr) (t : TDE) : Prop where
  ex : ∃ te, PE X e te ∧ ∀ C σ H ρ q Q, EnvD C X.K H σ ρ → t ρ q → (∀ v H' d ρ', EnvD C X.K H' σ ρ' → Step C ρ H ρ' H' → BV X.K C ρ' H' v d → q d ρ' → Q v H') → te σ H Q
/-- a test -/
structure DT (X : Cx) (e : Expr) (t : TDT) : Prop where
  ex : ∃ te, PT X e te ∧ ∀ C σ H ρ q Q, EnvD C X.K H σ ρ → t ρ q → (∀ b H' ρ', EnvD C X.K H' σ ρ' → Step C ρ H ρ' H' → q b ρ' → Q b H') → te σ H Q
structure DW (X : Cx) (e : Expr) (t : TDT) : Prop where
  ex : ∃ te, PW X e te ∧ ∀ C σ H ρ q Q, EnvD C X.K H σ ρ → t ρ q → (∀ b H' ρ', EnvD C X.K H' σ ρ' → Step C ρ H ρ' H' → q b ρ' → Q b H') → te σ H Q
/-- arguments -/
structure DA (X : Cx) (es : List Expr) (t : TDA) : Prop where
  ex : ∃ te, PA X es te ∧ ∀ C σ H ρ q Q, EnvD C X.K H σ ρ → t ρ q → (∀ vs H' ds ρ', EnvD C X.K H' σ ρ' → Step C ρ H ρ' H' → DpAll X.K (hide (hs C ρ') H') vs ds → q ds ρ' → Q vs H') → te σ H Q
abbrev Ctx.with (C : Ctx) (a : Addr) : Ctx := { C with ex := a :: C.ex }
/-- an expression that makes a new list -/
structure DF (X : Cx) (e : Expr) (t : TDA) : Prop where
  ex : ∃ te, PE X e te ∧ ∀ C σ H ρ q Q, EnvD C X.K H σ ρ → t ρ q → (∀ a vs H' ds ρ', EnvD (C.with a) X.K H' σ ρ' → Step C ρ H ρ' H' → H a = none → H' a = some (.lst vs) → DpAll X.K (hide (hs (C.with a) ρ') H') vs ds → q ds ρ' → Q (.ref a) H') → te σ H Q
/-- what is wanted behind a statement -/
structure DEnds where
  nx : DEnv → Prop
  rt : PyData → DEnv → Prop
  bk : DEnv → Prop := fun _ => False
  ct : DEnv → Prop := fun _ => False
abbrev TDS := DEnds → DEnv → Prop
structure EndsOk (C : Ctx) (K : PySem.W.Frag) (ρ : DEnv) (H : Hp) (q : DEnds) (Q : Ends) : Prop where
  nx : ∀ σ' H' ρ', EnvD C K H' σ' ρ' → Step C ρ H ρ' H' → q.nx ρ' → Q.nx σ' H'
  rt : ∀ v σ' H' d ρ', EnvD C K H' σ' ρ' → Step C ρ H ρ' H' → Dp K (hide (hs C ρ') H') v d → q.rt d ρ' → Q.rt v H'
  bk : ∀ σ' H' ρ', EnvD C K H' σ' ρ' → Step C ρ H ρ' H' → q.bk ρ' → Q.bk σ' H'
  ct : ∀ σ' H' ρ', EnvD C K H' σ' ρ' → Step C ρ H ρ' H' → q.ct ρ' → Q.ct σ' H'
theorem EndsOk.step {C : Ctx} {K : PySem.W.Frag} {ρ ρ1 : DEnv} {H H1 : Hp} {q : DEnds} {Q : Ends} (e : EndsOk C K ρ H q Q) (s : Step C ρ H ρ1 H1) : EndsOk C K ρ1 H1 q Q :=
  ⟨fun σ' H' ρ' a b => e.nx σ' H' ρ' a (s.trans b), fun v σ' H' d ρ' a b => e.rt v σ' H' d ρ' a (s.trans b), fun σ' H' ρ' a b => e.bk σ' H' ρ' a (s.trans b), fun σ' H' ρ' a b => e.ct σ' H' ρ' a (s.trans b)⟩
structure DS (X : Cx) (st : Stmt) (t : TDS) : Prop where
  ex : ∃ ts, PS X st ts ∧ ∀ C σ H ρ q Q, EnvD C X.K H σ ρ → t q ρ → EndsOk C X.K ρ H q Q → ts Q σ H
structure DSs (X : Cx) (st : List Stmt) (t : TDS) : Prop where
  ex : ∃ ts, PSs X st ts ∧ ∀ C σ H ρ q Q, EnvD C X.K H σ ρ → t q ρ → EndsOk C X.K ρ H q Q → ts Q σ H

section
variable {X : Cx} {e a b c : Expr} {es : List Expr} {pos : Pos} {t ta tb tc : TDE}
/-! ### names, constants -/
def tdSh (i : Nat) : TDE := fun ρ q => match ρ[i]? with
  | some (.sh d) => q d ρ
  | some (.own _ ds) => q (.list ds) (ρ.set i (.sh (.list ds)))
  | _ => False
theorem de_var {i : Nat} {x : Str} (hN : X.N[i]? = some x) (hv : Vis X.env.scope x) (hd : (x == ("__debug__" : Str)) = false := by decide) (hcd : (x == ("__classdict__" : Str)) = false := by decide) : DE X (.Name x pos) (tdSh i) := by
  refine ⟨_, pe_var hN hv hd hcd, fun C σ H ρ q Q E h k => ?_⟩
  unfold tdSh at h
  split at h
  · rename_i d e
    obtain ⟨v, e1, s⟩ := E.slots i _ e
    cases v with
    | none => cases s
    | some v => exact ⟨v, e1, k v H d ρ E .rfl s h⟩
  · rename_i a ds e
    obtain ⟨E', v, e1, D⟩ := E.freeze e
    exact ⟨v, e1, k v H _ _ E' (.put rfl) D h⟩
  · exact h.elim
def tdLent (i : Nat) : TDE := fun ρ q => match ρ[i]? with
  | some (.sh d) => q d ρ
  | some (.own _ ds) => q (.list ds) ρ
  | _ => False
theorem db_var {i : Nat} {x : Str} (hN : X.N[i]? = some x) (hv : Vis X.env.scope x) (hd : (x == ("__debug__" : Str)) = false := by decide) (hcd : (x == ("__classdict__" : Str)) = false := by decide) : DB X (.Name x pos) (tdLent i) := by
  refine ⟨_, pe_var hN hv hd hcd, fun C σ H ρ q Q E h k => ?_⟩
  unfold tdLent at h
  split at h
  · rename_i d e
    obtain ⟨v, e1, s⟩ := E.slots i _ e
    cases v with
    | none => cases s
    | some v => exact ⟨v, e1, k v H d ρ E .rfl (.inl s) h⟩
  · rename_i a ds e
    obtain ⟨v, e1, s⟩ := E.slots i _ e
    cases v with
    | none => cases s
    | some v =>
      obtain ⟨e2, ⟨vs, e3, e4⟩, e5⟩ := s
      exact ⟨v, e1, k v H _ ρ E .rfl (.inr ⟨a, vs, ds, e2, rfl, e3, e4, i, e⟩) h⟩
  · exact h.elim
theorem DE.lend (h : DE X e t) : DB X e t := by
  obtain ⟨te, hp, hq⟩ := h.ex
  exact ⟨te, hp, fun C σ H ρ q Q E w k => hq C σ H ρ q Q E w fun v H' d ρ' E' s D z => k v H' d ρ' E' s (.inl D) z⟩
theorem BV.list {K : PySem.W.Frag} {C : Ctx} {ρ : DEnv} {H : Hp} {v : V} {ds : List PyData} (h : BV K C ρ H v (.list ds)) : ∃ a vs, v = .ref a ∧ SqL K H a vs ∧ DpAll K (hide (hs C ρ) H) vs ds := by
  rcases h with h | ⟨a, vs, es, e1, e2, e3, e4, _⟩
  · obtain ⟨a, vs, e, s, d⟩ := Dp.list_of h
    exact ⟨a, vs, e, SqL.le (fun b o z => (hide_some z).2) s, d⟩
  · cases e2; exact ⟨a, vs, e1, SqL.of e3, e4⟩
theorem hide_Le {as : List Addr} {H : Hp} : Le (hide as H) H := fun b o z => (hide_some z).2
theorem BV.tup {K : PySem.W.Frag} {C : Ctx} {ρ : DEnv} {H : Hp} {v : V} {ds : List PyData} (h : BV K C ρ H v (.tuple ds)) : ∃ a vs, v = .ref a ∧ SqT K H a vs ∧ DpAll K (hide (hs C ρ) H) vs ds := by
  rcases h with h | ⟨a, vs, es, e1, e2, e3, e4, _⟩
  · obtain ⟨a, vs, e, s, d⟩ := Dp.tup_of h
    exact ⟨a, vs, e, SqT.le hide_Le s, d⟩
  · cases e2
theorem BV.flat {K : PySem.W.Frag} {C : Ctx} {ρ : DEnv} {H : Hp} {v : V} {d : PyData} (h : BV K C ρ H v d) (n : ∀ ds, d ≠ .list ds) : Dp K (hide (hs C ρ) H) v d := by
  rcases h with h | ⟨a, vs, es, e1, e2, e3, e4, _⟩
  · exact h
  · exact absurd e2 (n es)
/-- lent: through a step -/
theorem BV.step {K : PySem.W.Frag} {C : Ctx} {ρ ρ' : DEnv} {H H' : Hp} {v : V} {d : PyData} (h : Dp K (hide (hs C ρ) H) v d) (s : Step C ρ H ρ' H') : Dp K (hide (hs C ρ') H') v d := Dp.le s.vis h
def tdC (d : PyData) : TDE := fun ρ q => q d ρ
theorem de_int {i j} : DE X (.Constant (.int i) j pos) (tdC (.int i)) := ⟨_, pe_int, fun C σ H ρ q Q E h k => k _ H _ ρ E .rfl (.int i) h⟩
theorem de_bl {b j} : DE X (.Constant (.bool b) j pos) (tdC (.bool b)) := ⟨_, pe_bl, fun C σ H ρ q Q E h k => k _ H _ ρ E .rfl (.bl b) h⟩
theorem de_non {j} : DE X (.Constant .none j pos) (tdC .none) := ⟨_, pe_non, fun C σ H ρ q Q E h k => k _ H _ ρ E .rfl .non h⟩
/-- a module's plain constant -/
theorem de_glob {x : Str} {v : V} {u : Value} {d : PyData} (hg : Gl X x) (hm : X.mg x = some u) (r : RelV v u) (hd : ∀ H, Dp X.K H v d) (hdb : (x == ("__debug__" : Str)) = false := by decide) : DE X (.Name x pos) (tdC d) :=
  ⟨_, pe_glob hg hm r hdb, fun C σ H ρ q Q E h k => k _ H _ ρ E .rfl (hd _) h⟩

/-! ### operators -/
abbrev RD2 := PyData → PyData → (PyData → Prop) → Prop
def LOp (X : Cx) (f : Value → Value → Sem Value) (rd : RD2) : Prop :=
  ∃ r, OpR X f r ∧ ∀ as H x y dx dy qd Q, (∀ a ∈ as, ∃ o, H a = some o ∧ ∀ xs, o ≠ HO.tup xs) → Dp X.K (hide as H) x dx → Dp X.K (hide as H) y dy → rd dx dy qd →
    (∀ v H' d, Le H H' → Dp X.K (hide as H') v d → qd d → Q v H') → r x y H Q
def td2 (rd : RD2) (ta tb : TDE) : TDE := fun ρ q => ta ρ fun x ρ1 => tb ρ1 fun y ρ2 => rd x y fun z => q z ρ2
theorem de_op {op : Operator} {rd : RD2} (hl : LOp X (binaryOp op) rd) (ha : DE X a ta) (hb : DE X b tb) : DE X (.BinOp a op b pos) (td2 rd ta tb) := by
  obtain ⟨r, ho, hl⟩ := hl
  obtain ⟨pa, ha, qa⟩ := ha.ex
  obtain ⟨pb, hb, qb⟩ := hb.ex
  refine ⟨_, pe_op ho ha hb, fun C σ H ρ q Q E h k => ?_⟩
  refine qa C σ H ρ _ _ E h fun x H1 dx ρ1 E1 s1 D1 h1 => ?_
  refine qb C σ H1 ρ1 _ _ E1 h1 fun y H2 dy ρ2 E2 s2 D2 h2 => ?_
  refine hl (hs C ρ2) H2 x y dx dy _ _ (fun a h => E2.hid h) (BV.step D1 s2) D2 h2 fun v H3 d l D q3 => ?_
  exact k v H3 d ρ2 (E2.le l) ((s1.trans s2).trans (.le l)) D q3
theorem de_cmp {op : CmpOp} {rd : RD2} (hl : LOp X (compareOp op) rd) (ha : DE X a ta) (hb : DE X b tb) (hm : behindInMarks op b = false) : DE X (.Compare a [op] [b] pos) (td2 rd ta tb) := by
  obtain ⟨r, ho, hl⟩ := hl
  obtain ⟨pa, ha, qa⟩ := ha.ex
  obtain ⟨pb, hb, qb⟩ := hb.ex
  refine ⟨_, pe_cmpR ho ha hb hm, fun C σ H ρ q Q E h k => ?_⟩
  refine qa C σ H ρ _ _ E h fun x H1 dx ρ1 E1 s1 D1 h1 => ?_
  refine qb C σ H1 ρ1 _ _ E1 h1 fun y H2 dy ρ2 E2 s2 D2 h2 => ?_
  refine hl (hs C ρ2) H2 x y dx dy _ _ (fun a h => E2.hid h) (BV.step D1 s2) D2 h2 fun v H3 d l D q3 => ?_
  exact k v H3 d ρ2 (E2.le l) ((s1.trans s2).trans (.le l)) D q3
/-- a bool as a test -/
def tdB (t : TDE) : TDT := fun ρ q => t ρ fun d ρ1 => match d with
  | .bool b => q b ρ1
  | _ => False
theorem dt_of {te : TE} (hp : PT X e (tTest te)) (hq : ∀ C σ H ρ q Q, EnvD C X.K H σ ρ → t ρ q → (∀ v H' d ρ', EnvD C X.K H' σ ρ' → Step C ρ H ρ' H' → Dp X.K (hide (hs C ρ') H') v d → q d ρ' → Q v H') → te σ H Q) : DT X e (tdB t) := by
  refine ⟨_, hp, fun C σ H ρ q Q E h k => ?_⟩
  refine hq C σ H ρ _ _ E h fun v H' d ρ' E' s D z => ?_
  cases d with
  | bool b => cases D; exact ⟨b, rfl, k b H' ρ' E' s z⟩
  | _ => exact z.elim
theorem dt_cmp {op : CmpOp} {rd : RD2} (hl : LOp X (compareOp op) rd) (ha : DE X a ta) (hb : DE X b tb) (hm : behindInMarks op b = false) : DT X (.Compare a [op] [b] pos) (tdB (td2 rd ta tb)) := by
  obtain ⟨r, ho, hl⟩ := hl
  obtain ⟨pa, ha, qa⟩ := ha.ex
  obtain ⟨pb, hb, qb⟩ := hb.ex
  refine dt_of (pt_cmpR ho ha hb hm) fun C σ H ρ q Q E h k => ?_
  refine qa C σ H ρ _ _ E h fun x H1 dx ρ1 E1 s1 D1 h1 => ?_
  refine qb C σ H1 ρ1 _ _ E1 h1 fun y H2 dy ρ2 E2 s2 D2 h2 => ?_
  refine hl (hs C ρ2) H2 x y dx dy _ _ (fun a h => E2.hid h) (BV.step D1 s2) D2 h2 fun v H3 d l D q3 => ?_
  exact k v H3 d ρ2 (E2.le l) ((s1.trans s2).trans (.le l)) D q3
/-- an expression whose value is a bool -/
theorem dt_val (h : DE X e t) (he : ∀ whole, isTrue e X.env whole = (do let v ← whole; standAt e.pos; holding [v] (truthy v)) := by intro _; rfl) : DT X e (tdB t) := by
  obtain ⟨te, hp, hq⟩ := h.ex
  exact dt_of (pt_val hp he) hq
/-! ### and, or, not -/
def tdAnd (t u : TDT) : TDT := fun ρ q => t ρ fun c ρ1 => if c = true then u ρ1 q else q false ρ1
def tdOr (t u : TDT) : TDT := fun ρ q => t ρ fun c ρ1 => if c = true then q true ρ1 else u ρ1 q
def tdNot (t : TDT) : TDT := fun ρ q => t ρ fun c ρ1 => q (!c) ρ1
variable {tA tB : TDT} {rest : List Expr}
theorem DW.dt (h : DW X e tA) : DT X e tA := by obtain ⟨te, hp, hq⟩ := h.ex; exact ⟨te, hp.pt, hq⟩
theorem dw_or1 (h : DT X a tA) : DW X (.BoolOp .Or [a] pos) tA := by obtain ⟨te, hp, hq⟩ := h.ex; exact ⟨te, pw_or1 hp, hq⟩
theorem dw_or (ha : DT X a tA) (hb : DW X (.BoolOp .Or (b :: rest) pos) tB) : DW X (.BoolOp .Or (a :: b :: rest) pos) (tdOr tA tB) := by
  obtain ⟨pa, ha, qa⟩ := ha.ex
  obtain ⟨pb, hb, qb⟩ := hb.ex
  refine ⟨_, pw_or ha hb, fun C σ H ρ q Q E h k => ?_⟩
  refine qa C σ H ρ _ _ E h fun x H1 ρ1 E1 s1 h1 => ?_
  cases x with
  | true => exact k true H1 ρ1 E1 s1 h1
  | false => exact qb C σ H1 ρ1 _ _ E1 h1 fun y H2 ρ2 E2 s2 h2 => k y H2 ρ2 E2 (s1.trans s2) h2
theorem dt_not (h : DT X a tA) : DT X (.UnaryOp .Not a pos) (tdNot tA) := by
  obtain ⟨te, hp, hq⟩ := h.ex
  exact ⟨_, pt_not hp, fun C σ H ρ q Q E h k => hq C σ H ρ _ _ E h fun b H' ρ' E' s z => k _ H' ρ' E' s z⟩
/-- .. as values: all but the last True or False -/
def tdAndV (ta tb : TDE) : TDE := fun ρ q => ta ρ fun x ρ1 => match x with
  | .bool c => if c = true then tb ρ1 q else q (.bool false) ρ1
  | _ => False
def tdOrV (ta tb : TDE) : TDE := fun ρ q => ta ρ fun x ρ1 => match x with
  | .bool c => if c = true then q (.bool true) ρ1 else tb ρ1 q
  | _ => False
def tdNotV (ta : TDE) : TDE := fun ρ q => ta ρ fun x ρ1 => match x with
  | .bool c => q (.bool (!c)) ρ1
  | _ => False
theorem de_one {op} (h : DE X a ta) : DE X (.BoolOp op [a] pos) ta := by obtain ⟨te, hp, hq⟩ := h.ex; exact ⟨te, pe_one hp, hq⟩
theorem de_and (ha : DE X a ta) (hb : DE X (.BoolOp .And (b :: rest) pos) tb) : DE X (.BoolOp .And (a :: b :: rest) pos) (tdAndV ta tb) := by
  obtain ⟨pa, ha, qa⟩ := ha.ex
  obtain ⟨pb, hb, qb⟩ := hb.ex
  refine ⟨_, pe_and ha hb, fun C σ H ρ q Q E h k => ?_⟩
  refine qa C σ H ρ _ _ E h fun x H1 dx ρ1 E1 s1 D1 h1 => ?_
  cases dx with
  | bool c =>
    cases D1
    refine ⟨c, rfl, ?_⟩
    cases c with
    | true => exact qb C σ H1 ρ1 _ _ E1 h1 fun y H2 d2 ρ2 E2 s2 D2 h2 => k y H2 d2 ρ2 E2 (s1.trans s2) D2 h2
    | false => exact k _ H1 _ ρ1 E1 s1 (.bl false) h1
  | _ => exact h1.elim
theorem de_not (h : DE X a ta) : DE X (.UnaryOp .Not a pos) (tdNotV ta) := by
  obtain ⟨te, hp, hq⟩ := h.ex
  refine ⟨_, pe_not hp, fun C σ H ρ q Q E h k => hq C σ H ρ _ _ E h fun x H1 dx ρ1 E1 s1 D1 h1 => ?_⟩
  cases dx with
  | bool c => cases D1; exact ⟨c, rfl, k _ H1 _ ρ1 E1 s1 (.bl _) h1⟩
  | _ => exact h1.elim
/-- a if t else b -/
def tdIf (t : TDT) (ta tb : TDE) : TDE := fun ρ q => t ρ fun c ρ1 => if c = true then ta ρ1 q else tb ρ1 q
theorem de_if (hc : DT X c tA) (ha : DE X a ta) (hb : DE X b tb) : DE X (.IfExp c a b pos) (tdIf tA ta tb) := by
  obtain ⟨pc, hc, qc⟩ := hc.ex
  obtain ⟨pa, ha, qa⟩ := ha.ex
  obtain ⟨pb, hb, qb⟩ := hb.ex
  refine ⟨_, pe_ifExp hc ha hb, fun C σ H ρ q Q E h k => ?_⟩
  refine qc C σ H ρ _ _ E h fun x H1 ρ1 E1 s1 h1 => ?_
  cases x with
  | true => exact qa C σ H1 ρ1 _ _ E1 h1 fun y H2 d2 ρ2 E2 s2 D2 h2 => k y H2 d2 ρ2 E2 (s1.trans s2) D2 h2
  | false => exact qb C σ H1 ρ1 _ _ E1 h1 fun y H2 d2 ρ2 E2 s2 D2 h2 => k y H2 d2 ρ2 E2 (s1.trans s2) D2 h2
/-! ### arguments, displays -/
def tdNil : TDA := fun ρ q => q [] ρ
def tdCons (te : TDE) (t : TDA) : TDA := fun ρ q => te ρ fun x ρ1 => t ρ1 fun xs ρ2 => q (x :: xs) ρ2
theorem da_nil : DA X [] tdNil := ⟨_, pa_nil, fun C σ H ρ q Q E h k => k [] H [] ρ E .rfl .nil h⟩
theorem da_cons {ts : TDA} (he : DE X e t) (hr : DA X es ts) (hs' : starEach (e :: es) X.env = (false, eval e X.env) :: starEach es X.env := by rfl) : DA X (e :: es) (tdCons t ts) := by
  obtain ⟨pa, ha, qa⟩ := he.ex
  obtain ⟨pb, hb, qb⟩ := hr.ex
  refine ⟨_, pa_cons ha hb hs', fun C σ H ρ q Q E h k => ?_⟩
  refine qa C σ H ρ _ _ E h fun x H1 dx ρ1 E1 s1 D1 h1 => ?_
  exact qb C σ H1 ρ1 _ _ E1 h1 fun ys H2 d2 ρ2 E2 s2 D2 h2 => k _ H2 _ ρ2 E2 (s1.trans s2) (.cons (BV.step D1 s2) D2) h2
theorem upd_vis {C : Ctx} {K : PySem.W.Frag} {H : Hp} {σ : L2.St} {ρ : DEnv} (E : EnvD C K H σ ρ) {p : Addr} {o : HO} (hp : H p = none) : hide (hs C ρ) (upd H p o) p = some o := by
  rw [hide_out (E.notin hp), upd_same]
def tdTup (ts : TDA) : TDE := fun ρ q => ts ρ fun ds ρ1 => ds.length ≤ sizeLine ∧ q (.tuple ds) ρ1
theorem de_tup {ts : TDA} {x1} (h : DA X es ts) : DE X (.Tuple es x1 pos) (tdTup ts) := by
  obtain ⟨pa, ha, qa⟩ := h.ex
  refine ⟨_, pe_tup ha, fun C σ H ρ q Q E h k => ?_⟩
  refine qa C σ H ρ _ _ E h fun xs H1 ds ρ1 E1 s1 D1 h1 => ⟨by rw [DpAll.length D1]; exact h1.1, fun p hp => ?_⟩
  exact k _ _ _ ρ1 (E1.le (.upd hp)) (s1.trans (.le (.upd hp))) (.tup ((upd_vis E1 hp)) (DpAll.le (hide_le (.upd hp)) D1)) h1.2
theorem EnvD.with_fresh {C : Ctx} {K : PySem.W.Frag} {H : Hp} {σ : L2.St} {ρ : DEnv} (E : EnvD C K H σ ρ) {p : Addr} {o : HO} (hp : H p = none) (ho : ∀ xs, o ≠ HO.tup xs := by exact fun _ z => nomatch z) : EnvD (C.with p) K (upd H p o) σ ρ := by
  have nin : p ∉ hs C ρ := E.notin hp
  have l : Le (hide (hs C ρ) H) (hide (hs (C.with p) ρ) (upd H p o)) := fun b u e => by
    obtain ⟨n, e⟩ := hide_some e
    have ne : b ≠ p := ne_of_none e hp
    rw [hide_out, upd_ne ne]
    · exact e
    · intro z
      rcases List.mem_cons.mp z with z | z
      · exact ne z
      · exact n z
  have E' := E.le (Le.upd (o := o) hp)
  refine ⟨E.len, fun i x e => ?_, E.nd, fun a h => ⟨fun z => ?_, (E.dj a h).2⟩, fun a h z => ?_, fun a h => ?_, fun a h => ?_, E'.keep⟩
  · obtain ⟨v, e1, s⟩ := E.slots i x e
    exact ⟨v, e1, s.move l (fun a _ o e => Le.upd hp a o e) rfl rfl⟩
  · rcases List.mem_cons.mp z with z | z
    · subst z; exact nin (List.mem_append_right _ (List.mem_append_right _ h))
    · exact (E.dj a h).1 z
  · rcases List.mem_cons.mp z with z | z
    · subst z; exact nin (List.mem_append_right _ (List.mem_append_left _ h))
    · exact E.dr a h z
  · rcases List.mem_cons.mp h with z | z
    · subst z; exact ⟨_, upd_same, ho⟩
    · exact E'.exd a z
  · obtain ⟨sc, ns, i, s, b, e, q, r⟩ := E.row a h
    exact ⟨sc, ns, i, s, b, Le.upd hp _ _ e, SqL.le l q, r⟩
theorem EnvD.unwith {C : Ctx} {K : PySem.W.Frag} {H : Hp} {σ : L2.St} {ρ : DEnv} {a : Addr} (E : EnvD (C.with a) K H σ ρ) : EnvD C K H σ ρ := by
  have l : Le (hide (hs (C.with a) ρ) H) (hide (hs C ρ) H) := hide_sub fun b z => List.mem_cons_of_mem _ z
  exact ⟨E.len, fun i x e => let ⟨v, e1, s⟩ := E.slots i x e; ⟨v, e1, s.move l (fun _ _ _ e => e) rfl rfl⟩,
    E.nd, fun b h => ⟨fun z => (E.dj b h).1 (List.mem_cons_of_mem _ z), (E.dj b h).2⟩, fun b h z => E.dr b h (List.mem_cons_of_mem _ z), fun b h => E.exd b (List.mem_cons_of_mem _ h), fun b h => RowOk.mono l (E.row b h), E.keep⟩
theorem EnvD.with_out {C : Ctx} {K : PySem.W.Frag} {H : Hp} {σ : L2.St} {ρ : DEnv} {a : Addr} (E : EnvD (C.with a) K H σ ρ) (hc : a ∉ C.ex) : a ∉ hs C ρ := fun z => by
  rcases List.mem_append.mp z with z | z
  · exact hc z
  · rcases List.mem_append.mp z with z | z
    · exact E.dr a z List.mem_cons_self
    · exact (E.dj a z).1 List.mem_cons_self
theorem DF.de {ts : TDA} (h : DF X e ts) : DE X e (fun ρ q => ts ρ fun ds ρ1 => q (.list ds) ρ1) := by
  obtain ⟨te, hp, hq⟩ := h.ex
  refine ⟨te, hp, fun C σ H ρ q Q E h k => hq C σ H ρ _ _ E h fun a vs H' ds ρ' E' s hn ha D z => ?_⟩
  have hc : a ∉ C.ex := fun z => by obtain ⟨o, e, _⟩ := E.exd a z; rw [hn] at e; cases e
  exact k _ H' _ ρ' E'.unwith s (.lst (SqL.of (by rw [hide_out (E'.with_out hc)]; exact ha)) (DpAll.le (hide_sub fun b z => List.mem_cons_of_mem _ z) D)) z
def tdLst (ts : TDA) : TDA := fun ρ q => ts ρ fun ds ρ1 => ds.length ≤ sizeLine ∧ q ds ρ1
theorem DpAll.with_fresh {C : Ctx} {K : PySem.W.Frag} {H : Hp} {ρ : DEnv} {p : Addr} {o : HO} (hp : H p = none) : Le (hide (hs C ρ) H) (hide (hs (C.with p) ρ) (upd H p o)) := fun b u e => by
    obtain ⟨n, e⟩ := hide_some e
    have ne : b ≠ p := ne_of_none e hp
    rw [hide_out, upd_ne ne]
    · exact e
    · intro z
      rcases List.mem_cons.mp z with z | z
      · exact ne z
      · exact n z
theorem Step.free {C : Ctx} {ρ ρ' : DEnv} {H H' : Hp} {p : Addr} (s : Step C ρ H ρ' H') (hp : H' p = none) : H p = none := by
  cases q : H p with
  | none => rfl
  | some o => obtain ⟨o', e⟩ := s.dom p o q; rw [hp] at e; cases e
theorem df_lst {ts : TDA} (h : DA X es ts) : DF X (.List es pos) (tdLst ts) := by
  obtain ⟨pa, ha, qa⟩ := h.ex
  refine ⟨_, pe_lst ha, fun C σ H ρ q Q E h k => ?_⟩
  refine qa C σ H ρ _ _ E h fun xs H1 ds ρ1 E1 s1 D1 h1 => ⟨by rw [DpAll.length D1]; exact h1.1, fun p hp => ?_⟩
  exact k p xs _ ds ρ1 (E1.with_fresh hp) (s1.trans (.le (.upd hp))) (s1.free hp) upd_same (DpAll.le (DpAll.with_fresh (K := X.K) hp) D1) h1.2
end
end DL
/-! DL: statements, loops. -/
namespace DL
open PySem PySem.Spec PyProof.Rows L2
section
variable {X : Cx} {e a b c : Expr} {es : List Expr} {pos : Pos} {t ta tb tc : TDE} {st : Stmt} {rest : List Stmt} {u v : TDS}
def tdNext : TDS := fun q ρ => q.nx ρ
def tdSeq (u v : TDS) : TDS := fun q ρ => u { q with nx := v q } ρ
theorem dss_nil : DSs X [] tdNext := ⟨_, pss_nil, fun C σ H ρ q Q E h k => k.nx σ H ρ E .rfl h⟩
theorem dss_cons (h1 : DS X st u) (h2 : DSs X rest v) : DSs X (st :: rest) (tdSeq u v) := by
  obtain ⟨p1, h1, q1⟩ := h1.ex
  obtain ⟨p2, h2, q2⟩ := h2.ex
  refine ⟨_, pss_cons h1 h2, fun C σ H ρ q Q E h k => ?_⟩
  refine q1 C σ H ρ _ _ E h ⟨fun σ' H' ρ' E' s z => ?_, k.rt, k.bk, k.ct⟩
  exact q2 C σ' H' ρ' _ _ E' z (k.step s)
theorem dss_one (h1 : DS X st u) : DSs X [st] u := by
  obtain ⟨p1, h1, q1⟩ := h1.ex
  exact ⟨_, pss_one h1, q1⟩
def tdBreak : TDS := fun q ρ => q.bk ρ
def tdCont : TDS := fun q ρ => q.ct ρ
def tdDrop (t : TDE) : TDS := fun q ρ => t ρ fun _ ρ1 => q.nx ρ1
theorem ds_expr (h : DE X e t) (hs' : swapsWith e none pos.line X.env = pure false := by rfl) : DS X (.Expr e pos) (tdDrop t) := by
  obtain ⟨te, hp, hq⟩ := h.ex
  exact ⟨_, ps_expr hp hs', fun C σ H ρ q Q E h k => hq C σ H ρ _ _ E h fun v H' d ρ' E' s D z => k.nx σ H' ρ' E' s z⟩
def tdRet (t : TDE) : TDS := fun q ρ => t ρ fun d ρ1 => q.rt d ρ1
theorem ds_ret (h : DE X e t) : DS X (.Return (some e) pos) (tdRet t) := by
  obtain ⟨te, hp, hq⟩ := h.ex
  exact ⟨_, ps_ret hp, fun C σ H ρ q Q E h k => hq C σ H ρ _ _ E h fun v H' d ρ' E' s D z => k.rt v σ H' d ρ' E' s D z⟩
def tdRetN : TDS := fun q ρ => q.rt .none ρ
def tdIfS (c : TDT) (u v : TDS) : TDS := fun q ρ => c ρ fun b ρ1 => if b = true then u q ρ1 else v q ρ1
theorem ds_if {tA : TDT} {s1 s2 : List Stmt} (hc : DT X c tA) (ha : DSs X s1 u) (hb : DSs X s2 v) : DS X (.If c s1 s2 pos) (tdIfS tA u v) := by
  obtain ⟨pc, hc, qc⟩ := hc.ex
  obtain ⟨pa, ha, qa⟩ := ha.ex
  obtain ⟨pb, hb, qb⟩ := hb.ex
  refine ⟨_, ps_if hc ha hb, fun C σ H ρ q Q E h k => qc C σ H ρ _ _ E h fun b H1 ρ1 E1 s1 h1 => ?_⟩
  cases b with
  | true => exact qa C σ H1 ρ1 _ _ E1 h1 (k.step s1)
  | false => exact qb C σ H1 ρ1 _ _ E1 h1 (k.step s1)
def tdNever : TDS := fun _ _ => False
theorem ds_never : DS X st tdNever := ⟨_, ps_never, fun C σ H ρ q Q E h k => h⟩
/-! ### targets -/
theorem wipe_in {σ : L2.St} {i : Nat} : ∀ {vs : List Nat}, i ∈ vs → (L2.wipe σ vs)[i]? = (σ[i]?).map fun _ => none
  | v :: vs, h => by
    unfold L2.wipe
    by_cases e : v = i
    · subst e
      rw [List.getElem?_set]
      simp only [if_true, L2.wipe_length]
      by_cases q : v < σ.length
      · simp [q]
      · simp [q]
    · rw [List.getElem?_set_ne e]
      rcases List.mem_cons.mp h with z | z
      · exact absurd z.symm e
      · exact wipe_in z
theorem wipe_set {σ : L2.St} {i : Nat} {v : Option V} {vs : List Nat} (h : i ∈ vs) : L2.wipe (σ.set i v) vs = L2.wipe σ vs := by
  apply List.ext_getElem?
  intro j
  by_cases q : j ∈ vs
  · rw [wipe_in q, wipe_in q, List.getElem?_set]
    by_cases e : i = j
    · subst e
      rw [if_pos rfl]
      split
      · rename_i z
        have z' : i < σ.length := z
        simp [z']
      · rename_i z
        have z' : ¬ i < σ.length := z
        simp [z']
    · rw [if_neg e]
  · rw [L2.wipe_out q, L2.wipe_out q, List.getElem?_set_ne (fun e => q (by rw [← e]; exact h))]

abbrev TDG := PyData → DEnv → (DEnv → Prop) → Prop
structure DG (X : Cx) (tg : Expr) (g : TDG) (S : List Nat) : Prop where
  ex : ∃ gt, PG X tg gt ∧ ∀ C σ H ρ v d q Q, EnvD C X.K H σ ρ → Dp X.K (hide (hs C ρ) H) v d → g d ρ q → (∀ σ' H' ρ', EnvD C X.K H' σ' ρ' → Step C ρ H ρ' H' → (∀ vs : List Nat, (∀ i ∈ S, i ∈ vs) → L2.wipe σ' vs = L2.wipe σ vs) → q ρ' → Q σ' H') → gt v σ H Q
abbrev TDGs := List PyData → DEnv → (DEnv → Prop) → Prop
structure DGs (X : Cx) (tg : List Expr) (g : TDGs) (S : List Nat) : Prop where
  ex : ∃ gt, PGs X tg gt ∧ ∀ C σ H ρ vs ds q Q, EnvD C X.K H σ ρ → DpAll X.K (hide (hs C ρ) H) vs ds → g ds ρ q → (∀ σ' H' ρ', EnvD C X.K H' σ' ρ' → Step C ρ H ρ' H' → (∀ vs : List Nat, (∀ i ∈ S, i ∈ vs) → L2.wipe σ' vs = L2.wipe σ vs) → q ρ' → Q σ' H') → gt vs σ H Q
def gdName (i : Nat) : TDG := fun d ρ q => q (ρ.set i (.sh d))
theorem dg_name {i : Nat} {x : Str} (hN : X.N.Nodup) (hi : X.N[i]? = some x) (hx : Loc X.env.scope x) (hf : X.fn x = true ∨ X.env.scope.names.lookup x = some .local := by first | exact .inl rfl | exact .inr rfl | assumption) : DG X (.Name x pos) (gdName i) [i] :=
  ⟨_, pg_name hN hi hx hf, fun C σ H ρ v d q Q E D h k => k _ H _ (E.sh D) (.put rfl) (fun vs m => wipe_set (m i (by simp))) h⟩
def gdNil : TDGs := fun ds ρ q => ds = [] ∧ q ρ
def gdCons (g : TDG) (r : TDGs) : TDGs := fun ds ρ q => match ds with
  | d :: ds => g d ρ fun ρ1 => r ds ρ1 q
  | [] => False
theorem dgs_nil : DGs X [] gdNil [] := ⟨_, pgs_nil, fun C σ H ρ vs ds q Q E D h k => by
  obtain ⟨rfl, h⟩ := h
  cases D
  exact ⟨rfl, k σ H ρ E .rfl (fun _ _ => rfl) h⟩⟩
theorem dgs_cons {g : TDG} {r : TDGs} {S S' : List Nat} (h1 : DG X e g S) (h2 : DGs X es r S') (hs' : (assignEach (e :: es) X.env).map (·.2) = assign e X.env :: (assignEach es X.env).map (·.2) := by rfl) : DGs X (e :: es) (gdCons g r) (S ++ S') := by
  obtain ⟨p1, h1, q1⟩ := h1.ex
  obtain ⟨p2, h2, q2⟩ := h2.ex
  refine ⟨_, pgs_cons h1 h2 hs', fun C σ H ρ vs ds q Q E D h k => ?_⟩
  cases ds with
  | nil => exact h.elim
  | cons d ds =>
    cases D with
    | cons d1 d2 =>
      refine ⟨_, _, rfl, q1 C σ H ρ _ _ _ _ E d1 h fun σ1 H1 ρ1 E1 s1 w1 h1 => ?_⟩
      exact q2 C σ1 H1 ρ1 _ _ _ _ E1 (DpAll.le s1.vis d2) h1 fun σ2 H2 ρ2 E2 s2 w2 h2 => k σ2 H2 ρ2 E2 (s1.trans s2) (fun vs m => (w2 vs fun i z => m i (List.mem_append_right _ z)).trans (w1 vs fun i z => m i (List.mem_append_left _ z))) h2
def gdTup (n : Nat) (r : TDGs) : TDG := fun d ρ q => match d with
  | .tuple ds => ds.length = n ∧ r ds ρ q
  | _ => False
theorem dg_tup {r : TDGs} {S : List Nat} {k n : Nat} (hc : X.calm = true) (h : DGs X es r S) (hn : (assignEach es X.env).length = n := by rfl) (hst : (assignEach es X.env).findIdx? (·.1) = none := by rfl) : DG X (.Tuple es k pos) (gdTup n r) S := by
  obtain ⟨p1, h1, q1⟩ := h.ex
  refine ⟨_, pg_tup hc h1 hn hst, fun C σ H ρ v d q Q E D h k => ?_⟩
  cases d with
  | tuple ds =>
    obtain ⟨a, vs, rfl, s, D⟩ := Dp.tup_of D
    exact ⟨a, vs, rfl, SqT.le hide_Le s, by rw [DpAll.length D]; exact h.1, q1 C σ H ρ vs ds _ _ E D h.2 k⟩
  | _ => exact h.elim
/-- target = e -/
def tdAsg (t : TDE) (g : TDG) : TDS := fun q ρ => t ρ fun d ρ1 => g d ρ1 q.nx
theorem ds_asg {tg : Expr} {g : TDG} {S : List Nat} (he : DE X e t) (hg : DG X tg g S) (hs' : swapsWithSole [tg] e pos.line X.env = pure false := by rfl) (hw : swappedStores [tg] e X.env = pure none := by rfl)
    (h1 : (assignEach [tg] X.env).map (·.2) = [assign tg X.env] := by rfl) : DS X (.Assign [tg] e pos) (tdAsg t g) := by
  obtain ⟨pe, he, qe⟩ := he.ex
  obtain ⟨pg, hg, qg⟩ := hg.ex
  refine ⟨_, ps_asg he hg hs' hw h1, fun C σ H ρ q Q E h k => ?_⟩
  refine qe C σ H ρ _ _ E h fun v H' d ρ' E' s D z => ?_
  exact qg C σ H' ρ' v d _ _ E' D z fun σ2 H2 ρ2 E2 s2 _ z2 => k.nx σ2 H2 ρ2 E2 (s.trans s2) z2
/-- name = e -/
def tdSet (i : Nat) (t : TDE) : TDS := fun q ρ => t ρ fun d ρ1 => q.nx (ρ1.set i (.sh d))
theorem ds_set {i : Nat} {x : Str} {pos' : Pos} (hN : X.N.Nodup) (hi : X.N[i]? = some x) (hx : Loc X.env.scope x) (he : DE X e t) (hs' : swapsWith e (some (.Name x pos')) pos.line X.env = pure false := by rfl) (hf : X.fn x = true ∨ X.env.scope.names.lookup x = some .local := by first | exact .inl rfl | exact .inr rfl | assumption) :
    DS X (.Assign [.Name x pos'] e pos) (tdSet i t) := by
  obtain ⟨pe, he, qe⟩ := he.ex
  refine ⟨_, ps_set hN hi hx he hs' hf, fun C σ H ρ q Q E h k => ?_⟩
  exact qe C σ H ρ _ _ E h fun v H' d ρ' E' s D z => k.nx _ H' _ (E'.sh D) (s.trans (.put rfl)) z
/-- name = a new list: from now on this def's own -/
def tdOwn (i : Nat) (t : TDA) : TDS := fun q ρ => t ρ fun ds ρ1 => ∀ a, a ∉ owns ρ1 → q.nx (ρ1.set i (.own a ds))
theorem EnvD.own {C : Ctx} {K : PySem.W.Frag} {H : Hp} {σ : L2.St} {ρ : DEnv} {i : Nat} {a : Addr} {vs : List V} {ds : List PyData} (E : EnvD (C.with a) K H σ ρ) (ha : H a = some (.lst vs)) (h0 : C.H0 a = none) (hc : a ∉ C.ex)
    (D : DpAll K (hide (hs (C.with a) ρ) H) vs ds) : EnvD C K H (σ.set i (some (.ref a))) (ρ.set i (.own a ds)) := by
  have na : a ∉ owns ρ := fun z => (E.dj a z).1 List.mem_cons_self
  have nr : a ∉ C.rw := fun z => E.dr a z List.mem_cons_self
  have sub : ∀ b, b ∈ owns (ρ.set i (.own a ds)) → b = a ∨ b ∈ owns ρ := fun b z => by
    obtain ⟨j, y, e, hy⟩ := mem_owns.mp z
    rw [List.getElem?_set] at e
    split at e
    · split at e
      · cases e; cases hy; exact .inl rfl
      · cases e
    · exact .inr (mem_owns.mpr ⟨j, y, e, hy⟩)
  have l : Le (hide (hs (C.with a) ρ) H) (hide (hs C (ρ.set i (.own a ds))) H) := hide_sub fun b z => by
    rcases List.mem_append.mp z with z | z
    · exact List.mem_cons_of_mem _ (List.mem_append_left _ z)
    · rcases List.mem_append.mp z with z | z
      · exact List.mem_cons_of_mem _ (List.mem_append_right _ (List.mem_append_left _ z))
      · rcases sub b z with z | z
        · subst z; exact List.mem_cons_self
        · exact List.mem_cons_of_mem _ (List.mem_append_right _ (List.mem_append_right _ z))
  have nd' : ∀ (ρ : DEnv) (i : Nat), (owns ρ).Nodup → a ∉ owns ρ → (owns (ρ.set i (.own a ds))).Nodup := by
    intro ρ
    induction ρ with
    | nil => intro i n _; simp [owns]
    | cons y ρ ih =>
      intro i n m
      cases i with
      | zero =>
        show (List.filterMap Slot.addr (Slot.own a ds :: ρ)).Nodup
        rw [List.filterMap_cons_some (show Slot.addr (.own a ds) = some a from rfl)]
        cases h : y.addr with
        | none =>
          unfold owns at n m
          rw [List.filterMap_cons_none h] at n m
          exact List.nodup_cons.mpr ⟨m, n⟩
        | some b =>
          unfold owns at n m
          rw [List.filterMap_cons_some h] at n m
          exact List.nodup_cons.mpr ⟨fun z => m (List.mem_cons_of_mem _ z), (List.nodup_cons.mp n).2⟩
      | succ i =>
        show (List.filterMap Slot.addr (y :: ρ.set i (.own a ds))).Nodup
        cases h : y.addr with
        | none =>
          unfold owns at n m
          rw [List.filterMap_cons_none h] at n m ⊢
          exact ih i n m
        | some b =>
          unfold owns at n m
          rw [List.filterMap_cons_some h] at n m ⊢
          refine List.nodup_cons.mpr ⟨fun z => ?_, ih i (List.nodup_cons.mp n).2 fun z => m (List.mem_cons_of_mem _ z)⟩
          obtain ⟨j, y', e, hy⟩ := mem_owns.mp (show b ∈ owns (ρ.set i (.own a ds)) from z)
          rw [List.getElem?_set] at e
          split at e
          · split at e
            · cases e; cases hy; exact m List.mem_cons_self
            · cases e
          · exact (List.nodup_cons.mp n).1 (mem_owns.mpr ⟨j, y', e, hy⟩)
  refine ⟨by simp [E.len], fun j x e => ?_, nd' ρ i E.nd na, fun b h => ?_, fun b h z => E.dr b h (List.mem_cons_of_mem _ z), fun b h => E.exd b (List.mem_cons_of_mem _ h), fun b h => RowOk.mono l (E.row b h), E.keep⟩
  · rw [List.getElem?_set] at e
    by_cases ij : i = j
    · subst ij
      rw [if_pos rfl] at e
      split at e
      · cases e
        exact ⟨some (.ref a), by rw [List.getElem?_set]; simp [E.len]; assumption, rfl, ⟨vs, ha, DpAll.le l D⟩, h0⟩
      · cases e
    · rw [if_neg ij] at e
      obtain ⟨w, e1, s⟩ := E.slots j x e
      refine ⟨w, by rw [List.getElem?_set_ne ij]; exact e1, ?_⟩
      exact s.move l (fun _ _ _ e => e) rfl rfl
  · rcases sub b h with z | z
    · subst z; exact ⟨hc, nr⟩
    · exact ⟨fun y => (E.dj b z).1 (List.mem_cons_of_mem _ y), (E.dj b z).2⟩
theorem owns_set_own {ρ : DEnv} {i : Nat} {a b : Addr} {ds : List PyData} (h : b ∈ owns (ρ.set i (.own a ds))) : b = a ∨ b ∈ owns ρ := by
  obtain ⟨j, y, e, hy⟩ := mem_owns.mp h
  rw [List.getElem?_set] at e
  split at e
  · split at e
    · cases e; cases hy; exact .inl rfl
    · cases e
  · exact .inr (mem_owns.mpr ⟨j, y, e, hy⟩)
theorem ds_own {i : Nat} {x : Str} {pos' : Pos} {t : TDA} (hN : X.N.Nodup) (hi : X.N[i]? = some x) (hx : Loc X.env.scope x) (he : DF X e t) (hs' : swapsWith e (some (.Name x pos')) pos.line X.env = pure false := by rfl) (hf : X.fn x = true ∨ X.env.scope.names.lookup x = some .local := by first | exact .inl rfl | exact .inr rfl | assumption) :
    DS X (.Assign [.Name x pos'] e pos) (tdOwn i t) := by
  obtain ⟨pe, he, qe⟩ := he.ex
  refine ⟨_, ps_set hN hi hx he hs' hf, fun C σ H ρ q Q E h k => ?_⟩
  refine qe C σ H ρ _ _ E h fun a vs H' ds ρ' E' s hn ha D z => ?_
  have hc : a ∉ C.ex := fun z => by obtain ⟨o, e, _⟩ := E.exd a z; rw [hn] at e; cases e
  refine k.nx _ H' _ (E'.own ha (E.fresh0 hn) hc D) ⟨s.keep, s.dom, fun b h => ?_⟩ (z a fun y => (E'.dj a y).1 List.mem_cons_self)
  rcases owns_set_own h with h | h
  · subst h; exact .inr hn
  · exact s.new b h
/-- a list of one's own is changed -/
theorem owns_same {ρ : DEnv} {i : Nat} {a : Addr} {ds es : List PyData} (h : ρ[i]? = some (.own a ds)) : owns (ρ.set i (.own a es)) = owns ρ := by
  induction ρ generalizing i with
  | nil => simp at h
  | cons y ρ ih =>
    cases i with
    | zero => simp at h; subst h; rfl
    | succ i =>
      simp at h
      show List.filterMap Slot.addr (y :: ρ.set i (.own a es)) = List.filterMap Slot.addr (y :: ρ)
      have := ih h
      unfold owns at this
      cases q : y.addr with
      | none => rw [List.filterMap_cons_none q, List.filterMap_cons_none q]; exact this
      | some b => rw [List.filterMap_cons_some q, List.filterMap_cons_some q, this]
theorem EnvD.own_at {C : Ctx} {K : PySem.W.Frag} {H : Hp} {σ : L2.St} {ρ : DEnv} (E : EnvD C K H σ ρ) {i : Nat} {a : Addr} {ds : List PyData} (h : ρ[i]? = some (.own a ds)) :
    σ[i]? = some (some (.ref a)) ∧ (∃ vs, H a = some (.lst vs) ∧ DpAll K (hide (hs C ρ) H) vs ds) := by
  obtain ⟨v, e, s⟩ := E.slots i _ h
  cases v with
  | none => cases s
  | some v => obtain ⟨rfl, q, _⟩ := s; exact ⟨e, q⟩
theorem EnvD.wr {C : Ctx} {K : PySem.W.Frag} {H : Hp} {σ : L2.St} {ρ : DEnv} (E : EnvD C K H σ ρ) {i : Nat} {a : Addr} {ds es : List PyData} {ws : List V} (h : ρ[i]? = some (.own a ds)) (D : DpAll K (hide (hs C ρ) H) ws es) :
    EnvD C K (upd H a (.lst ws)) σ (ρ.set i (.own a es)) ∧ Step C ρ H (ρ.set i (.own a es)) (upd H a (.lst ws)) := by
  have ho : owns (ρ.set i (.own a es)) = owns ρ := owns_same h
  have hh : hs C (ρ.set i (.own a es)) = hs C ρ := by unfold hs mu; rw [ho]
  have ao : a ∈ owns ρ := mem_owns.mpr ⟨i, _, h, rfl⟩
  have am : a ∈ mu C ρ := List.mem_append_right _ ao
  have ah : a ∈ hs C ρ := List.mem_append_right _ am
  have hu : hide (hs C ρ) (upd H a (.lst ws)) = hide (hs C ρ) H := by
    funext b
    by_cases q : b ∈ hs C ρ
    · rw [hide_in q, hide_in q]
    · rw [hide_out q, hide_out q, upd_ne (fun z => q (by rw [z]; exact ah))]
  obtain ⟨e1, vs, e2, _⟩ := E.own_at h
  refine ⟨⟨by rw [E.len]; simp, fun j x e => ?_, by rw [ho]; exact E.nd, fun b z => E.dj b (by rw [ho] at z; exact z), E.dr, fun b z => ?_, fun b z => ?_, fun b o z n => ?_⟩, ⟨fun b o n z => ?_, fun b o z => ?_, fun b z => .inl (by rw [ho] at z; exact z)⟩⟩
  · rw [hh, hu]
    rw [List.getElem?_set] at e
    by_cases ij : i = j
    · subst ij
      rw [if_pos rfl] at e
      split at e
      · cases e
        obtain ⟨w, e3, s⟩ := E.slots i _ h
        cases w with
        | none => cases s
        | some w => obtain ⟨s1, _, s3⟩ := s; exact ⟨some w, e3, s1, ⟨ws, upd_same, D⟩, s3⟩
      · cases e
    · rw [if_neg ij] at e
      obtain ⟨w, e3, s⟩ := E.slots j x e
      refine ⟨w, e3, s.move Le.rfl (fun b hb o z => ?_) rfl rfl⟩
      rw [upd_ne (fun y => by subst y; exact nodup_two E.nd ij h rfl e hb)]
      exact z
  · obtain ⟨o, q, nt⟩ := E.exd b z
    exact ⟨o, by rw [upd_ne (fun y => (E.dj a ao).1 (by rw [← y]; exact z))]; exact q, nt⟩
  · obtain ⟨sc, ns, i', s, b', q, r⟩ := E.row b z
    rw [hh, hu]
    exact ⟨sc, ns, i', s, b', by rw [upd_ne (fun y => (E.dj a ao).2 (by rw [← y]; exact z))]; exact q, r⟩
  · have h0 : b ≠ a := fun y => by
      subst y
      obtain ⟨w, e3, s⟩ := E.slots i _ h
      cases w with
      | none => cases s
      | some w => obtain ⟨_, _, s3⟩ := s; rw [z] at s3; cases s3
    rw [upd_ne h0]; exact E.keep b o z n
  · rw [upd_ne (fun y => n (by rw [y]; exact am))]; exact z
  · by_cases q : b = a
    · subst q; exact ⟨_, upd_same⟩
    · exact ⟨o, by rw [upd_ne q]; exact z⟩
/-- xs[k] = value, xs a list of one's own -/
def gdSub (i : Nat) (tk : TDE) : TDG := fun d ρ q => match ρ[i]? with
  | some (.own _ _) => tk ρ fun k ρ1 => match ρ1[i]?, k with
    | some (.own a ds), .int n => ∃ j, ixN ds.length n = some j ∧ q (ρ1.set i (.own a (ds.set j d)))
    | _, _ => False
  | _ => False
theorem dg_sub {i : Nat} {x : Str} {px : Pos} {k : Expr} {tk : TDE} (hN : X.N[i]? = some x) (hv : Vis X.env.scope x) (hk : DE X k tk) (hd : (x == ("__debug__" : Str)) = false := by decide) (hcd : (x == ("__classdict__" : Str)) = false := by decide)
    (ha : ∀ v, assign (.Subscript (.Name x px) k pos) X.env v = (do
      let ov ← holding [v] (eval (.Name x px) X.env)
      let iv ← holding [v, ov] (eval k X.env)
      standAt pos
      holding [v, ov, iv] (setItem ov iv v)
      release [v, ov, iv] []) := by intro _; rfl) : DG X (.Subscript (.Name x px) k pos) (gdSub i tk) [] := by
  obtain ⟨pk, hk, qk⟩ := hk.ex
  refine ⟨_, pg_sub (pe_var hN hv hd hcd) hk set_list ha, fun C σ H ρ v d q Q E D h k => ?_⟩
  unfold gdSub at h
  split at h
  · rename_i a0 ds0 e0
    have hw := (E.own_at e0).1
    refine ⟨_, hw, qk C σ H ρ _ _ E h fun kv H1 dk ρ1 E1 s1 D1 h1 => ?_⟩
    split at h1
    · rename_i a ds n e1
      obtain ⟨j, hj, h1⟩ := h1
      obtain ⟨e2, vs, e3, D3⟩ := E1.own_at e1
      rw [hw] at e2
      cases e2
      cases D1
      have D' := DpAll.set (BV.step D s1) j D3
      obtain ⟨E2, s2⟩ := E1.wr e1 D'
      refine ⟨a0, vs, n, j, rfl, rfl, e3, by rw [DpAll.length D3]; exact hj, ?_⟩
      exact k σ _ _ E2 (s1.trans s2) (fun _ _ => rfl) h1
    · exact h1.elim
  · exact h.elim
/-- xs.append(e) -/
def tdAppend (i : Nat) (t : TDE) : TDS := fun q ρ => match ρ[i]? with
  | some (.own _ _) => t ρ fun d ρ1 => match ρ1[i]? with
    | some (.own a ds) => ds.length < sizeLine ∧ q.nx (ρ1.set i (.own a (ds ++ [d])))
    | _ => False
  | _ => False
/-- xs.extend(ys), ys a list -/
def tdExtend (i : Nat) (t : TDA) : TDS := fun q ρ => match ρ[i]? with
  | some (.own _ _) => t ρ fun es ρ1 => match ρ1[i]? with
    | some (.own a ds) => ds.length + es.length ≤ sizeLine ∧ q.nx (ρ1.set i (.own a (ds ++ es)))
    | _ => False
  | _ => False
/-- xs.pop() -/
def tdPop (i : Nat) : TDE := fun ρ q => match ρ[i]? with
  | some (.own a ds) => match ds[ds.length - 1]? with
    | some d => q d (ρ.set i (.own a ds.dropLast))
    | none => False
  | _ => False
/-- x op= e at a name of ints -/
def tdAug (i : Nat) (t : TDE) (rd : RD2) : TDS := fun q ρ => match ρ[i]? with
  | some (.sh d) => t ρ fun y ρ1 => rd d y fun z => q.nx (ρ1.set i (.sh z))
  | _ => False
end
end DL
/-! DL: loops, comprehensions. -/
namespace DL
open PySem PySem.Spec PyProof.Rows L2
/-- what a loop walks: the data ds, whatever is done meanwhile -/
def ItD (K : PySem.W.Frag) (C : Ctx) (ρ1 : DEnv) (H1 : Hp) (J : It) (ds : List PyData) : Prop :=
  ∀ (i : Nat) (H' : Hp), (∀ b o, b ∉ hs C ρ1 → H1 b = some o → H' b = some o) →
    (i < ds.length → J.go i H' ∧ ∀ x H'', J.yld i H' x H'' → Le H' H'' ∧ ∀ as : List Addr, (∀ a ∈ as, (∃ o, H' a = some o ∧ ∀ xs, o ≠ HO.tup xs) ∧ (a ∈ hs C ρ1 ∨ H1 a = none)) → ∃ d, ds[i]? = some d ∧ Dp K (hide as H'') x d) ∧
    (ds.length ≤ i → J.stop i H')
structure DI (X : Cx) (tg iter : Expr) (t : TDA) : Prop where
  ex : ∃ wi, PI X tg iter wi ∧ ∀ C σ H ρ q R, EnvD C X.K H σ ρ → t ρ q → (∀ J H1 ds ρ1, EnvD C X.K H1 σ ρ1 → Step C ρ H ρ1 H1 → ItD X.K C ρ1 H1 J ds → q ds ρ1 → R J H1) → wi σ H R
section
variable {X : Cx} {e a b c tg iter : Expr} {es : List Expr} {pos : Pos} {t ta tb tc : TDE} {st : Stmt} {rest : List Stmt} {u v : TDS}
theorem vis_as {C : Ctx} {ρ1 : DEnv} {H1 H' H'' : Hp} {as : List Addr} (k : ∀ b o, b ∉ hs C ρ1 → H1 b = some o → H' b = some o) (l : Le H' H'') (h : ∀ a ∈ as, (∃ o, H' a = some o ∧ ∀ xs, o ≠ HO.tup xs) ∧ (a ∈ hs C ρ1 ∨ H1 a = none)) : Le (hide (hs C ρ1) H1) (hide as H'') := fun b o e => by
  obtain ⟨n, e⟩ := hide_some e
  rw [hide_out]
  · exact l _ _ (k b o n e)
  · intro z
    rcases (h b z).2 with q | q
    · exact n q
    · rw [q] at e; cases e
theorem SqL.stay {K : PySem.W.Frag} {C : Ctx} {ρ1 : DEnv} {H1 H' : Hp} {a : Addr} {vs : List V} (k : ∀ b o, b ∉ hs C ρ1 → H1 b = some o → H' b = some o) (h : SqL K (hide (hs C ρ1) H1) a vs) : SqL K H' a vs :=
  SqL.le (fun b o e => by obtain ⟨n, e⟩ := hide_some e; exact k b o n e) h
theorem SqT.stay {K : PySem.W.Frag} {C : Ctx} {ρ1 : DEnv} {H1 H' : Hp} {a : Addr} {vs : List V} (k : ∀ b o, b ∉ hs C ρ1 → H1 b = some o → H' b = some o) (h : SqT K (hide (hs C ρ1) H1) a vs) : SqT K H' a vs :=
  SqT.le (fun b o e => by obtain ⟨n, e⟩ := hide_some e; exact k b o n e) h
def tiL (t : TDE) : TDA := fun ρ q => t ρ fun d ρ1 => match d with
  | .list ds => q ds ρ1
  | _ => False
theorem di_list (h : DE X e t) : DI X tg e (tiL t) := by
  obtain ⟨te, hp, hq⟩ := h.ex
  refine ⟨_, pi_list hp, fun C σ H ρ q R E w k => hq C σ H ρ _ _ E w fun v H1 d ρ1 E1 s1 D1 h1 => ?_⟩
  cases d with
  | list ds =>
    obtain ⟨a, vs, rfl, sq, D⟩ := Dp.list_of D1
    refine ⟨a, rfl, ⟨vs, SqL.le hide_Le sq⟩, k _ H1 ds ρ1 E1 s1 (fun i H' ke => ⟨fun hi => ?_, fun hi => ?_⟩) h1⟩
    · have s' := SqL.stay ke sq
      have hv : i < vs.length := by rw [DpAll.length D]; exact hi
      refine ⟨⟨vs, vs[i], s', by simp [hv]⟩, fun x H'' y => ?_⟩
      obtain ⟨e1, y⟩ := y
      subst e1
      refine ⟨.rfl, fun as ha => ?_⟩
      obtain ⟨d, h1, h2⟩ := DpAll.getV D (y vs s')
      exact ⟨d, h1, Dp.le (vis_as ke .rfl ha) h2⟩
    · exact ⟨vs, SqL.stay ke sq, by rw [DpAll.length D]; exact hi⟩
  | _ => exact h1.elim
def tiT (t : TDE) : TDA := fun ρ q => t ρ fun d ρ1 => match d with
  | .tuple ds => q ds ρ1
  | _ => False
theorem di_tup (h : DE X e t) : DI X tg e (tiT t) := by
  obtain ⟨te, hp, hq⟩ := h.ex
  refine ⟨_, pi_tup hp, fun C σ H ρ q R E w k => hq C σ H ρ _ _ E w fun v H1 d ρ1 E1 s1 D1 h1 => ?_⟩
  cases d with
  | tuple ds =>
    obtain ⟨a, vs, rfl, sq, D⟩ := Dp.tup_of D1
    refine ⟨a, rfl, ⟨vs, SqT.le hide_Le sq⟩, k _ H1 ds ρ1 E1 s1 (fun i H' ke => ⟨fun hi => ?_, fun hi => ?_⟩) h1⟩
    · have s' := SqT.stay ke sq
      have hv : i < vs.length := by rw [DpAll.length D]; exact hi
      refine ⟨⟨vs, vs[i], s', by simp [hv]⟩, fun x H'' y => ?_⟩
      obtain ⟨e1, y⟩ := y
      subst e1
      refine ⟨.rfl, fun as ha => ?_⟩
      obtain ⟨d, h1, h2⟩ := DpAll.getV D (y vs s')
      exact ⟨d, h1, Dp.le (vis_as ke .rfl ha) h2⟩
    · exact ⟨vs, SqT.stay ke sq, by rw [DpAll.length D]; exact hi⟩
  | _ => exact h1.elim
/-- lo, lo + 1, .. (n of them) -/
def rangeD (lo : Int) (n : Nat) : List PyData := (List.range n).map fun (k : Nat) => PyData.int (lo + (k : Int))
theorem rangeD_len (lo : Int) (n : Nat) : (rangeD lo n).length = n := by simp [rangeD]
theorem itD_range {K : PySem.W.Frag} {C : Ctx} {ρ1 : DEnv} {H1 : Hp} {lo : Int} {n : Nat} : ItD K C ρ1 H1 (Itr lo n) (rangeD lo n) := fun i H' ke => by
  rw [rangeD_len]
  refine ⟨fun hi => ⟨hi, fun x H'' y => ?_⟩, fun hi => hi⟩
  obtain ⟨e1, e2⟩ := y
  subst e1 e2
  exact ⟨.rfl, fun as ha => ⟨_, by simp [rangeD, hi], .int _⟩⟩
def tiR1 (ts : TDA) : TDA := fun ρ q => ts ρ fun ds ρ1 => match ds with
  | [.int j] => (-(2 ^ 62) ≤ j ∧ j < 2 ^ 62) ∧ q (rangeD 0 j.toNat) ρ1
  | _ => False
def tiR2 (ts : TDA) : TDA := fun ρ q => ts ρ fun ds ρ1 => match ds with
  | [.int i, .int j] => (-(2 ^ 62) ≤ i ∧ i < 2 ^ 62 ∧ -(2 ^ 62) ≤ j ∧ j < 2 ^ 62) ∧ q (rangeD i (j - i).toNat) ρ1
  | _ => False
theorem di_range1 {p : Pos} {ts : TDA} (hg : Gl X "range") (hm : X.mg "range" = none) (ha : DA X [a] ts) (hs' : starEach [a] X.env = [(false, eval a X.env)] := by rfl) : DI X tg (.Call (.Name "range" p) [a] [] pos) (tiR1 ts) := by
  obtain ⟨te, hp, hq⟩ := ha.ex
  refine ⟨_, pi_range1 hg hm hp hs', fun C σ H ρ q R E w k => hq C σ H ρ _ _ E w fun vs H1 ds ρ1 E1 s1 D1 h1 => ?_⟩
  match ds, h1, D1 with
  | [.int j], h1, D1 =>
    cases D1 with
    | cons d1 d2 =>
      cases d1; cases d2
      exact ⟨j, rfl, h1.1.1, h1.1.2, k _ H1 _ ρ1 E1 s1 itD_range h1.2⟩
theorem di_range2 {p : Pos} {ts : TDA} (hg : Gl X "range") (hm : X.mg "range" = none) (ha : DA X [a, b] ts) (hs' : starEach [a, b] X.env = [(false, eval a X.env), (false, eval b X.env)] := by rfl) (hs2 : starEach [b] X.env = [(false, eval b X.env)] := by rfl) : DI X tg (.Call (.Name "range" p) [a, b] [] pos) (tiR2 ts) := by
  obtain ⟨te, hp, hq⟩ := ha.ex
  refine ⟨_, pi_range2 hg hm hp hs' hs2, fun C σ H ρ q R E w k => hq C σ H ρ _ _ E w fun vs H1 ds ρ1 E1 s1 D1 h1 => ?_⟩
  match ds, h1, D1 with
  | [.int i, .int j], h1, D1 =>
    cases D1 with
    | cons d1 d2 =>
      cases d1
      cases d2 with
      | cons d3 d4 =>
        cases d3; cases d4
        exact ⟨i, j, rfl, h1.1, k _ H1 _ ρ1 E1 s1 itD_range h1.2⟩
/-! ### for -/
/-- the loop over ds, turn by turn -/
def wFor (g : TDG) (body : TDS) (q : DEnds) : List PyData → DEnv → Prop
  | [], ρ => q.nx ρ
  | d :: ds, ρ => g d ρ fun ρ1 => body { q with nx := wFor g body q ds, ct := wFor g body q ds, bk := q.nx } ρ1
def tdFor (ti : TDA) (g : TDG) (body : TDS) : TDS := fun q ρ => ti ρ fun ds ρ1 => wFor g body q ds ρ1
theorem ds_for {ti : TDA} {g : TDG} {body : List Stmt} {tb : TDS} (hp : PassesOwn (model X.prog X.w) X.A X.env X.xe) (hc : X.calm = true) (hi : DI X tg iter ti) {S : List Nat} (hg : DG X tg g S) (hb : DSs X body tb)
    (hs' : ∀ x, foldedSetIterable iter X.env x = pure x := by intro _; rfl) : DS X (.For tg iter body [] pos) (tdFor ti g tb) := by
  obtain ⟨pi, hi, qi⟩ := hi.ex
  obtain ⟨pg, hg, qg⟩ := hg.ex
  obtain ⟨pb, hb, qb⟩ := hb.ex
  refine ⟨_, ps_for hp hc hi hg hb hs', fun C σ H ρ q Q E h k => ?_⟩
  refine qi C σ H ρ _ _ E h fun J H1 ds ρ1 E1 s1 it h1 => ?_
  refine ⟨fun i m σ' H' => m = ds.length - i ∧ i ≤ ds.length ∧ ∃ ρ', EnvD C X.K H' σ' ρ' ∧ Step C ρ1 H1 ρ' H' ∧ wFor g tb q (ds.drop i) ρ', ⟨_, rfl, Nat.zero_le _, ρ1, E1, .rfl, h1⟩, ?_⟩
  rintro i m σ' H' ⟨rfl, hi, ρ', E', s', w⟩
  obtain ⟨go, stop⟩ := it i H' fun b o n => s'.keep b o fun z => n (List.mem_append_right _ z)
  by_cases hlt : i < ds.length
  · refine .inr ⟨(go hlt).1, fun σ2 H2 => i + 1 ≤ ds.length ∧ ∃ ρ2, EnvD C X.K H2 σ2 ρ2 ∧ Step C ρ1 H1 ρ2 H2 ∧ wFor g tb q (ds.drop (i + 1)) ρ2, fun σ2 H2 ⟨z, n⟩ => ⟨ds.length - (i + 1), by omega, rfl, z, n⟩, fun x H'' y => ?_⟩
    obtain ⟨l, yd⟩ := (go hlt).2 x H'' y
    obtain ⟨d, e1, D⟩ := yd (hs C ρ') fun a ha => ⟨let ⟨o, e, nt⟩ := E'.hid ha; ⟨o, e, nt⟩, by
      rcases List.mem_append.mp ha with z | z
      · exact .inl (List.mem_append_left _ z)
      · rcases List.mem_append.mp z with z | z
        · exact .inl (List.mem_append_right _ (List.mem_append_left _ z))
        · rcases s'.new a z with z | z
          · exact .inl (List.mem_append_right _ (List.mem_append_right _ z))
          · exact .inr z⟩
    have e2 : ds.drop i = d :: ds.drop (i + 1) := by
      rw [List.drop_eq_getElem_cons hlt]
      have : ds[i] = d := by rw [List.getElem?_eq_getElem hlt] at e1; exact Option.some.inj e1
      rw [this]
    rw [e2] at w
    refine qg C σ' H'' ρ' x d _ _ (E'.le l) D w fun σ2 H2 ρ2 E2 s2 _ w2 => ?_
    have s02 : Step C ρ1 H1 ρ2 H2 := s'.trans ((Step.le l).trans s2)
    have nx : ∀ σ3 H3 ρ3, EnvD C X.K H3 σ3 ρ3 → Step C ρ2 H2 ρ3 H3 → wFor g tb q (ds.drop (i + 1)) ρ3 → i + 1 ≤ ds.length ∧ ∃ ρ2, EnvD C X.K H3 σ3 ρ2 ∧ Step C ρ1 H1 ρ2 H3 ∧ wFor g tb q (ds.drop (i + 1)) ρ2 :=
      fun σ3 H3 ρ3 E3 s3 w3 => ⟨hlt, ρ3, E3, s02.trans s3, w3⟩
    exact qb C σ2 H2 ρ2 _ _ E2 w2 ⟨nx, fun v σ3 H3 d3 ρ3 E3 s3 D3 z => k.rt v σ3 H3 d3 ρ3 E3 ((s1.trans s02).trans s3) D3 z, fun σ3 H3 ρ3 E3 s3 z => k.nx σ3 H3 ρ3 E3 ((s1.trans s02).trans s3) z, nx⟩
  · have e : i = ds.length := by omega
    subst e
    rw [List.drop_length] at w
    exact .inl ⟨stop (Nat.le_refl _), k.nx σ' H' ρ' E' (s1.trans s') w⟩
/-! ### while -/
def tdWhile (c : TDT) (body : TDS) : TDS := fun q ρ => ∃ (Pv : Nat → DEnv → Prop) (m : Nat), Pv m ρ ∧ ∀ m ρ, Pv m ρ → c ρ fun b ρ1 =>
  if b = true then body { q with nx := fun ρ' => ∃ m', m' < m ∧ Pv m' ρ', ct := fun ρ' => ∃ m', m' < m ∧ Pv m' ρ', bk := q.nx } ρ1 else q.nx ρ1
/-! ### comprehensions of one clause -/
def wipeD (ρ : DEnv) : List Nat → DEnv
  | [] => ρ
  | v :: vs => (wipeD ρ vs).set v .un
def noOwn (ρ : DEnv) (vs : List Nat) : Bool := vs.all fun i => match ρ[i]? with
  | some x => x.addr.isNone
  | none => true
/-- the new list, item by item; ρ0 is the block's environment between turns -/
def wLc (g : TDG) (tt : TDT) (te : TDE) (vs : List Nat) (q : List PyData → Prop) (ρ0 : DEnv) : List PyData → List PyData → Prop
  | [], acc => q acc
  | d :: ds, acc => g d ρ0 fun ρ1 => wipeD ρ1 vs = ρ0 ∧ tt ρ1 fun b ρ2 => ρ2 = ρ1 ∧
      if b = true then te ρ1 fun y ρ3 => ρ3 = ρ1 ∧ acc.length < sizeLine ∧ wLc g tt te vs q ρ0 ds (acc ++ [y]) else wLc g tt te vs q ρ0 ds acc
def tdLc (ti : TDA) (g : TDG) (tt : TDT) (te : TDE) (vs : List Nat) : TDA := fun ρ q => ti ρ fun ds ρ1 => noOwn ρ1 vs = true ∧ wLc g tt te vs (fun acc => q acc ρ1) (wipeD ρ1 vs) ds []
structure DTs (X : Cx) (ifs : List Expr) (t : TDT) : Prop where
  ex : ∃ te, PTs X ifs te ∧ ∀ C σ H ρ q Q, EnvD C X.K H σ ρ → t ρ q → (∀ b H' ρ', EnvD C X.K H' σ ρ' → Step C ρ H ρ' H' → q b ρ' → Q b H') → te σ H Q
def tdYes : TDT := fun ρ q => q true ρ
theorem dts_nil : DTs X [] tdYes := ⟨_, pts_nil, fun C σ H ρ q Q E h k => k true H ρ E .rfl h⟩
theorem dts_one {tA : TDT} (h : DT X c tA) : DTs X [c] tA := by obtain ⟨te, hp, hq⟩ := h.ex; exact ⟨_, pts_one hp, hq⟩
theorem EnvD.wipe {C : Ctx} {K : PySem.W.Frag} {H : Hp} {σ : L2.St} {ρ : DEnv} (E : EnvD C K H σ ρ) : ∀ vs : List Nat, EnvD C K H (wipe σ vs) (wipeD ρ vs)
  | [] => E
  | v :: vs => (E.wipe vs).put rfl (by show SlotOk K C _ H none .un; trivial)
theorem Step.wipe {C : Ctx} {ρ : DEnv} {H : Hp} : ∀ vs : List Nat, Step C ρ H (wipeD ρ vs) H
  | [] => .rfl
  | v :: vs => (Step.wipe vs).trans (Step.put (by rfl))

theorem wipeD_out {ρ : DEnv} {i : Nat} : ∀ {vs : List Nat}, i ∉ vs → (wipeD ρ vs)[i]? = ρ[i]?
  | [], _ => rfl
  | v :: vs, h => by
    unfold wipeD
    rw [List.getElem?_set_ne (fun e => h (by rw [e]; exact List.mem_cons_self))]
    exact wipeD_out fun z => h (List.mem_cons_of_mem _ z)
theorem owns_set_un {ρ : DEnv} {i : Nat} (h : ∀ x, ρ[i]? = some x → x.addr = none) : owns (ρ.set i .un) = owns ρ := by
  induction ρ generalizing i with
  | nil => rfl
  | cons y ρ ih =>
    cases i with
    | zero =>
      show List.filterMap Slot.addr (Slot.un :: ρ) = List.filterMap Slot.addr (y :: ρ)
      rw [List.filterMap_cons_none rfl, List.filterMap_cons_none (h y rfl)]
    | succ i =>
      show List.filterMap Slot.addr (y :: ρ.set i .un) = List.filterMap Slot.addr (y :: ρ)
      have := ih (i := i) (fun x e => h x (by simpa using e))
      unfold owns at this
      cases q : y.addr with
      | none => rw [List.filterMap_cons_none q, List.filterMap_cons_none q]; exact this
      | some b => rw [List.filterMap_cons_some q, List.filterMap_cons_some q, this]
theorem wipeD_get {ρ : DEnv} {i : Nat} {x : Slot} : ∀ {vs : List Nat}, (wipeD ρ vs)[i]? = some x → x = .un ∨ ρ[i]? = some x
  | [], h => .inr h
  | v :: vs, h => by
    unfold wipeD at h
    rw [List.getElem?_set] at h
    split at h
    · split at h
      · cases h; exact .inl rfl
      · cases h
    · exact wipeD_get h
theorem owns_wipe {ρ : DEnv} : ∀ {vs : List Nat}, noOwn ρ vs = true → owns (wipeD ρ vs) = owns ρ
  | [], _ => rfl
  | v :: vs, h => by
    unfold noOwn at h
    rw [List.all_cons, Bool.and_eq_true] at h
    unfold wipeD
    rw [owns_set_un, owns_wipe (show noOwn ρ vs = true from h.2)]
    intro x z
    rcases wipeD_get z with q | q
    · subst q; rfl
    · rw [q] at h; simpa using h.1
/-- the readings of data as readings of values -/
def cE (K : PySem.W.Frag) (t : TDE) : TE := fun σ H Q => ∃ C ρ q, EnvD C K H σ ρ ∧ t ρ q ∧ ∀ v H' d ρ', EnvD C K H' σ ρ' → Step C ρ H ρ' H' → Dp K (hide (hs C ρ') H') v d → q d ρ' → Q v H'
theorem DE.pe (h : DE X e t) : PE X e (cE X.K t) := by
  obtain ⟨te, hp, hq⟩ := h.ex
  exact ⟨fun pins s σ H Q I ⟨C, ρ, q, E, w, k⟩ => hp.run pins s σ H Q I (hq C σ H ρ q Q E w k)⟩
def cT (K : PySem.W.Frag) (t : TDT) : TT := fun σ H Q => ∃ C ρ q, EnvD C K H σ ρ ∧ t ρ q ∧ ∀ b H' ρ', EnvD C K H' σ ρ' → Step C ρ H ρ' H' → q b ρ' → Q b H'
theorem DTs.pe {ifs : List Expr} {tt : TDT} (h : DTs X ifs tt) : PTs X ifs (cT X.K tt) := by
  obtain ⟨te, hp, hq⟩ := h.ex
  exact ⟨fun pins s σ H Q I ⟨C, ρ, q, E, w, k⟩ => hp.run pins s σ H Q I (hq C σ H ρ q Q E w k)⟩
def cG (K : PySem.W.Frag) (g : TDG) (S : List Nat) : TG := fun v σ H Q => ∃ C ρ d q, EnvD C K H σ ρ ∧ Dp K (hide (hs C ρ) H) v d ∧ g d ρ q ∧ ∀ σ' H' ρ', EnvD C K H' σ' ρ' → Step C ρ H ρ' H' → (∀ vs : List Nat, (∀ i ∈ S, i ∈ vs) → L2.wipe σ' vs = L2.wipe σ vs) → q ρ' → Q σ' H'
theorem DG.pe {g : TDG} {S : List Nat} (h : DG X tg g S) : PG X tg (cG X.K g S) := by
  obtain ⟨te, hp, hq⟩ := h.ex
  exact ⟨fun pins s σ H v u Q I r ⟨C, ρ, d, q, E, D, w, k⟩ => hp.run pins s σ H v u Q I r (hq C σ H ρ v d q Q E D w k)⟩
theorem EnvD.updEx {C : Ctx} {K : PySem.W.Frag} {H : Hp} {σ : L2.St} {ρ : DEnv} {a : Addr} {o : HO} (E : EnvD C K H σ ρ) (ha : a ∈ C.ex) (h0 : C.H0 a = none) (ho : ∀ xs, o ≠ HO.tup xs := by exact fun _ z => nomatch z) : EnvD C K (upd H a o) σ ρ := by
  have ah : a ∈ hs C ρ := List.mem_append_left _ ha
  have hu : hide (hs C ρ) (upd H a o) = hide (hs C ρ) H := by
    funext b
    by_cases q : b ∈ hs C ρ
    · rw [hide_in q, hide_in q]
    · rw [hide_out q, hide_out q, upd_ne (fun z => q (by rw [z]; exact ah))]
  refine ⟨E.len, fun i x e => ?_, E.nd, E.dj, E.dr, fun b h => ?_, fun b h => ?_, fun b u e n => ?_⟩
  · obtain ⟨v, e1, s⟩ := E.slots i x e
    refine ⟨v, e1, ?_⟩
    rw [hu]
    refine s.move Le.rfl (fun b hb o z => ?_) rfl rfl
    rw [upd_ne (fun y => (E.dj b (mem_owns.mpr ⟨i, x, e, hb⟩)).1 (by rw [y]; exact ha))]
    exact z
  · by_cases q : b = a
    · subst q; exact ⟨_, upd_same, ho⟩
    · obtain ⟨u, z, nt⟩ := E.exd b h; exact ⟨u, by rw [upd_ne q]; exact z, nt⟩
  · obtain ⟨sc, ns, i', s, b', q, r⟩ := E.row b h
    rw [hu]
    exact ⟨sc, ns, i', s, b', by rw [upd_ne (fun y => E.dr b h (by rw [y]; exact ha))]; exact q, r⟩
  · rw [upd_ne (fun y => by rw [y, h0] at e; cases e)]
    exact E.keep b u e n
theorem lc_sound {ti : TDA} {g : TDG} {S : List Nat} {tt : TDT} {te : TDE} {vs : List Nat} {pi : TI} {K : PySem.W.Frag}
    (qi : ∀ C σ H ρ q R, EnvD C K H σ ρ → ti ρ q → (∀ J H1 ds ρ1, EnvD C K H1 σ ρ1 → Step C ρ H ρ1 H1 → ItD K C ρ1 H1 J ds → q ds ρ1 → R J H1) → pi σ H R)
    (hS : ∀ i ∈ S, i ∈ vs) (C : Ctx) (σ : L2.St) (H : Hp) (ρ : DEnv) (q : List PyData → DEnv → Prop) (Q : VK) (E : EnvD C K H σ ρ) (h : tdLc ti g tt te vs ρ q)
    (k : ∀ a ws H' ds ρ', EnvD (C.with a) K H' σ ρ' → Step C ρ H ρ' H' → H a = none → H' a = some (.lst ws) → DpAll K (hide (hs (C.with a) ρ') H') ws ds → q ds ρ' → Q (.ref a) H') :
    tLc pi (cG K g S) (cT K tt) (cE K te) vs σ H Q := by
  refine qi C σ H ρ _ _ E h fun J H1 ds ρ1 E1 s1 it h1 => ?_
  obtain ⟨no, h1⟩ := h1
  intro D hD
  have ho : owns (wipeD ρ1 vs) = owns ρ1 := owns_wipe no
  have hD0 : C.H0 D = none := E1.fresh0 hD
  have hh : hs (C.with D) (wipeD ρ1 vs) = hs (C.with D) ρ1 := by unfold hs mu; rw [ho]
  have st0 : Step C ρ1 H1 (wipeD ρ1 vs) (upd H1 D (.lst [])) := (Step.wipe vs).trans (.le (.upd hD))
  refine ⟨fun i m H' => m = ds.length - i ∧ i ≤ ds.length ∧ ∃ (acc : List PyData) (va : List V), EnvD (C.with D) K H' (L2.wipe σ vs) (wipeD ρ1 vs) ∧ Step C ρ1 H1 (wipeD ρ1 vs) H' ∧ H' D = some (.lst va) ∧ DpAll K (hide (hs (C.with D) ρ1) H') va acc ∧ wLc g tt te vs (fun acc => q acc ρ1) (wipeD ρ1 vs) (ds.drop i) acc,
    ⟨_, rfl, Nat.zero_le _, [], [], (E1.wipe vs).with_fresh hD, st0, upd_same, .nil, h1⟩, ?_⟩
  rintro i m H' ⟨rfl, hi', acc, va, E', s', hDa, Da, w⟩
  obtain ⟨go, stop⟩ := it i H' fun b o n => s'.keep b o fun z => n (List.mem_append_right _ z)
  by_cases hlt : i < ds.length
  · refine .inr ⟨(go hlt).1, fun H2 => i + 1 ≤ ds.length ∧ ∃ (acc : List PyData) (va : List V), EnvD (C.with D) K H2 (L2.wipe σ vs) (wipeD ρ1 vs) ∧ Step C ρ1 H1 (wipeD ρ1 vs) H2 ∧ H2 D = some (.lst va) ∧ DpAll K (hide (hs (C.with D) ρ1) H2) va acc ∧ wLc g tt te vs (fun acc => q acc ρ1) (wipeD ρ1 vs) (ds.drop (i + 1)) acc,
      fun H2 ⟨z, n⟩ => ⟨ds.length - (i + 1), by omega, rfl, z, n⟩, fun x H'' y => ?_⟩
    obtain ⟨l, yd⟩ := (go hlt).2 x H'' y
    obtain ⟨d, e1, Dx⟩ := yd (hs (C.with D) (wipeD ρ1 vs)) fun a ha => ⟨let ⟨o, e, nt⟩ := E'.hid ha; ⟨o, e, nt⟩, by
      rw [hh] at ha
      rcases List.mem_cons.mp ha with z | z
      · subst z; exact .inr hD
      · exact .inl z⟩
    have e2 : ds.drop i = d :: ds.drop (i + 1) := by
      rw [List.drop_eq_getElem_cons hlt]
      have : ds[i] = d := by rw [List.getElem?_eq_getElem hlt] at e1; exact Option.some.inj e1
      rw [this]
    rw [e2] at w
    refine ⟨C.with D, wipeD ρ1 vs, d, _, E'.le l, Dx, w, fun σ2 H2 ρ2 E2 s2 wp2 w2 => ?_⟩
    have wq : L2.wipe σ2 vs = L2.wipe σ vs := by
      rw [wp2 vs hS]
      apply List.ext_getElem?
      intro j
      by_cases qj : j ∈ vs
      · rw [wipe_in qj, wipe_in qj]
        cases σ[j]? <;> rfl
      · rw [L2.wipe_out qj]
    have hD2 : H2 D = some (.lst va) := s2.keep D _ (fun z => by
      rcases List.mem_append.mp z with z | z
      · exact (E'.dr D z) List.mem_cons_self
      · exact (E'.dj D z).1 List.mem_cons_self) (l _ _ hDa)
    have Da2 : DpAll K (hide (hs (C.with D) ρ2) H2) va acc := DpAll.le s2.vis (DpAll.le (hide_le l) (by rw [hh]; exact Da))
    refine ⟨wq, C.with D, ρ2, _, E2, w2.2, fun b H3 ρ3 E3 s3 w3 => ?_⟩
    obtain ⟨r3, w3⟩ := w3
    subst r3
    have hD3 : H3 D = some (.lst va) := s3.keep D _ (fun z => by
      rcases List.mem_append.mp z with z | z
      · exact (E2.dr D z) List.mem_cons_self
      · exact (E2.dj D z).1 List.mem_cons_self) hD2
    have Da3 := DpAll.le s3.vis Da2
    -- the environment between turns again
    have again : ∀ {H5 : Hp}, EnvD (C.with D) K H5 σ2 ρ3 → EnvD (C.with D) K H5 (L2.wipe σ vs) (wipeD ρ1 vs) := fun {H5} E5 => by
      have := E5.wipe vs
      rw [wq, w2.1] at this
      exact this
    have muD : mu (C.with D) (wipeD ρ1 vs) = mu C ρ1 := by unfold mu; rw [ho]
    have stepN : ∀ {H5 : Hp}, Step (C.with D) (wipeD ρ1 vs) H'' ρ3 H5 → Step C ρ1 H1 (wipeD ρ1 vs) H5 := fun {H5} s5 =>
      ⟨fun b o n z => s5.keep b o (by rw [muD]; exact n) (l _ _ (s'.keep b o n z)), fun b o z => by
        obtain ⟨o1, z1⟩ := s'.dom b o z
        exact s5.dom b o1 (l _ _ z1), fun b z => .inl (by rw [ho] at z; exact z)⟩
    cases b with
    | false =>
      rw [if_neg (by decide)] at w3 ⊢
      refine ⟨hlt, acc, va, again E3, stepN (s2.trans s3), hD3, ?_, w3⟩
      refine DpAll.le (hide_sub fun b z => ?_) Da3
      rw [← hh] at z
      rw [← w2.1] at z
      exact hs_sub (fun c y => by
        obtain ⟨j, x', q, hx'⟩ := mem_owns.mp y
        rcases wipeD_get q with q | q
        · subst q; cases hx'
        · exact mem_owns.mpr ⟨j, x', q, hx'⟩) b z
    | true =>
      rw [if_pos rfl] at w3 ⊢
      refine ⟨C.with D, ρ3, _, E3, w3, fun y H4 dy ρ4 E4 s4 D4 w4 => ?_⟩
      obtain ⟨r4, hz, w4⟩ := w4
      subst r4
      have hD4 : H4 D = some (.lst va) := s4.keep D _ (fun z => by
        rcases List.mem_append.mp z with z | z
        · exact (E3.dr D z) List.mem_cons_self
        · exact (E3.dj D z).1 List.mem_cons_self) hD3
      have Da4 := DpAll.le s4.vis Da3
      refine ⟨va, hD4, by rw [DpAll.length Da4]; exact hz, hlt, acc ++ [dy], va ++ [y], again (E4.updEx List.mem_cons_self hD0), ?_, upd_same, ?_, w4⟩
      · have s6 := stepN ((s2.trans s3).trans s4)
        exact ⟨fun b o n z => by rw [upd_ne (ne_of_none z hD)]; exact s6.keep b o n z, fun b o z => by
          rw [upd_ne (ne_of_none z hD)]; exact s6.dom b o z, s6.new⟩
      · have D5 := DpAll.append Da4 (.cons D4 .nil)
        refine DpAll.le (fun b o z => ?_) D5
        obtain ⟨n, z⟩ := hide_some z
        have nD : b ≠ D := fun q => n (by rw [q]; exact List.mem_cons_self)
        rw [hide_out, upd_ne nD]
        · exact z
        · intro z'
          rw [← hh, ← w2.1] at z'
          exact n (hs_sub (fun c y => by
            obtain ⟨j, x', q, hx'⟩ := mem_owns.mp y
            rcases wipeD_get q with q | q
            · subst q; cases hx'
            · exact mem_owns.mpr ⟨j, x', q, hx'⟩) b z')
  · have e : i = ds.length := by omega
    subst e
    rw [List.drop_length] at w
    refine .inl ⟨stop (Nat.le_refl _), ?_⟩
    have vis : Le (hide (hs C ρ1) H1) (hide (hs (C.with D) ρ1) H') := fun b o z => by
      obtain ⟨n, z⟩ := hide_some z
      have nD : b ≠ D := ne_of_none z hD
      rw [hide_out]
      · exact s'.keep b o (fun y => n (List.mem_append_right _ y)) z
      · intro y
        rcases List.mem_cons.mp y with y | y
        · exact nD y
        · exact n y
    have EF : EnvD (C.with D) K H' σ ρ1 := by
      refine ⟨E1.len, fun j x e => ?_, E1.nd, fun b z => E'.dj b (by rw [ho]; exact z), E'.dr, E'.exd, fun b z => by have := E'.row b z; rw [hh] at this; exact this, E'.keep⟩
      by_cases qj : j ∈ vs
      · obtain ⟨v, e1, sl⟩ := E1.slots j x e
        refine ⟨v, e1, sl.move vis (fun a ha o z => ?_) rfl rfl⟩
        have := List.all_eq_true.mp no j qj
        rw [e] at this
        simp [ha] at this
      · obtain ⟨v, e1, sl⟩ := E'.slots j x (by rw [wipeD_out qj]; exact e)
        rw [L2.wipe_out qj] at e1
        rw [hh] at sl
        exact ⟨v, e1, sl⟩
    exact k D va H' acc ρ1 EF (s1.trans ⟨s'.keep, s'.dom, fun b z => .inl z⟩) (s1.free hD) hDa Da w

/-- [elt for tg in iter if ..]: a new list -/
theorem df_lc {elt : Expr} {ifs : List Expr} {scope : Scope} {own : List (Str × Nat)} {ti : TDA} {g : TDG} {S : List Nat} {tt : TDT} {te : TDE} (hc : X.calm = true) (hN : X.N.Nodup) (hi : DI X tg iter ti) (ok : BlkOk X.N X.env.scope scope own)
    (hg : ∀ (s : Shared) (H : Hp) (C : Addr) (cl : List (Str × Addr)) (fp : List Addr), DG (X.blk s H scope (compEnvC scope cl C X.env) fp) tg g S)
    (ht : ∀ (s : Shared) (H : Hp) (C : Addr) (cl : List (Str × Addr)) (fp : List Addr), DTs (X.blk s H scope (compEnvC scope cl C X.env) fp) ifs tt)
    (he : ∀ (s : Shared) (H : Hp) (C : Addr) (cl : List (Str × Addr)) (fp : List Addr), DE (X.blk s H scope (compEnvC scope cl C X.env) fp) elt te)
    (hS : ∀ i ∈ S, i ∈ own.map (·.2) := by decide) (hs' : ∀ x, foldedSetIterable iter X.env x = pure x := by intro _; rfl) :
    DF X (.ListComp elt [⟨tg, iter, ifs, 0⟩] scope pos) (tdLc ti g tt te (own.map (·.2))) := by
  obtain ⟨pi, hi, qi⟩ := hi.ex
  exact ⟨_, pe_lc (g := cG X.K g S) (tt := cT X.K tt) (te := cE X.K te) hc hN hi ok (fun s H C cl fp => (hg s H C cl fp).pe) (fun s H C cl fp => (ht s H C cl fp).pe) (fun s H C cl fp => (he s H C cl fp).pe) hs', fun C σ H ρ q Q E h k => lc_sound qi hS C σ H ρ q Q E h k⟩
/-- name = [..] on one line: shared, or this def's own -/
theorem ds_setLc {i : Nat} {y : Str} {py spos : Pos} {elt : Expr} {ifs : List Expr} {scope : Scope} {own : List (Str × Nat)} {ti : TDA} {g : TDG} {S : List Nat} {tt : TDT} {te : TDE} (hc : X.calm = true) (hN : X.N.Nodup) (hy : X.N[i]? = some y) (hyl : X.env.scope.names.lookup y = some .local)
    (hsw : swapsWith (.ListComp elt [⟨tg, iter, ifs, 0⟩] scope pos) (some (.Name y py)) spos.line X.env = pure true) (hi : DI X tg iter ti) (ok : BlkOk X.N X.env.scope scope own)
    (hg : ∀ (s : Shared) (H : Hp) (C : Addr) (cl : List (Str × Addr)) (fp : List Addr), DG (X.blk s H scope (compEnvC scope cl C X.env) fp) tg g S)
    (ht : ∀ (s : Shared) (H : Hp) (C : Addr) (cl : List (Str × Addr)) (fp : List Addr), DTs (X.blk s H scope (compEnvC scope cl C X.env) fp) ifs tt)
    (he : ∀ (s : Shared) (H : Hp) (C : Addr) (cl : List (Str × Addr)) (fp : List Addr), DE (X.blk s H scope (compEnvC scope cl C X.env) fp) elt te)
    (hS : ∀ i ∈ S, i ∈ own.map (·.2) := by decide) (hs' : ∀ x, foldedSetIterable iter X.env x = pure x := by intro _; rfl) :
    DS X (.Assign [.Name y py] (.ListComp elt [⟨tg, iter, ifs, 0⟩] scope pos) spos) (tdSet i fun ρ q => tdLc ti g tt te (own.map (·.2)) ρ fun ds ρ1 => q (.list ds) ρ1) := by
  obtain ⟨pi, hi, qi⟩ := hi.ex
  refine ⟨_, ps_setLc (g := cG X.K g S) (tt := cT X.K tt) (te := cE X.K te) hc hN hy hyl hsw hi ok (fun s H C cl fp => (hg s H C cl fp).pe) (fun s H C cl fp => (ht s H C cl fp).pe) (fun s H C cl fp => (he s H C cl fp).pe) hs', fun C σ H ρ q Q E h k => ?_⟩
  refine lc_sound qi hS C σ H ρ _ _ E h fun a vs H' ds ρ' E' s hn ha D z => ?_
  have hcx : a ∉ C.ex := fun z => by obtain ⟨o, e, _⟩ := E.exd a z; rw [hn] at e; cases e
  have D' : Dp X.K (hide (hs C ρ') H') (.ref a) (.list ds) := .lst (SqL.of (by rw [hide_out (E'.with_out hcx)]; exact ha)) (DpAll.le (hide_sub fun b z => List.mem_cons_of_mem _ z) D)
  exact k.nx _ _ _ (E'.unwith.sh D') (s.trans (Step.put (by rfl))) z
end
end DL
/-! DL: operators, calls. -/
namespace DL
open PySem PySem.Spec PyProof.Rows L2
/-! ### operators by data -/
def rI (P : Int → Int → Prop) (g : Int → Int → PyData) : RD2 := fun x y q => match x, y with
  | .int i, .int j => P i j ∧ q (g i j)
  | _, _ => False
def rI0 (g : Int → Int → PyData) : RD2 := fun x y q => match x, y with
  | .int i, .int j => q (g i j)
  | _, _ => False
section
variable {X : Cx} {e a b c tg iter : Expr} {es : List Expr} {pos : Pos} {t ta tb tc : TDE}
theorem lop_i {f : Value → Value → Sem Value} {P : Int → Int → Prop} {g : Int → Int → V} {gd : Int → Int → PyData} (h : OpR X f (L2.rI P g)) (hg : ∀ i j H, Dp X.K H (g i j) (gd i j)) : LOp X f (rI P gd) := by
  refine ⟨_, h, fun as H x y dx dy qd Q ex Dx Dy w k => ?_⟩
  cases dx with
  | int i =>
    cases dy with
    | int j =>
      cases Dx; cases Dy
      exact ⟨i, j, rfl, rfl, w.1, k _ H _ .rfl (hg _ _ _) w.2⟩
    | _ => exact False.elim w
  | _ => exact False.elim w
theorem lop_i0 {f : Value → Value → Sem Value} {g : Int → Int → V} {gd : Int → Int → PyData} (h : OpR X f (L2.rI0 g)) (hg : ∀ i j H, Dp X.K H (g i j) (gd i j)) : LOp X f (rI0 gd) := by
  refine ⟨_, h, fun as H x y dx dy qd Q ex Dx Dy w k => ?_⟩
  cases dx with
  | int i =>
    cases dy with
    | int j =>
      cases Dx; cases Dy
      exact ⟨i, j, rfl, rfl, k _ H _ .rfl (hg _ _ _) w⟩
    | _ => exact False.elim w
  | _ => exact False.elim w
theorem l_add : LOp X (binaryOp .Add) (rI0 fun i j => .int (i + j)) := lop_i0 op_add fun _ _ _ => .int _
theorem l_sub : LOp X (binaryOp .Sub) (rI0 fun i j => .int (i - j)) := lop_i0 op_sub fun _ _ _ => .int _
theorem l_mul : LOp X (binaryOp .Mult) (rI CMul fun i j => .int (i * j)) := lop_i op_mul fun _ _ _ => .int _
theorem l_fdiv : LOp X (binaryOp .FloorDiv) (rI CDiv fun i j => .int (i / j)) := lop_i op_fdiv fun _ _ _ => .int _
theorem l_mod : LOp X (binaryOp .Mod) (rI (fun _ j => 0 < j) fun i j => .int (i % j)) := lop_i op_mod fun _ _ _ => .int _
theorem l_pow : LOp X (binaryOp .Pow) (rI CPow fun i j => .int (i ^ j.toNat)) := lop_i op_pow fun _ _ _ => .int _
theorem l_shl : LOp X (binaryOp .LShift) (rI CPow fun i j => .int (i * 2 ^ j.toNat)) := lop_i op_shl fun _ _ _ => .int _
theorem l_shr : LOp X (binaryOp .RShift) (rI (fun _ j => 0 ≤ j) fun i j => .int (i / 2 ^ j.toNat)) := lop_i op_shr fun _ _ _ => .int _
theorem l_and : LOp X (binaryOp .BitAnd) (rI0 fun i j => .int (Builtin.bitAnd i j)) := lop_i0 op_and fun _ _ _ => .int _
theorem li_or : LOp X (inplaceOp .BitOr) (rI0 fun i j => .int (Builtin.bitOr i j)) := lop_i0 iop_or fun _ _ _ => .int _
theorem l_le : LOp X (compareOp .LtE) (rI0 fun i j => .bool (decide (i ≤ j))) := lop_i0 op_le fun _ _ _ => .bl _
theorem l_gt : LOp X (compareOp .Gt) (rI0 fun i j => .bool (decide (j < i))) := lop_i0 op_gt fun _ _ _ => .bl _
theorem l_ge : LOp X (compareOp .GtE) (rI0 fun i j => .bool (decide (j ≤ i))) := lop_i0 op_ge fun _ _ _ => .bl _
/-- ==, != of data at any depth -/
theorem Dp.all {K : PySem.W.Frag} {as : List Addr} {H : Hp} {v : V} {d : PyData} (p : plain d = true) (h : Dp K (hide as H) v d) : L2.Dp K H v d := Dp.old p (Dp.le hide_Le h)
theorem l_eq (hu : X.A.units + 64 < cLine) : LOp X (compareOp .Eq) (fun x y q => SeqAt.shaped x = true ∧ SeqAt.shaped y = true ∧ q (.bool (PyData.eqv x y))) :=
  ⟨_, op_eqD hu, fun as H x y dx dy qd Q ex Dx Dy w k => ⟨dx, dy, Dp.all (plain_sh w.1) Dx, Dp.all (plain_sh w.2.1) Dy, w.1, w.2.1, k _ H _ .rfl (.bl _) w.2.2⟩⟩
theorem l_ne (hu : X.A.units + 64 < cLine) : LOp X (compareOp .NotEq) (fun x y q => SeqAt.shaped x = true ∧ SeqAt.shaped y = true ∧ q (.bool (!PyData.eqv x y))) :=
  ⟨_, op_neD hu, fun as H x y dx dy qd Q ex Dx Dy w k => ⟨dx, dy, Dp.all (plain_sh w.1) Dx, Dp.all (plain_sh w.2.1) Dy, w.1, w.2.1, k _ H _ .rfl (.bl _) w.2.2⟩⟩
def isNoneD : PyData → Bool
  | .none => true
  | _ => false
theorem Dp.isNone {K : PySem.W.Frag} {H : Hp} {v : V} {d : PyData} (h : Dp K H v d) : decide (v = .non) = isNoneD d := by
  cases h <;> simp [isNoneD]
theorem l_isN : LOp X (compareOp .Is) (fun x y q => isNoneD y = true ∧ q (.bool (isNoneD x))) := by
  refine ⟨_, op_isN, fun as H x y dx dy qd Q ex Dx Dy w k => ?_⟩
  obtain ⟨w1, w2⟩ := w
  cases dy with
  | none => cases Dy; exact ⟨rfl, by rw [Dp.isNone Dx]; exact k _ H _ .rfl (.bl _) w2⟩
  | _ => exact absurd w1 Bool.false_ne_true
theorem l_notN : LOp X (compareOp .IsNot) (fun x y q => isNoneD y = true ∧ q (.bool (!isNoneD x))) := by
  refine ⟨_, op_notN, fun as H x y dx dy qd Q ex Dx Dy w k => ?_⟩
  obtain ⟨w1, w2⟩ := w
  cases dy with
  | none => cases Dy; exact ⟨rfl, by rw [Dp.isNone Dx]; exact k _ H _ .rfl (.bl _) w2⟩
  | _ => exact absurd w1 Bool.false_ne_true
/-- a unary operator -/
def LUn (X : Cx) (f : Value → Sem Value) (rd : PyData → (PyData → Prop) → Prop) : Prop := ∃ r, UnR X f r ∧ ∀ as H x dx qd Q, Dp X.K (hide as H) x dx → rd dx qd → (∀ v d, (∀ H, Dp X.K H v d) → qd d → Q v H) → r x H Q
theorem de_un {op : UnaryOp} {rd : PyData → (PyData → Prop) → Prop} (hl : LUn X (unaryOp op) rd) (ha : DE X a ta) : DE X (.UnaryOp op a pos) (fun ρ q => ta ρ fun x ρ1 => rd x fun z => q z ρ1) := by
  obtain ⟨r, ho, hl⟩ := hl
  obtain ⟨pa, ha, qa⟩ := ha.ex
  refine ⟨_, pe_un ho ha, fun C σ H ρ q Q E h k => qa C σ H ρ _ _ E h fun x H1 dx ρ1 E1 s1 D1 h1 => ?_⟩
  exact hl (hs C ρ1) H1 x dx _ _ D1 h1 fun v d D z => k v H1 d ρ1 E1 s1 (D _) z
def rU (g : Int → Int) : PyData → (PyData → Prop) → Prop := fun x q => match x with
  | .int i => q (.int (g i))
  | _ => False
theorem lun_i {f : Value → Sem Value} {g : Int → Int} (h : UnR X f (L2.rU fun i => .int (g i))) : LUn X f (rU g) := by
  refine ⟨_, h, fun as H x dx qd Q D w k => ?_⟩
  cases dx with
  | int i => cases D; exact ⟨i, rfl, k _ _ (fun _ => .int _) w⟩
  | _ => exact False.elim w
theorem l_neg : LUn X (unaryOp .USub) (rU fun i => -i) := lun_i un_neg
/-- a < b < c -/
def tdChain (rd rd' : RD2) (ta tb tc : TDE) : TDE := fun ρ q => ta ρ fun x ρ1 => tb ρ1 fun y ρ2 => rd x y fun z => match z with
  | .bool k => if k = true then tc ρ2 fun w ρ3 => rd' y w fun z' => q z' ρ3 else q (.bool false) ρ2
  | _ => False
theorem de_chain {op op' : CmpOp} {rd rd' : RD2} (hl : LOp X (compareOp op) rd) (hl' : LOp X (compareOp op') rd') (ha : DE X a ta) (hb : DE X b tb) (hc : DE X c tc)
    (hm : lastMarks [op, op'] [b, c] = false := by with_unfolding_all rfl) : DE X (.Compare a [op, op'] [b, c] pos) (tdChain rd rd' ta tb tc) := by
  obtain ⟨r, ho, hl⟩ := hl
  obtain ⟨r', ho', hl'⟩ := hl'
  obtain ⟨pa, ha, qa⟩ := ha.ex
  obtain ⟨pb, hb, qb⟩ := hb.ex
  obtain ⟨pc, hc, qc⟩ := hc.ex
  refine ⟨_, pe_chain ho ho' ha hb hc hm, fun C σ H ρ q Q E h k => ?_⟩
  refine qa C σ H ρ _ _ E h fun x H1 dx ρ1 E1 s1 D1 h1 => ?_
  refine qb C σ H1 ρ1 _ _ E1 h1 fun y H2 dy ρ2 E2 s2 D2 h2 => ?_
  refine hl (hs C ρ2) H2 x y dx dy _ _ (fun a h => E2.hid h) (BV.step D1 s2) D2 h2 fun v H3 d l D q3 => ?_
  cases d with
  | bool kk =>
    cases D
    refine ⟨kk, rfl, ?_⟩
    cases kk with
    | true =>
      refine qc C σ H3 ρ2 _ _ (E2.le l) q3 fun w H4 dw ρ4 E4 s4 D4 h4 => ?_
      refine hl' (hs C ρ4) H4 y w dy dw _ _ (fun a h => E4.hid h) (BV.step (Dp.le (hide_le l) D2) s4) D4 h4 fun v5 H5 d5 l5 D5 q5 => ?_
      exact k v5 H5 d5 ρ4 (E4.le l5) (((s1.trans s2).trans (.le l)).trans (s4.trans (.le l5))) D5 q5
    | false => exact k _ H3 _ ρ2 (E2.le l) ((s1.trans s2).trans (.le l)) (.bl false) q3
  | _ => exact False.elim q3
/-! ### own defs -/
abbrev SD := List PyData → (PyData → Prop) → Prop
/-- what a def that draws nothing promises, by data -/
def spD (K : PySem.W.Frag) (n : Nat) (sd : SD) : Sp := fun vs H Q _ => vs.length = n ∧ ∃ (as : List Addr) (ds : List PyData) (q0 : PyData → Prop), (∀ a ∈ as, ∃ o, H a = some o ∧ ∀ xs, o ≠ HO.tup xs) ∧ DpAll K (hide as H) vs ds ∧ sd ds q0 ∧ ∀ d, q0 d → ∀ v H', Le H H' → Dp K (hide as H') v d → Q v H'
theorem startD_len {N : List Str} {vs : List V} {ds : List PyData} (h : vs.length = ds.length) (hn : vs.length ≤ N.length) : (start N vs).length = (ds.map Slot.sh ++ List.replicate (N.length - ds.length) Slot.un).length := by
  unfold L2.start
  simp [h]
theorem start_envD {K : PySem.W.Frag} {H : Hp} {as : List Addr} {N : List Str} {vs : List V} {ds : List PyData} (ex : ∀ a ∈ as, ∃ o, H a = some o ∧ ∀ xs, o ≠ HO.tup xs) (D : DpAll K (hide as H) vs ds) (hn : vs.length ≤ N.length) :
    EnvD ⟨H, as, []⟩ K H (start N vs) (ds.map Slot.sh ++ List.replicate (N.length - ds.length) Slot.un) := by
  have ho : owns (ds.map Slot.sh ++ List.replicate (N.length - ds.length) Slot.un) = [] := by
    apply List.eq_nil_iff_forall_not_mem.mpr
    intro a h
    obtain ⟨i, x, e, hx⟩ := mem_owns.mp h
    rw [List.getElem?_append] at e
    split at e
    · rw [List.getElem?_map] at e
      cases q : ds[i]? with
      | none => rw [q] at e; cases e
      | some d => rw [q] at e; cases e; cases hx
    · rw [List.getElem?_replicate] at e
      split at e
      · cases e; cases hx
      · cases e
  have hh : hs ⟨H, as, []⟩ (ds.map Slot.sh ++ List.replicate (N.length - ds.length) Slot.un) = as := by unfold hs mu; rw [ho]; simp
  refine ⟨startD_len (DpAll.length D) hn, fun i x e => ?_, by rw [ho]; exact List.nodup_nil, fun a h => (by rw [ho] at h; cases h), fun a h => (nomatch h), ex, fun a h => (nomatch h), fun b o e _ => e⟩
  rw [hh]
  have hl := DpAll.length D
  rw [List.getElem?_append] at e
  unfold L2.start
  split at e
  · rename_i z
    rw [List.getElem?_map] at e
    cases q : ds[i]? with
    | none => rw [q] at e; cases e
    | some d =>
      rw [q] at e; cases e
      obtain ⟨v, h1, h2⟩ := DpAll.get D q
      refine ⟨some v, ?_, h2⟩
      rw [List.getElem?_append_left (by simp; exact (List.getElem?_eq_some_iff.mp h1).1), List.getElem?_map, h1]
      rfl
  · rename_i z
    rw [List.getElem?_replicate] at e
    split at e
    · rename_i z2
      cases e
      refine ⟨none, ?_, trivial⟩
      rw [List.length_map] at z z2
      rw [List.getElem?_append_right (by simp; omega), List.getElem?_replicate]
      simp only [List.length_map]
      rw [if_pos (by omega)]
    · cases e
/-- a def of the text keeps what its body's reading says -/
theorem fnD {P : Program} {w : World} {K : PySem.W.Frag} {mg : Str → Option Value} {base : Heap} {x qual : Str} {st : Stmt} {f : Addr} {fd : FuncData} {N ps : List Str} {k : Nat} {sd : SD} {u : TDS} (F : Fun K x qual st f fd) (S : FnScope N ps (defScope st)) (hn : ps.length ≤ N.length)
    (hbody : ∀ (cdv : Value) (A : Around) (outer : List Env) (s : Shared) (H : Hp) (E : XK), Room k (A.deeper (envOfC qual (defScope st) s.heap.objs.size f cdv)) →
      DSs (cxOf CX0 P w K mg base N qual (defScope st) f cdv A outer s H E).nox (defBody st) u)
    (hr : ∀ ds q, ds.length = ps.length → sd ds q → u { nx := fun _ => q .none, rt := fun d _ => q d } (ds.map Slot.sh ++ List.replicate (N.length - ds.length) Slot.un)) :
    FnOk P w K mg base CX0 (k + 1) f fd ps (spD K ps.length sd) := by
  refine F.ok S (fun vs H Q E h => h.1) fun cdv A outer s H vs Q E hrm h => ?_
  obtain ⟨hl, as, ds, q0, ex, D, w', fin⟩ := h
  obtain ⟨ts, hp, hq⟩ := (hbody cdv A outer s H E hrm).ex
  refine ⟨ts, hp, ?_⟩
  have hld : ds.length = ps.length := (DpAll.length D).symm.trans hl
  have E0 : EnvD ⟨H, as, []⟩ K H (start N vs) (ds.map Slot.sh ++ List.replicate (N.length - ds.length) Slot.un) := start_envD ex D (by omega)
  have sub : ∀ (ρ : DEnv), ∀ b, b ∈ as → b ∈ hs ⟨H, as, []⟩ ρ := fun ρ b z => List.mem_append_left _ z
  refine hq ⟨H, as, []⟩ (start N vs) H _ { nx := fun _ => q0 .none, rt := fun d _ => q0 d } _ E0 (hr ds _ hld w') ⟨fun σ' H' ρ' E' s' z => ?_, fun v σ' H' d ρ' E' s' D' z => ?_, fun _ _ _ _ _ z => z, fun _ _ _ _ _ z => z⟩
  · exact fin _ z .non H' (fun b o e => E'.keep b o e (by simp)) .non
  · exact fin _ z v H' (fun b o e => E'.keep b o e (by simp)) (Dp.le (hide_sub (sub ρ')) D')
/-- a call of it -/
theorem de_call {k : Nat} {f : Addr} {fd : FuncData} {ps : List Str} {n : Nat} {sd : SD} {x : Str} {p : Pos} {ts : TDA} (F : FnOk X.prog X.w X.K X.mg X.base CX0 k f fd ps (spD X.K n sd)) (hr : Room k X.A) (hg : Gl X x) (hm : X.mg x = some (.ref f)) (hk : PySem.W.keepIn X.K (.ref f) = true) (hb : Binds X.K fd ps [])
    (ha : DA X (e :: es) ts) (hdb : (x == ("__debug__" : Str)) = false := by decide) (he : starEach (e :: es) X.env = (false, eval e X.env) :: starEach es X.env := by rfl) (hpl : (backTo pos (starEach es X.env)).any (·.1) = false := by rfl) :
    DE X (.Call (.Name x p) (e :: es) [] pos) (fun ρ q => ts ρ fun ds ρ1 => ds.length = n ∧ sd ds fun d => q d ρ1) := by
  obtain ⟨ta, ha, qa⟩ := ha.ex
  refine ⟨_, pe_call F hr hg hm hk hb .nil pass0 (E := E0) ha hdb he hpl, fun C σ H ρ q Q E h k => ?_⟩
  refine qa C σ H ρ _ _ E h fun vs H1 ds ρ1 E1 s1 D1 h1 => ?_
  refine ⟨by rw [List.append_nil, DpAll.length D1]; exact h1.1, hs C ρ1, ds, fun d => q d ρ1, fun a h => E1.hid h, by rw [List.append_nil]; exact D1, h1.2, fun d z v H' l D => ?_⟩
  exact k v H' d ρ1 (E1.le l) (s1.trans (.le l)) D z
end
end DL
/-! DL: built-ins, subscripts, iterators. -/
namespace DL
open PySem PySem.Spec PyProof.Rows L2
section
variable {X : Cx} {e a b c tg iter : Expr} {es : List Expr} {pos : Pos} {t ta tb tc : TDE}
/-! ### arguments that may be lent -/
/-- one argument, lent -/
structure D1 (X : Cx) (e : Expr) (t : TDE) : Prop where
  ex : ∃ te, PA X [e] te ∧ ∀ C σ H ρ q (Q : List V → Hp → Prop), EnvD C X.K H σ ρ → t ρ q → (∀ v H' d ρ', EnvD C X.K H' σ ρ' → Step C ρ H ρ' H' → BV X.K C ρ' H' v d → q d ρ' → Q [v] H') → te σ H Q
theorem d1 (h : DB X e t) (hs' : starEach [e] X.env = (false, eval e X.env) :: starEach [] X.env := by rfl) : D1 X e t := by
  obtain ⟨te, hp, hq⟩ := h.ex
  exact ⟨_, pa_cons hp pa_nil hs', fun C σ H ρ q Q E w k => hq C σ H ρ _ _ E w fun v H' d ρ' E' s B z => k v H' d ρ' E' s B z⟩
/-- a built-in of one lent argument, by data -/
def L1 (X : Cx) (r : List V → Hp → VK → Prop) (rd : PyData → (PyData → Prop) → Prop) : Prop :=
  ∀ C σ ρ H v d qd Q, EnvD C X.K H σ ρ → BV X.K C ρ H v d → rd d qd → (∀ v' H' d', Le H H' → Dp X.K (hide (hs C ρ) H') v' d' → qd d' → Q v' H') → r [v] H Q
def td1 (rd : PyData → (PyData → Prop) → Prop) (t : TDE) : TDE := fun ρ q => t ρ fun d ρ1 => rd d fun z => q z ρ1
theorem de_b1 {id : String} {r : List V → Hp → VK → Prop} {rd : PyData → (PyData → Prop) → Prop} {x : Str} {p : Pos} (hc : CallR X (.builtin id) r) (hl : L1 X r rd) (hg : Gl X x) (hm : X.mg x = none) (hv : bootBuiltins x = some (.builtin id)) (ha : D1 X e t)
    (hn : x ≠ "__name__" := by decide) (hdb : (x == ("__debug__" : Str)) = false := by decide) (he : starEach [e] X.env = (false, eval e X.env) :: starEach [] X.env := by rfl) (hpl : (backTo pos (starEach [] X.env)).any (·.1) = false := by rfl) :
    DE X (.Call (.Name x p) [e] [] pos) (td1 rd t) := by
  obtain ⟨te, hp, hq⟩ := ha.ex
  refine ⟨_, pe_callB hc hg hm hv hp hn hdb he hpl, fun C σ H ρ q Q E h k => hq C σ H ρ _ _ E h fun v H1 d ρ1 E1 s1 B h1 => ?_⟩
  exact hl C σ ρ1 H1 v d _ _ E1 B h1 fun v' H' d' l D z => k v' H' d' ρ1 (E1.le l) (s1.trans (.le l)) D z
theorem de_t1 {T : String} {r : List V → Hp → VK → Prop} {rd : PyData → (PyData → Prop) → Prop} {x : Str} {p : Pos} (hc : CallR X (.type T) r) (hl : L1 X r rd) (hg : Gl X x) (hm : X.mg x = none) (hv : bootBuiltins x = some (.type T)) (ha : D1 X e t)
    (hn : x ≠ "__name__" := by decide) (hdb : (x == ("__debug__" : Str)) = false := by decide) (he : starEach [e] X.env = (false, eval e X.env) :: starEach [] X.env := by rfl) (hpl : (backTo pos (starEach [] X.env)).any (·.1) = false := by rfl) :
    DE X (.Call (.Name x p) [e] [] pos) (td1 rd t) := by
  obtain ⟨te, hp, hq⟩ := ha.ex
  refine ⟨_, pe_callTy hc hg hm hv hp hn hdb he hpl, fun C σ H ρ q Q E h k => hq C σ H ρ _ _ E h fun v H1 d ρ1 E1 s1 B h1 => ?_⟩
  exact hl C σ ρ1 H1 v d _ _ E1 B h1 fun v' H' d' l D z => k v' H' d' ρ1 (E1.le l) (s1.trans (.le l)) D z
def rLen : PyData → (PyData → Prop) → Prop := fun d q => match d with
  | .list ds => q (.int ds.length)
  | .tuple ds => q (.int ds.length)
  | _ => False
theorem l1_len : L1 X (fun xs H Q => ∃ p ys, xs = [.ref p] ∧ (SqL X.K H p ys ∨ SqT X.K H p ys) ∧ Q (.int ys.length) H) rLen := by
  intro C σ ρ H v d qd Q E B w k
  cases d with
  | list ds =>
    obtain ⟨a, vs, rfl, s, D⟩ := B.list
    exact ⟨a, vs, rfl, .inl s, by rw [DpAll.length D]; exact k _ H _ .rfl (.int _) w⟩
  | tuple ds =>
    obtain ⟨a, vs, rfl, s, D⟩ := B.tup
    exact ⟨a, vs, rfl, .inr s, by rw [DpAll.length D]; exact k _ H _ .rfl (.int _) w⟩
  | _ => exact False.elim w
/-- ints of data -/
def intsOf : List PyData → Option (List Int)
  | [] => some []
  | .int i :: ds => (intsOf ds).map (i :: ·)
  | _ => none
def rInts (f : List Int → (PyData → Prop) → Prop) : PyData → (PyData → Prop) → Prop := fun d q => match d with
  | .list ds => ∃ ns, ds = List.map PyData.int ns ∧ f ns q
  | _ => False
def rBools (f : List Bool → (PyData → Prop) → Prop) : PyData → (PyData → Prop) → Prop := fun d q => match d with
  | .list ds => ∃ ns, ds = List.map PyData.bool ns ∧ f ns q
  | _ => False
theorem l1_all : L1 X (rAll X.K) (rBools fun ns q => q (.bool (ns.all id))) := by
  intro C σ ρ H v d qd Q E B w k
  cases d with
  | list ds =>
    obtain ⟨a, vs, rfl, s, D⟩ := B.list
    obtain ⟨ns, rfl, w⟩ := w
    cases DpAll.bls D
    exact ⟨a, ns, rfl, s, k _ H _ .rfl (.bl _) w⟩
  | _ => exact False.elim w
/-- int(..) of an int, a bool -/
def rInt : PyData → (PyData → Prop) → Prop := fun d q => match d with
  | .int i => q (.int i)
  | .bool k => q (.int (if k then 1 else 0))
  | _ => False
theorem BV.int_of {K : PySem.W.Frag} {C : Ctx} {ρ : DEnv} {H : Hp} {v : V} {i : Int} (B : BV K C ρ H v (.int i)) : v = .int i := Dp.int_of (B.flat fun _ => nofun)
theorem BV.bl_of {K : PySem.W.Frag} {C : Ctx} {ρ : DEnv} {H : Hp} {v : V} {i : Bool} (B : BV K C ρ H v (.bool i)) : v = .bl i := Dp.bl_of (B.flat fun _ => nofun)
theorem l1_int : L1 X (fun xs H Q => (∃ i, xs = [.int i] ∧ Q (.int i) H) ∨ ∃ k, xs = [.bl k] ∧ Q (.int (if k then 1 else 0)) H) rInt := by
  intro C σ ρ H v d qd Q E B w k
  cases d with
  | int i => cases BV.int_of B; exact .inl ⟨i, rfl, k _ H _ .rfl (.int _) w⟩
  | bool i => cases BV.bl_of B; exact .inr ⟨i, rfl, k _ H _ .rfl (.int _) w⟩
  | _ => exact False.elim w
/-- tuple(..) of a list, a tuple -/
def rTuple : PyData → (PyData → Prop) → Prop := fun d q => match d with
  | .list ds => q (.tuple ds)
  | .tuple ds => q (.tuple ds)
  | _ => False
theorem DpAll.up {C : Ctx} {K : PySem.W.Frag} {ρ : DEnv} {H : Hp} {p : Addr} {o : HO} {vs : List V} {ds : List PyData} (hp : H p = none) (D : DpAll K (hide (hs C ρ) H) vs ds) : DpAll K (hide (hs C ρ) (upd H p o)) vs ds := DpAll.le (hide_le (.upd hp)) D
theorem l1_tuple : L1 X (fun xs H Q => ∃ p ys, xs = [.ref p] ∧ ((SqL X.K H p ys ∧ ∀ l, H l = none → Q (.ref l) (upd H l (.tup ys))) ∨ (SqT X.K H p ys ∧ Q (.ref p) H))) rTuple := by
  intro C σ ρ H v d qd Q E B w k
  cases d with
  | list ds =>
    obtain ⟨a, vs, rfl, s, D⟩ := B.list
    exact ⟨a, vs, rfl, .inl ⟨s, fun l hl => k _ _ _ (.upd hl) (.tup ((upd_vis E hl)) (DpAll.up hl D)) w⟩⟩
  | tuple ds =>
    have D := B.flat fun _ => nofun
    obtain ⟨a, vs, rfl, s, D'⟩ := Dp.tup_of D
    exact ⟨a, vs, rfl, .inr ⟨SqT.le hide_Le s, k _ H _ .rfl D w⟩⟩
  | _ => exact False.elim w
/-! ### new lists by a built-in: list(..), sorted(..) -/
def LF (X : Cx) (r : List V → Hp → VK → Prop) (rd : PyData → (List PyData → Prop) → Prop) : Prop :=
  ∀ C σ ρ H v d qd Q, EnvD C X.K H σ ρ → BV X.K C ρ H v d → rd d qd → (∀ p vs ds', H p = none → DpAll X.K (hide (hs C ρ) H) vs ds' → qd ds' → Q (.ref p) (upd H p (.lst vs))) → r [v] H Q
def tf1 (rd : PyData → (List PyData → Prop) → Prop) (t : TDE) : TDA := fun ρ q => t ρ fun d ρ1 => rd d fun z => q z ρ1
theorem df_t1 {T : String} {r : List V → Hp → VK → Prop} {rd : PyData → (List PyData → Prop) → Prop} {x : Str} {p : Pos} (hc : CallR X (.type T) r) (hl : LF X r rd) (hg : Gl X x) (hm : X.mg x = none) (hv : bootBuiltins x = some (.type T)) (ha : D1 X e t)
    (hn : x ≠ "__name__" := by decide) (hdb : (x == ("__debug__" : Str)) = false := by decide) (he : starEach [e] X.env = (false, eval e X.env) :: starEach [] X.env := by rfl) (hpl : (backTo pos (starEach [] X.env)).any (·.1) = false := by rfl) :
    DF X (.Call (.Name x p) [e] [] pos) (tf1 rd t) := by
  obtain ⟨te, hp, hq⟩ := ha.ex
  refine ⟨_, pe_callTy hc hg hm hv hp hn hdb he hpl, fun C σ H ρ q Q E h k => hq C σ H ρ _ _ E h fun v H1 d ρ1 E1 s1 B h1 => ?_⟩
  exact hl C σ ρ1 H1 v d _ _ E1 B h1 fun p vs ds hp D z => k p vs _ ds ρ1 (E1.with_fresh hp) (s1.trans (.le (.upd hp))) (s1.free hp) upd_same (DpAll.le (DpAll.with_fresh (K := X.K) hp) D) z
def rList : PyData → (List PyData → Prop) → Prop := fun d q => match d with
  | .list ds => q ds
  | .tuple ds => q ds
  | _ => False
theorem lf_list : LF X (fun xs H Q => ∃ p ys, xs = [.ref p] ∧ (SqL X.K H p ys ∨ SqT X.K H p ys) ∧ ∀ l, H l = none → Q (.ref l) (upd H l (.lst ys))) rList := by
  intro C σ ρ H v d qd Q E B w k
  cases d with
  | list ds =>
    obtain ⟨a, vs, rfl, s, D⟩ := B.list
    exact ⟨a, vs, rfl, .inl s, fun l hl => k l vs ds hl D w⟩
  | tuple ds =>
    obtain ⟨a, vs, rfl, s, D⟩ := B.tup
    exact ⟨a, vs, rfl, .inr s, fun l hl => k l vs ds hl D w⟩
  | _ => exact False.elim w
/-! ### min, max of two -/
/-! ### isinstance -/
def tyD : PyData → String
  | .none => "NoneType"
  | .bool _ => "bool"
  | .int _ => "int"
  | .str _ => "str"
  | .list _ => "list"
  | .tuple _ => "tuple"
  | .dict _ => "dict"
/-- the type of what stands at a value: the library's word, or a dict with tuples as keys that is locked -/
def TyD (K : PySem.W.Frag) (H : Hp) (v : V) (t : Value) : Prop := TyX K H v t ∨ ∃ (a : Addr) (o : Obj) (kvs : List (List Key × V)), v = .ref a ∧ t = .type "dict" ∧ H a = some (.frz o (.dT kvs))
theorem TyD.kit {X : Cx} {pins : List (Addr × Obj)} {σ : L2.St} {H : Hp} {s : Shared} {x : V} {u t : Value} (I : Inv X pins σ H s) (rx : RelV x u) (ty : TyD X.K H x t) : ∃ P : Heap → Prop, PySem.W.KitX X.K u t P ∧ P s.heap ∧ u ≠ .builtin "__main__.__loader__#opaque" := by
  rcases ty with ty | ⟨a, o, kvs, rfl, rfl, e⟩
  · exact kit_of I rx ty
  · cases (show u = Value.ref a from rx)
    obtain ⟨_, hd, hx, _⟩ := I.frzT e
    exact ⟨_, PySem.W.kitx_dict, ⟨o, hd, hx.1⟩, nofun⟩
def rIsiD (K : PySem.W.Frag) : List V → Hp → VK → Prop := fun vs H Q => ∃ (x c : V) (t u : Value) (b : Bool), vs = [x, c] ∧ ClsV c u ∧ TyD K H x t ∧ PySem.W.kitOne K t u = some b ∧ Q (.bl b) H
def rIsiTD (K : PySem.W.Frag) : List V → Hp → VK → Prop := fun vs H Q => ∃ (x : V) (tp : Addr) (cs : List V) (t : Value) (us : List Value) (b : Bool), vs = [x, .ref tp] ∧ H tp = some (.tup cs) ∧ Paired ClsV cs us ∧ TyD K H x t ∧ PySem.W.kitAny K t us = some b ∧ Q (.bl b) H
theorem cr_isiD {X : Cx} : CallR X (.builtin "isinstance") (rIsiD X.K) := by
  intro pins s σ H vs ws Q I r h
  obtain ⟨x, c, t, u, b, rfl, kc, ty, ek, hq⟩ := h
  obtain ⟨u1, u2, rfl, r1, r2⟩ := vals2 r
  cases kc.eq r2
  obtain ⟨P, Z, p, hx⟩ := ty.kit I r1
  exact PySem.W.kia_one Z I.kIn p ek hx fun tk => ⟨.bl b, H, I.tok tk, rfl, hq⟩
theorem cr_isiTD {X : Cx} : CallR X (.builtin "isinstance") (rIsiTD X.K) := by
  intro pins s σ H vs ws' Q I r h
  obtain ⟨x, tp, cs, t, ws, b, rfl, hT, kc, ty, ek, hq⟩ := h
  obtain ⟨u1, u2, rfl, r1, r2⟩ := vals2 r
  cases (show u2 = Value.ref tp from r2)
  obtain ⟨P, Z, p, hx⟩ := ty.kit I r1
  obtain ⟨_, its, rv, o, h1, h2, n, h3⟩ := (show ObjOk X.prog X.w H s.heap tp (.tup cs) from I.hok tp _ hT)
  cases ClsV.all kc rv
  cases o with
  | mk oc od dt sl =>
    simp only at h2 h3
    subst h2 h3
    exact PySem.W.kia_tup Z I.kIn p h1 ek hx fun tk => ⟨.bl b, H, I.tok tk, rfl, hq⟩
theorem Dp.tyX {K : PySem.W.Frag} {H : Hp} {v : V} {d : PyData} (h : Dp K H v d) : TyD K H v (.type (tyD d)) := by
  cases h with
  | non => exact .inl (.base .non)
  | bl b => exact .inl (.base (.bl b))
  | int i => exact .inl (.base (.int i))
  | str x => exact .inl (.base (.str x))
  | lst s a =>
    rcases s with (s | ⟨o, s⟩) | ⟨o, its, n, h1, h2, _⟩
    · exact .inl (.base (.lst s))
    · exact .inl (.base (.frz s))
    · exact .inl (.kList h1 h2)
  | tup s a => exact .inl (.base (.tup s))
  | dicK s _ _ => exact .inl (.fDict s)
  | dicT s _ _ => exact .inr ⟨_, _, _, rfl, rfl, s⟩
theorem BV.tyX {K : PySem.W.Frag} {C : Ctx} {ρ : DEnv} {H : Hp} {v : V} {d : PyData} (B : BV K C ρ H v d) : TyD K H v (.type (tyD d)) := by
  rcases B with h | ⟨a, vs, ds, rfl, rfl, h, D, _⟩
  · exact Dp.tyX (Dp.le hide_Le h)
  · exact Dp.tyX (.lst (SqL.of h) (DpAll.le hide_Le D))
/-- is the data of the type T -/
def isS (s T : String) : Bool := (kitB s T).getD false
def isD (T : String) (d : PyData) : Bool := isS (tyD d) T
def tys : List String := ["NoneType", "bool", "int", "str", "list", "tuple", "dict"]
theorem tyD_mem (d : PyData) : tyD d ∈ tys := by cases d <;> simp [tyD, tys]
theorem isS_some : ∀ T ∈ ["int", "bool", "tuple", "list", "str"], ∀ s ∈ tys, kitB s T = some (isS s T) := by decide +kernel
theorem isD_some {T : String} (h : T ∈ ["int", "bool", "tuple", "list", "str"]) (d : PyData) : kitB (tyD d) T = some (isD T d) := isS_some T h _ (tyD_mem d)
theorem de_isi {x : Str} {T : String} {p p2 : Pos} (hT : T ∈ ["int", "bool", "tuple", "list", "str"]) (hg : Gl X "isinstance") (hm : X.mg "isinstance" = none) (hgT : Gl X x) (hmT : X.mg x = none) (hvT : bootBuiltins x = some (.type T)) (ha : DB X a ta)
    (hnT : x ≠ "__name__" := by decide) (hdT : (x == ("__debug__" : Str)) = false := by decide)
    (hs1 : starEach [a, .Name x p2] X.env = (false, eval a X.env) :: starEach [.Name x p2] X.env := by rfl) (hs2 : starEach [.Name x p2] X.env = (false, eval (.Name x p2) X.env) :: starEach [] X.env := by rfl)
    (hpl : (backTo pos (starEach [.Name x p2] X.env)).any (·.1) = false := by rfl) :
    DE X (.Call (.Name "isinstance" p) [a, .Name x p2] [] pos) (fun ρ q => ta ρ fun d ρ1 => q (.bool (isD T d)) ρ1) := by
  obtain ⟨te, hp, hq⟩ := ha.ex
  refine ⟨_, pe_callB cr_isiD hg hm (by decide +kernel) (pa_cons hp (pa_cons (pe_bltn (v := .ty T) hgT hmT hvT rfl hnT hdT) pa_nil hs2) hs1) (by decide) (by decide) hs1 hpl, fun C σ H ρ q Q E h k => hq C σ H ρ _ _ E h fun v H1 d ρ1 E1 s1 B h1 => ?_⟩
  exact ⟨v, .ty T, _, _, _, rfl, .ty T, B.tyX, kit_ty (isD_some hT d), k _ H1 _ ρ1 E1 s1 (.bl _) h1⟩
/-! ### subscripts -/
def rIxD : RD2 := fun x y q => match x, y with
  | .list ds, .int i => ∃ d, atI ds i = some d ∧ q d
  | .tuple ds, .int i => ∃ d, atI ds i = some d ∧ q d
  | _, _ => False
theorem atI_D {K : PySem.W.Frag} {H : Hp} {vs : List V} {ds : List PyData} {i : Int} {d : PyData} (D : DpAll K H vs ds) (h : atI ds i = some d) : ∃ v, atI vs i = some v ∧ Dp K H v d := by
  unfold atI at h ⊢
  rw [DpAll.length D]
  cases q : ixN ds.length i with
  | none => rw [q] at h; cases h
  | some j =>
    rw [q] at h
    exact DpAll.get D h
/-- a shared list or tuple at any index -/
theorem de_ix (ha : DE X a ta) (hb : DE X b tb) (hs' : PlainIx b) : DE X (.Subscript a b pos) (td2 rIxD ta tb) := by
  obtain ⟨pa, ha, qa⟩ := ha.ex
  obtain ⟨pb, hb, qb⟩ := hb.ex
  refine ⟨_, pe_ix ix_seq ha hb hs', fun C σ H ρ q Q E h k => ?_⟩
  refine qa C σ H ρ _ _ E h fun x H1 dx ρ1 E1 s1 B1 h1 => ?_
  refine qb C σ H1 ρ1 _ _ E1 h1 fun y H2 dy ρ2 E2 s2 D2 h2 => ?_
  cases dy with
  | int i =>
    cases D2
    cases dx with
    | list ds =>
      obtain ⟨d, hd, h2⟩ := h2
      obtain ⟨a, vs, rfl, s, D⟩ := Dp.list_of (BV.step B1 s2)
      obtain ⟨v, hv, Dv⟩ := atI_D D hd
      exact .inl ⟨a, vs, i, v, rfl, rfl, SqL.le hide_Le s, hv, k v H2 d ρ2 E2 (s1.trans s2) Dv h2⟩
    | tuple ds =>
      obtain ⟨d, hd, h2⟩ := h2
      obtain ⟨a, vs, rfl, s, D⟩ := Dp.tup_of (BV.step B1 s2)
      obtain ⟨v, hv, Dv⟩ := atI_D D hd
      exact .inr (.inl ⟨a, vs, i, v, rfl, rfl, SqT.le hide_Le s, hv, k v H2 d ρ2 E2 (s1.trans s2) Dv h2⟩)
    | _ => exact h2.elim
  | _ => cases dx <;> exact h2.elim
/-- a list that may be one's own, at an index whose reading changes nothing -/
def tdIxB (ta tb : TDE) : TDE := fun ρ q => ta ρ fun x ρ1 => tb ρ1 fun y ρ2 => ρ2 = ρ1 ∧ rIxD x y fun z => q z ρ2
theorem de_ixB (ha : DB X a ta) (hb : DE X b tb) (hs' : PlainIx b) : DE X (.Subscript a b pos) (tdIxB ta tb) := by
  obtain ⟨pa, ha, qa⟩ := ha.ex
  obtain ⟨pb, hb, qb⟩ := hb.ex
  refine ⟨_, pe_ix ix_seq ha hb hs', fun C σ H ρ q Q E h k => ?_⟩
  refine qa C σ H ρ _ _ E h fun x H1 dx ρ1 E1 s1 B1 h1 => ?_
  refine qb C σ H1 ρ1 _ _ E1 h1 fun y H2 dy ρ2 E2 s2 D2 h2 => ?_
  obtain ⟨er, h2⟩ := h2
  subst er
  cases dy with
  | int i =>
    cases D2
    cases dx with
    | list ds =>
      obtain ⟨d, hd, h2⟩ := h2
      rcases B1 with B1 | ⟨a0, vs, ds', rfl, e2, e3, e4, j, e5⟩
      · obtain ⟨a, vs, rfl, s, D⟩ := Dp.list_of (BV.step B1 s2)
        obtain ⟨v, hv, Dv⟩ := atI_D D hd
        exact .inl ⟨a, vs, i, v, rfl, rfl, SqL.le hide_Le s, hv, k v H2 d ρ2 E2 (s1.trans s2) Dv h2⟩
      · cases e2
        obtain ⟨_, ws, e6, e7⟩ := E2.own_at e5
        obtain ⟨v, hv, Dv⟩ := atI_D e7 hd
        exact .inl ⟨a0, ws, i, v, rfl, rfl, SqL.of e6, hv, k v H2 d ρ2 E2 (s1.trans s2) Dv h2⟩
    | tuple ds =>
      obtain ⟨d, hd, h2⟩ := h2
      obtain ⟨a, vs, rfl, s, D⟩ := Dp.tup_of (BV.step (B1.flat fun _ => nofun) s2)
      obtain ⟨v, hv, Dv⟩ := atI_D D hd
      exact .inr (.inl ⟨a, vs, i, v, rfl, rfl, SqT.le hide_Le s, hv, k v H2 d ρ2 E2 (s1.trans s2) Dv h2⟩)
    | _ => exact h2.elim
  | _ => cases dx <;> exact h2.elim
end
end DL
/-! DL: enumerate of tuples. -/
namespace PySem
open Sem (wp)
open AutoSeq1 (wpAny_loadPart')
section
variable {prog : Program} {w : World} {A : Around} {E : Value → Shared → Prop} {s : Shared}
end
end PySem
namespace DL
open PySem PySem.Spec PyProof.Rows L2
def IteT (K : PySem.W.Frag) (a : Addr) : It :=
  ⟨fun i H => ∃ (xs : List V) (x : V), SqT K H a xs ∧ xs[i]? = some x, fun i H v H' => ∃ T x, v = .ref T ∧ H T = none ∧ H' = upd H T (.tup [.int (i : Nat), x]) ∧ ∀ xs, SqT K H a xs → xs[i]? = some x, fun i H => ∃ xs : List V, SqT K H a xs ∧ xs.length ≤ i⟩
def iEnumT (K : PySem.W.Frag) (ta : TA) : TI := fun σ H R => ta σ H fun vs H1 => ∃ a xs, vs = [.ref a] ∧ SqT K H1 a xs ∧ R (IteT K a) H1
section
variable {X : Cx} {e a b c tg iter : Expr} {es : List Expr} {pos : Pos} {t ta tb tc : TDE}
/-- enumerate(..) of data: pairs -/
def enumD (ds : List PyData) : List PyData := (List.range ds.length).map fun (i : Nat) => PyData.tuple [.int (i : Int), ds.getD i .none]
theorem enumD_len (ds : List PyData) : (enumD ds).length = ds.length := by simp [enumD]
theorem enumD_get {ds : List PyData} {i : Nat} {d : PyData} (h : ds[i]? = some d) : (enumD ds)[i]? = some (.tuple [.int (i : Int), d]) := by
  have hi : i < ds.length := (List.getElem?_eq_some_iff.mp h).1
  have hg : ds.getD i .none = d := by rw [List.getD_eq_getElem?_getD, h]; rfl
  unfold enumD
  rw [List.getElem?_map, List.getElem?_range hi]
  show some (PyData.tuple [.int (i : Int), ds.getD i .none]) = _
  rw [hg]
theorem di_enumL {p tpos : Pos} {elts : List Expr} {kk : Nat} (hg : Gl X "enumerate") (hm : X.mg "enumerate" = none) (ha : DE X e t) (hs' : starEach [e] X.env = (false, eval e X.env) :: starEach [] X.env := by rfl) :
    DI X (.Tuple elts kk tpos) (.Call (.Name "enumerate" p) [e] [] pos) (fun ρ q => t ρ fun d ρ1 => match d with
      | .list ds => q (enumD ds) ρ1
      | _ => False) := by
  obtain ⟨te, hp, hq⟩ := ha.ex
  refine ⟨_, pi_enum hg hm (pa_cons hp pa_nil hs') hs', fun C σ H ρ q R E w k => hq C σ H ρ _ _ E w fun v H1 d ρ1 E1 s1 D1 h1 => ?_⟩
  cases d with
  | list ds =>
    obtain ⟨a, vs, rfl, sq, D⟩ := Dp.list_of D1
    refine ⟨a, vs, rfl, SqL.le hide_Le sq, k _ H1 (enumD ds) ρ1 E1 s1 (fun i H' ke => ⟨fun hi => ?_, fun hi => ?_⟩) h1⟩
    · rw [enumD_len] at hi
      have s' := SqL.stay ke sq
      have hv : i < vs.length := by rw [DpAll.length D]; exact hi
      refine ⟨⟨vs, vs[i], s', by simp [hv]⟩, fun x H'' y => ?_⟩
      obtain ⟨T, x', rfl, hT, rfl, y⟩ := y
      refine ⟨.upd hT, fun as ha => ?_⟩
      obtain ⟨d, h1, h2⟩ := DpAll.getV D (y vs s')
      have nT : T ∉ as := fun z => by obtain ⟨o, e⟩ := (ha T z).1; rw [hT] at e; cases e.1
      exact ⟨_, enumD_get h1, .tup ((by rw [hide_out nT, upd_same])) (.cons (.int _) (.cons (Dp.le (vis_as ke (.upd hT) ha) h2) .nil))⟩
    · rw [enumD_len] at hi
      exact ⟨vs, SqL.stay ke sq, by rw [DpAll.length D]; exact hi⟩
  | _ => exact h1.elim
end
end DL
/-! DL: the rest: lists made, in, truth, items changed, the row of draws. -/
namespace DL
open PySem PySem.Spec PyProof.Rows L2
section
variable {X : Cx} {e a b c tg iter : Expr} {es : List Expr} {pos : Pos} {t ta tb tc : TDE}
/-- [..] * n -/
def tdRep (ta : TDA) (tb : TDE) : TDA := fun ρ q => ta ρ fun ds ρ1 => tb ρ1 fun y ρ2 => match y with
  | .int k => (-(2 ^ 63) ≤ k ∧ k < 2 ^ 63 ∧ ds.length * k.toNat ≤ sizeLine) ∧ q (List.replicate k.toNat ds).flatten ρ2
  | _ => False
theorem DpAll.rep {K : PySem.W.Frag} {H : Hp} {vs : List V} {ds : List PyData} (h : DpAll K H vs ds) : ∀ k : Nat, DpAll K H (List.replicate k vs).flatten (List.replicate k ds).flatten
  | 0 => .nil
  | k + 1 => by rw [List.replicate_succ, List.replicate_succ, List.flatten_cons, List.flatten_cons]; exact DpAll.append h (DpAll.rep h k)
theorem df_rep {ta : TDA} (ha : DF X a ta) (hb : DE X b tb) : DF X (.BinOp a .Mult b pos) (tdRep ta tb) := by
  obtain ⟨pa, ha, qa⟩ := ha.ex
  obtain ⟨pb, hb, qb⟩ := hb.ex
  refine ⟨_, pe_op op_rep ha hb, fun C σ H ρ q Q E h k => ?_⟩
  refine qa C σ H ρ _ _ E h fun l vs H1 ds ρ1 E1 s1 hn hl D1 h1 => ?_
  refine qb (C.with l) σ H1 ρ1 _ _ E1 h1 fun y H2 dy ρ2 E2 s2 D2 h2 => ?_
  cases dy with
  | int n =>
    cases D2
    have hl2 : H2 l = some (.lst vs) := s2.keep l _ (fun z => by
      rcases List.mem_append.mp z with z | z
      · exact E1.dr l z List.mem_cons_self
      · exact (E1.dj l z).1 List.mem_cons_self) hl
    have D3 := DpAll.le s2.vis D1
    have hc : l ∉ C.ex := fun z => by obtain ⟨o, e, _⟩ := E.exd l z; rw [hn] at e; cases e
    refine ⟨l, n, vs, rfl, rfl, hl2, h2.1.1, h2.1.2.1, by rw [DpAll.length D3]; exact h2.1.2.2, fun p hp => ?_⟩
    have E3 := E2.unwith
    refine k p _ _ _ ρ2 (E3.with_fresh hp) (s1.trans ⟨fun b o n z => Le.upd hp b o (s2.keep b o n z), fun b o z => ?_, s2.new⟩) ?_ upd_same (DpAll.le (DpAll.with_fresh (K := X.K) (C := C) (ρ := ρ2) hp) (DpAll.rep (DpAll.le (hide_sub fun b z => List.mem_cons_of_mem _ z) D3) _)) h2.2
    · obtain ⟨o', z'⟩ := s2.dom b o z
      exact ⟨o', Le.upd hp _ _ z'⟩
    · have : H1 p = none := Step.free s2 hp
      exact s1.free this
  | _ => exact h2.elim
/-- xs + ys of two new lists (displays, slices, ..) -/
def tdCat (ta tb : TDA) : TDA := fun ρ q => ta ρ fun ds ρ1 => tb ρ1 fun es ρ2 => ds.length + es.length ≤ sizeLine ∧ q (ds ++ es) ρ2
/-- parts of slices -/
structure DO (X : Cx) (e : Option Expr) (t : DEnv → (Option Int → Prop) → Prop) : Prop where
  ex : ∃ te, PO X e te ∧ ∀ C σ H ρ q Q, EnvD C X.K H σ ρ → t ρ q → (∀ o H', EnvD C X.K H' σ ρ → Step C ρ H ρ H' → q o → Q o H') → te σ H Q
theorem do_none : DO X none (fun _ q => q none) := ⟨_, po_none, fun C σ H ρ q Q E h k => k none H E .rfl h⟩
theorem do_some (h : DE X e t) : DO X (some e) (fun ρ q => t ρ fun d ρ1 => ρ1 = ρ ∧ match d with | .int i => q (some i) | _ => False) := by
  obtain ⟨te, hp, hq⟩ := h.ex
  refine ⟨_, po_some hp, fun C σ H ρ q Q E h k => hq C σ H ρ _ _ E h fun v H1 d ρ1 E1 s1 D1 h1 => ?_⟩
  obtain ⟨rfl, h1⟩ := h1
  cases d with
  | int i => cases D1; exact ⟨i, rfl, k (some i) H1 E1 s1 h1⟩
  | _ => exact h1.elim
def cutD (ds : List PyData) (lo hi : Option Int) : List PyData := (ds.drop (HT.sIx ds.length 0 lo)).take (HT.sIx ds.length ds.length hi - HT.sIx ds.length 0 lo)
theorem DpAll.cut {K : PySem.W.Frag} {H : Hp} {vs : List V} {ds : List PyData} (h : DpAll K H vs ds) (lo hi : Option Int) : DpAll K H (cutV vs lo hi) (cutD ds lo hi) := by
  unfold cutV cutD
  rw [DpAll.length h]
  exact DpAll.take _ (DpAll.drop _ h)
/-- x in [..] of ints -/
theorem l_in : LOp X (compareOp .In) (fun x y q => match x, y with
    | .int i, .list ds => ∃ ns, ds = List.map PyData.int ns ∧ q (.bool (ns.contains i))
    | .int i, .tuple ds => ∃ ns, ds = List.map PyData.int ns ∧ q (.bool (ns.contains i))
    | _, _ => False) := by
  have key : ∀ (i : Int) (ns : List Int), inV (.int i) (ns.map V.int) = ns.contains i := fun i ns => by
    unfold inV
    rw [List.any_map, List.contains_eq_any_beq]
    congr 1
    funext j
    show (j == i) = (i == j)
    exact Bool.eq_iff_iff.mpr ⟨fun h => by simpa using (by simpa using h : j = i).symm, fun h => by simpa using (by simpa using h : i = j).symm⟩
  have fl : ∀ ns : List Int, (ns.map V.int).all flatV = true := fun ns => by rw [List.all_map]; exact List.all_eq_true.mpr fun _ _ => rfl
  refine ⟨_, op_in_seq, fun as H x y dx dy qd Q ex Dx Dy w k => ?_⟩
  cases dx with
  | int i =>
    cases dy with
    | list ds =>
      obtain ⟨ns, rfl, w⟩ := w
      obtain ⟨a, vs, rfl, s, D⟩ := Dp.list_of Dy
      cases DpAll.ints D
      cases Dx
      exact ⟨a, _, rfl, .inl (SqL.le hide_Le s), rfl, fl ns, by
        rw [if_neg (by decide), key]; exact k _ H _ .rfl (.bl _) w⟩
    | tuple ds =>
      obtain ⟨ns, rfl, w⟩ := w
      obtain ⟨a, vs, rfl, s, D⟩ := Dp.tup_of Dy
      cases DpAll.ints D
      cases Dx
      exact ⟨a, _, rfl, .inr (SqT.le hide_Le s), rfl, fl ns, by
        rw [if_neg (by decide), key]; exact k _ H _ .rfl (.bl _) w⟩
    | _ => exact False.elim w
  | _ => exact False.elim w
/-- truth of ints, lists, tuples -/
def truD : PyData → Option Bool
  | .none => some false
  | .bool b => some b
  | .int i => some (i != 0)
  | .list ds => some (!ds.isEmpty)
  | .tuple ds => some (!ds.isEmpty)
  | _ => none
theorem dt_truth (ha : DB X a ta) (he : ∀ whole, isTrue a X.env whole = (do let v ← whole; standAt a.pos; holding [v] (truthy v)) := by intro _; rfl) :
    DT X a (fun ρ q => ta ρ fun d ρ1 => ∃ k, truD d = some k ∧ q k ρ1) := by
  obtain ⟨te, hp, hq⟩ := ha.ex
  refine ⟨_, pt_truth hp he, fun C σ H ρ q Q E h k => hq C σ H ρ _ _ E h fun v H1 d ρ1 E1 s1 B h1 => ?_⟩
  obtain ⟨kk, e, z⟩ := h1
  refine ⟨kk, ?_, k kk H1 ρ1 E1 s1 z⟩
  cases d with
  | none => cases B.flat (fun _ => nofun); cases e; rfl
  | bool b => cases B.flat (fun _ => nofun); cases e; rfl
  | int i => cases B.flat (fun _ => nofun); cases e; rfl
  | list ds =>
    obtain ⟨a, vs, rfl, s, D⟩ := B.list
    cases e
    exact .inl ⟨vs, s, by rw [DpAll.nil_iff D]⟩
  | tuple ds =>
    obtain ⟨a, vs, rfl, s, D⟩ := B.tup
    cases e
    exact .inr (.inl ⟨vs, s, by rw [DpAll.nil_iff D]⟩)
  | _ => cases e
/-- n.bit_length() -/
theorem de_bits {apos cpos : Pos} (ha : DE X a ta) (hbase : attributeBase a "bit_length" X.env (eval a X.env) = eval a X.env := by rfl) (hline : (apos.endLine == cpos.line) = true := by rfl) :
    DE X (.Call (.Attribute a "bit_length" apos) [] [] cpos) (fun ρ q => ta ρ fun d ρ1 => match d with | .int i => q (.int (Builtin.Int.intBits i : Nat)) ρ1 | _ => False) := by
  obtain ⟨te, hp, hq⟩ := ha.ex
  refine ⟨_, pe_bits hp hbase hline, fun C σ H ρ q Q E h k => hq C σ H ρ _ _ E h fun v H1 d ρ1 E1 s1 D h1 => ?_⟩
  cases d with
  | int i => cases D; exact ⟨i, rfl, k _ H1 _ ρ1 E1 s1 (.int _) h1⟩
  | _ => exact h1.elim
/-- xs[k] op= e, xs a list of one's own -/
theorem get_list : PGet X (rIxL X.K) := by
  intro pins s σ H x y v u Q I rx ry h
  obtain ⟨p, xs, i, z, rfl, rfl, hq, he, q⟩ := h
  cases rx
  obtain ⟨t, rfl⟩ := ry
  obtain ⟨its, r, pl, hz⟩ := I.list hq
  obtain ⟨j, h1, h2, h3, h4, h5⟩ := atI_get he
  obtain ⟨w, ew, rw'⟩ := r.get h2
  have hl := r.length
  have hn := line63
  have fin : EP X pins σ Q w s := ⟨z, H, I, rw', q⟩
  by_cases h0 : 0 ≤ i
  · have hj : i.toNat = j := by
      rw [seqIndex_of h0 h5] at h1
      exact Option.some.inj h1
    exact wpAny_getItem_list pl.isList h0 (by omega) (by rw [hj]; simpa using ew) fin
  · have hj : (i + (its.toArray.size : Int)).toNat = j := by
      rw [seqIndex_neg (by omega) h4] at h1
      rw [List.size_toArray, ← hl]
      exact Option.some.inj h1
    exact wpAny_getItem_list_neg pl.isList (by omega) (by rw [List.size_toArray] <;> omega) (by omega) (by rw [hj]; simpa using ew) fin
def tdAugSub (i : Nat) (tk te : TDE) (rd : RD2) : TDS := fun q ρ => match ρ[i]? with
  | some (.own _ _) => tk ρ fun k ρ1 => ρ1 = ρ ∧ match ρ1[i]?, k with
    | some (.own _ ds), .int n => ∃ d, atI ds n = some d ∧ te ρ1 fun y ρ2 => rd d y fun z => match ρ2[i]? with
      | some (.own a ds2) => ∃ j, ixN ds2.length n = some j ∧ q.nx (ρ2.set i (.own a (ds2.set j z)))
      | _ => False
    | _, _ => False
  | _ => False
theorem ds_augsub {i : Nat} {x : Str} {px tpos : Pos} {k : Expr} {tk te : TDE} {op : Operator} {rd : RD2} (hN : X.N[i]? = some x) (hv : Vis X.env.scope x) (hk : DE X k tk) (he : DE X e te) (ho : LOp X (inplaceOp op) rd) (hd : (x == ("__debug__" : Str)) = false := by decide) (hcd : (x == ("__classdict__" : Str)) = false := by decide)
    (ha : ∀ ov iv new, augStore k ov iv new = (do holding [new, ov, iv] (setItem ov iv new); release [new, ov, iv] []; pure .next) := by intros; rfl) :
    DS X (.AugAssign (.Subscript (.Name x px) k tpos) op e pos) (tdAugSub i tk te rd) := by
  obtain ⟨pk, hk, qk⟩ := hk.ex
  obtain ⟨pe, he, qe⟩ := he.ex
  obtain ⟨r, ho, hl⟩ := ho
  refine ⟨_, ps_augS (pe_var hN hv hd hcd) hk get_list he ho set_list ha, fun C σ H ρ q Q E h kk => ?_⟩
  unfold tdAugSub at h
  split at h
  · rename_i a0 ds0 e0
    have hw := (E.own_at e0).1
    refine ⟨_, hw, qk C σ H ρ _ _ E h fun kv H1 dk ρ1 E1 s1 D1 h1 => ?_⟩
    obtain ⟨er, h1⟩ := h1
    subst er
    split at h1
    · rename_i a ds n e1
      obtain ⟨d, hd, h1⟩ := h1
      obtain ⟨e2, vs, e3, D3⟩ := E1.own_at e1
      rw [hw] at e2
      cases e2
      cases D1
      obtain ⟨v, hv', Dv⟩ := atI_D D3 hd
      refine ⟨a0, vs, n, v, rfl, rfl, SqL.of e3, hv', qe C σ H1 ρ1 _ _ E1 h1 fun w H2 dy ρ2 E2 s2 D2 h2 => ?_⟩
      refine hl (hs C ρ2) H2 v w d dy _ _ (fun a h => E2.hid h) (BV.step Dv s2) D2 h2 fun z H3 dz l Dz q3 => ?_
      split at q3
      · rename_i a2 ds2 e4
        obtain ⟨j, hj, q3⟩ := q3
        have E3 := E2.le l
        obtain ⟨e5, vs2, e6, D6⟩ := E3.own_at e4
        rw [hw] at e5
        cases e5
        obtain ⟨E4, s4⟩ := E3.wr e4 (DpAll.set Dz j D6)
        refine ⟨a0, vs2, n, j, rfl, rfl, e6, by rw [DpAll.length D6]; exact hj, ?_⟩
        exact kk.nx σ _ _ E4 ((s1.trans (s2.trans (.le l))).trans s4) q3
      · exact q3.elim
    · exact h1.elim
  · exact h.elim
/-! ### a, b = e1, e2 -/
def tdPar (i j : Nat) (ta tb : TDE) : TDS := fun q ρ => ta ρ fun x ρ1 => tb ρ1 fun y ρ2 => q.nx ((ρ2.set i (.sh x)).set j (.sh y))
theorem ds_par {i j : Nat} {x y : Str} {px py pt : Pos} {kt k2 pt2} (hc : X.calm = true) (hN : X.N.Nodup) (hi : X.N[i]? = some x) (hj : X.N[j]? = some y) (hij : i ≠ j)
    (hx : X.env.scope.names.lookup x = some .local) (hy : X.env.scope.names.lookup y = some .local) (ha : DE X a ta) (hb : DE X b tb)
    (hw : swappedStores [.Tuple [.Name x px, .Name y py] kt pt] (.Tuple [a, b] k2 pt2) X.env = pure (some [x, y]))
    (h1 : starEach [a, b] X.env = (false, eval a X.env) :: starEach [b] X.env := by rfl) (h2 : starEach [b] X.env = (false, eval b X.env) :: starEach [] X.env := by rfl)
    (hs' : swapsWithSole [.Tuple [.Name x px, .Name y py] kt pt] (.Tuple [a, b] k2 pt2) pos.line X.env = pure false := by rfl) :
    DS X (.Assign [.Tuple [.Name x px, .Name y py] kt pt] (.Tuple [a, b] k2 pt2) pos) (tdPar i j ta tb) := by
  obtain ⟨pa, ha, qa⟩ := ha.ex
  obtain ⟨pb, hb, qb⟩ := hb.ex
  refine ⟨_, ps_par hc hN hi hj hij hx hy (pa_cons ha (pa_cons hb pa_nil h2) h1) hw hs', fun C σ H ρ q Q E h k => ?_⟩
  refine qa C σ H ρ _ _ E h fun v H1 d ρ1 E1 s1 D1 h1 => ?_
  refine qb C σ H1 ρ1 _ _ E1 h1 fun w H2 d2 ρ2 E2 s2 D2 h2 => ⟨v, w, rfl, ?_⟩
  have E3 := E2.sh (i := i) (BV.step D1 s2)
  have E4 := E3.sh (i := j) (Dp.le (Step.put (x := .sh d) (by rfl)).vis D2)
  exact k.nx _ H2 _ E4 (((s1.trans s2).trans (Step.put (by rfl))).trans (Step.put (by rfl))) h2
/-- a, b = new list, new list: both this def's own -/
def tdParOO (i j : Nat) (ta tb : TDA) : TDS := fun q ρ => ta ρ fun x ρ1 => tb ρ1 fun y ρ2 => ∀ l m, l ∉ owns ρ2 → m ∉ owns ρ2 → l ≠ m → q.nx ((ρ2.set j (.own m y)).set i (.own l x))
theorem Step.visW {C : Ctx} {ρ ρ' : DEnv} {H H' : Hp} {b : Addr} (s : Step C ρ H ρ' H') (hb : H b = none) : Le (hide (hs C ρ) H) (hide (hs (C.with b) ρ') H') := fun c o e => by
  have e2 := s.vis c o e
  obtain ⟨n, e3⟩ := hide_some e2
  obtain ⟨_, e4⟩ := hide_some e
  rw [hide_out]
  · exact e3
  · intro z
    rcases List.mem_cons.mp z with z | z
    · rw [z, hb] at e4; cases e4
    · exact n z
theorem ds_parOO {i j : Nat} {x y : Str} {px py pt : Pos} {kt k2 pt2} {ta tb : TDA} (hc : X.calm = true) (hN : X.N.Nodup) (hi : X.N[i]? = some x) (hj : X.N[j]? = some y) (hij : i ≠ j)
    (hx : X.env.scope.names.lookup x = some .local) (hy : X.env.scope.names.lookup y = some .local) (ha : DF X a ta) (hb : DF X b tb)
    (hw : swappedStores [.Tuple [.Name x px, .Name y py] kt pt] (.Tuple [a, b] k2 pt2) X.env = pure (some [x, y]))
    (h1 : starEach [a, b] X.env = (false, eval a X.env) :: starEach [b] X.env := by rfl) (h2 : starEach [b] X.env = (false, eval b X.env) :: starEach [] X.env := by rfl)
    (hs' : swapsWithSole [.Tuple [.Name x px, .Name y py] kt pt] (.Tuple [a, b] k2 pt2) pos.line X.env = pure false := by rfl) :
    DS X (.Assign [.Tuple [.Name x px, .Name y py] kt pt] (.Tuple [a, b] k2 pt2) pos) (tdParOO i j ta tb) := by
  obtain ⟨pa, ha, qa⟩ := ha.ex
  obtain ⟨pb, hb, qb⟩ := hb.ex
  refine ⟨_, ps_par hc hN hi hj hij hx hy (pa_cons ha (pa_cons hb pa_nil h2) h1) hw hs', fun C σ H ρ q Q E h k => ?_⟩
  refine qa C σ H ρ _ _ E h fun l vs H1 ds ρ1 E1 s1 hn hl D1 h1 => ?_
  refine qb (C.with l) σ H1 ρ1 _ _ E1 h1 fun m ws H2 es ρ2 E2 s2 hm hm2 D2 h2 => ⟨.ref l, .ref m, rfl, ?_⟩
  have hcl : l ∉ C.ex := fun z => by obtain ⟨o, e, _⟩ := E.exd l z; rw [hn] at e; cases e
  have hlm : l ≠ m := ne_of_none hl hm
  have hcm : m ∉ (C.with l).ex := fun z => by obtain ⟨o, e, _⟩ := E1.exd m z; rw [hm] at e; cases e
  have hl2 : H2 l = some (.lst vs) := s2.keep l _ (fun z => by
    rcases List.mem_append.mp z with z | z
    · exact E1.dr l z List.mem_cons_self
    · exact (E1.dj l z).1 List.mem_cons_self) hl
  have lo : l ∉ owns ρ2 := fun z => (E2.dj l z).1 (List.mem_cons_of_mem _ List.mem_cons_self)
  have mo : m ∉ owns ρ2 := fun z => (E2.dj m z).1 List.mem_cons_self
  have E3 := E2.own (i := j) hm2 (E1.fresh0 hm) hcm D2
  have D1' : DpAll X.K (hide (hs (C.with l) (ρ2.set j (.own m es))) H2) vs ds := by
    refine DpAll.le ?_ (DpAll.le (s2.visW hm) D1)
    refine hide_sub fun b z => ?_
    rcases List.mem_append.mp z with z | z
    · exact List.mem_cons_of_mem _ (List.mem_append_left _ z)
    · rcases List.mem_append.mp z with z | z
      · exact List.mem_cons_of_mem _ (List.mem_append_right _ (List.mem_append_left _ z))
      · rcases owns_set_own z with z | z
        · subst z; exact List.mem_cons_self
        · exact List.mem_cons_of_mem _ (List.mem_append_right _ (List.mem_append_right _ z))
  have E4 := E3.own (i := i) hl2 (E.fresh0 hn) hcl D1'
  rw [List.set_comm _ _ hij] 
  have st : Step C ρ H ρ2 H2 := s1.trans ⟨s2.keep, s2.dom, s2.new⟩
  refine k.nx _ H2 _ E4 ⟨st.keep, st.dom, fun b z => ?_⟩ (h2 l m lo mo hlm)
  rcases owns_set_own z with z | z
  · subst z; exact .inr hn
  · rcases owns_set_own z with z | z
    · subst z; exact .inr (s1.free hm)
    · exact st.new b z
/-! ### the row of draws -/
/-- what a def that draws promises: the row first, then data -/
def spR (K : PySem.W.Frag) (n : Nat) (sd : SD) : Sp := fun vs H Q _ => vs.length = n + 1 ∧ ∃ (r : Addr) (ws : List V) (as : List Addr) (ds : List PyData) (q0 : PyData → Prop), vs = .ref r :: ws ∧ r ∉ as ∧ (∀ a ∈ as, ∃ o, H a = some o ∧ ∀ xs, o ≠ HO.tup xs) ∧
  RowOk K (hide (as ++ [r]) H) H r ∧ DpAll K (hide (as ++ [r]) H) ws ds ∧ sd ds q0 ∧
  ∀ d, q0 d → ∀ v H', (∀ b o, b ≠ r → H b = some o → H' b = some o) → RowOk K (hide (as ++ [r]) H') H' r → Dp K (hide (as ++ [r]) H') v d → Q v H'
theorem start_envR {K : PySem.W.Frag} {H : Hp} {as : List Addr} {N : List Str} {r : Addr} {ws : List V} {ds : List PyData} (hr : r ∉ as) (ex : ∀ a ∈ as, ∃ o, H a = some o ∧ ∀ xs, o ≠ HO.tup xs) (R : RowOk K (hide (as ++ [r]) H) H r) (D : DpAll K (hide (as ++ [r]) H) ws ds) (hn : ws.length + 1 ≤ N.length) :
    EnvD ⟨H, as, [r]⟩ K H (L2.start N (.ref r :: ws)) (Slot.row :: (ds.map Slot.sh ++ List.replicate (N.length - (ds.length + 1)) Slot.un)) := by
  have ho : owns (Slot.row :: (ds.map Slot.sh ++ List.replicate (N.length - (ds.length + 1)) Slot.un)) = [] := by
    apply List.eq_nil_iff_forall_not_mem.mpr
    intro a h
    obtain ⟨i, x, e, hx⟩ := mem_owns.mp h
    cases i with
    | zero => cases e; cases hx
    | succ i =>
      simp only [List.getElem?_cons_succ] at e
      rw [List.getElem?_append] at e
      split at e
      · rw [List.getElem?_map] at e
        cases q : ds[i]? with
        | none => rw [q] at e; cases e
        | some d => rw [q] at e; cases e; cases hx
      · rw [List.getElem?_replicate] at e
        split at e
        · cases e; cases hx
        · cases e
  have hh : hs ⟨H, as, [r]⟩ (Slot.row :: (ds.map Slot.sh ++ List.replicate (N.length - (ds.length + 1)) Slot.un)) = as ++ [r] := by unfold hs mu; rw [ho]; simp
  have hl := DpAll.length D
  refine ⟨?_, fun i x e => ?_, by rw [ho]; exact List.nodup_nil, fun a h => (by rw [ho] at h; cases h), fun a h z => ?_, ex, fun a h => ?_, fun b o e _ => e⟩
  · unfold L2.start; simp [hl]
  · rw [hh]
    cases i with
    | zero =>
      cases e
      exact ⟨some (.ref r), rfl, r, rfl, List.mem_cons_self⟩
    | succ i =>
      simp only [List.getElem?_cons_succ] at e
      unfold L2.start
      simp only [List.map_cons, List.cons_append, List.getElem?_cons_succ, List.length_cons]
      rw [List.getElem?_append] at e
      split at e
      · rename_i z
        rw [List.getElem?_map] at e
        cases q : ds[i]? with
        | none => rw [q] at e; cases e
        | some d =>
          rw [q] at e; cases e
          obtain ⟨v, h1, h2⟩ := DpAll.get D q
          refine ⟨some v, ?_, h2⟩
          rw [List.getElem?_append_left (by simp; exact (List.getElem?_eq_some_iff.mp h1).1), List.getElem?_map, h1]
          rfl
      · rename_i z
        rw [List.getElem?_replicate] at e
        split at e
        · rename_i z2
          cases e
          refine ⟨none, ?_, trivial⟩
          rw [List.length_map] at z z2
          rw [List.getElem?_append_right (by simp; omega), List.getElem?_replicate]
          simp only [List.length_map]
          rw [if_pos (by omega)]
        · cases e
  · have : a = r := by simpa using h
    subst this; exact hr z
  · have : a = r := by simpa using h
    subst this; rw [hh]; exact R
theorem fnR {P : Program} {w : World} {K : PySem.W.Frag} {mg : Str → Option Value} {base : Heap} {x qual : Str} {st : Stmt} {f : Addr} {fd : FuncData} {N ps : List Str} {k n : Nat} {sd : SD} {u : TDS} (F : Fun K x qual st f fd) (S : FnScope N ps (defScope st)) (hp : ps.length = n + 1) (hn : ps.length ≤ N.length)
    (hbody : ∀ (cdv : Value) (A : Around) (outer : List Env) (s : Shared) (H : Hp) (E : XK), Room k (A.deeper (envOfC qual (defScope st) s.heap.objs.size f cdv)) →
      DSs (cxOf CX0 P w K mg base N qual (defScope st) f cdv A outer s H E).nox (defBody st) u)
    (hr : ∀ ds q, ds.length = n → sd ds q → u { nx := fun _ => q .none, rt := fun d _ => q d } (Slot.row :: (ds.map Slot.sh ++ List.replicate (N.length - (ds.length + 1)) Slot.un))) :
    FnOk P w K mg base CX0 (k + 1) f fd ps (spR K n sd) := by
  refine F.ok S (fun vs H Q E h => h.1.trans hp.symm) fun cdv A outer s H vs Q E hrm h => ?_
  obtain ⟨hl, r, ws, as, ds, q0, rfl, hra, ex, R, D, w', fin⟩ := h
  obtain ⟨ts, hpp, hq⟩ := (hbody cdv A outer s H E hrm).ex
  refine ⟨ts, hpp, ?_⟩
  have hlw : ws.length = n := by simpa using hl
  have hld : ds.length = n := (DpAll.length D).symm.trans hlw
  have E0 := start_envR (N := N) hra ex R D (by omega)
  have sub : ∀ (ρ : DEnv), ∀ b, b ∈ as ++ [r] → b ∈ hs ⟨H, as, [r]⟩ ρ := fun ρ b z => by
    rcases List.mem_append.mp z with z | z
    · exact List.mem_append_left _ z
    · exact List.mem_append_right _ (List.mem_append_left _ z)
  have kp : ∀ {σ' : L2.St} {H' : Hp} {ρ' : DEnv}, EnvD ⟨H, as, [r]⟩ K H' σ' ρ' → ∀ b o, b ≠ r → H b = some o → H' b = some o := fun E' b o nb e => E'.keep b o e (by simpa using nb)
  refine hq ⟨H, as, [r]⟩ (L2.start N (.ref r :: ws)) H _ { nx := fun _ => q0 .none, rt := fun d _ => q0 d } _ E0 (hr ds _ hld w') ⟨fun σ' H' ρ' E' s' z => ?_, fun v σ' H' d ρ' E' s' D' z => ?_, fun _ _ _ _ _ z => z, fun _ _ _ _ _ z => z⟩
  · exact fin _ z .non H' (kp E') (RowOk.mono (hide_sub (sub ρ')) (E'.row r List.mem_cons_self)) .non
  · exact fin _ z v H' (kp E') (RowOk.mono (hide_sub (sub ρ')) (E'.row r List.mem_cons_self)) (Dp.le (hide_sub (sub ρ')) D')
/-- a call of it, the row in slot i -/
def tdCallR (i : Nat) (n : Nat) (sd : SD) (ts : TDA) : TDE := fun ρ q => ρ[i]? = some .row ∧ ts ρ fun ds ρ1 => ds.length = n ∧ sd ds fun d => q d ρ1
theorem de_callR {k i : Nat} {f : Addr} {fd : FuncData} {ps : List Str} {n : Nat} {sd : SD} {x y : Str} {p p2 : Pos} {ts : TDA} (F : FnOk X.prog X.w X.K X.mg X.base CX0 k f fd ps (spR X.K n sd)) (hr : Room k X.A) (hg : Gl X x) (hm : X.mg x = some (.ref f)) (hk : PySem.W.keepIn X.K (.ref f) = true) (hb : Binds X.K fd ps [])
    (hN : X.N[i]? = some y) (hv : Vis X.env.scope y) (ha : DA X es ts) (hd : (y == ("__debug__" : Str)) = false := by decide) (hcd : (y == ("__classdict__" : Str)) = false := by decide)
    (hdb : (x == ("__debug__" : Str)) = false := by decide) (he : starEach (.Name y p2 :: es) X.env = (false, eval (.Name y p2) X.env) :: starEach es X.env := by rfl) (hpl : (backTo pos (starEach es X.env)).any (·.1) = false := by rfl) :
    DE X (.Call (.Name x p) (.Name y p2 :: es) [] pos) (tdCallR i n sd ts) := by
  obtain ⟨ta, ha, qa⟩ := ha.ex
  refine ⟨_, pe_call F hr hg hm hk hb .nil pass0 (E := E0) (pa_cons (pe_var hN hv hd hcd) ha he) hdb he hpl, fun C σ H ρ q Q E h k => ?_⟩
  obtain ⟨h0, h⟩ := h
  obtain ⟨v, e1, s⟩ := E.slots i _ h0
  cases v with
  | none => cases s
  | some v =>
    obtain ⟨a, rfl, har⟩ := s
    refine ⟨_, e1, qa C σ H ρ _ _ E h fun vs H1 ds ρ1 E1 s1 D1 h1 => ?_⟩
    have hae : a ∉ C.ex := E1.dr a har
    have hao : a ∉ owns ρ1 := fun z => (E1.dj a z).2 har
    have mem : ∀ b, b ∈ (C.ex ++ (C.rw.filter (· ≠ a) ++ owns ρ1)) ++ [a] ↔ b ∈ hs C ρ1 := fun b => by
      unfold hs mu
      simp only [List.mem_append, List.mem_filter, List.mem_singleton, decide_eq_true_eq]
      constructor
      · rintro ((h | ⟨h, _⟩ | h) | h)
        · exact .inl h
        · exact .inr (.inl h)
        · exact .inr (.inr h)
        · subst h; exact .inr (.inl har)
      · rintro (h | h | h)
        · exact .inl (.inl h)
        · by_cases z : b = a
          · exact .inr z
          · exact .inl (.inr (.inl ⟨h, z⟩))
        · exact .inl (.inr (.inr h))
    have hh : ∀ H : Hp, hide ((C.ex ++ (C.rw.filter (· ≠ a) ++ owns ρ1)) ++ [a]) H = hide (hs C ρ1) H := fun H => hide_congr mem
    have na : a ∉ C.ex ++ (C.rw.filter (· ≠ a) ++ owns ρ1) := by
      simp only [List.mem_append, List.mem_filter, decide_eq_true_eq]
      rintro (h | ⟨_, h⟩ | h)
      · exact hae h
      · exact h rfl
      · exact hao h
    refine ⟨by rw [List.append_nil]; simp [DpAll.length D1, h1.1], a, vs, C.ex ++ (C.rw.filter (· ≠ a) ++ owns ρ1), ds, fun d => q d ρ1, by rw [List.append_nil], na, fun b hb => E1.hid ((mem b).mp (List.mem_append_left _ hb)), by rw [hh]; exact E1.row a har, by rw [hh]; exact D1, h1.2, fun d z v H' kp R D => ?_⟩
    rw [hh] at R D
    have l : Le (hide (hs C ρ1) H1) (hide (hs C ρ1) H') := fun b o e => by
      obtain ⟨n, e⟩ := hide_some e
      rw [hide_out n]
      exact kp b o (fun y => n (by rw [y]; exact List.mem_append_right _ (List.mem_append_left _ har))) e
    have E2 : EnvD C X.K H' σ ρ1 := by
      refine ⟨E1.len, fun j x e => ?_, E1.nd, E1.dj, E1.dr, fun b hb => ?_, fun b hb => ?_, fun b o e nb => ?_⟩
      · obtain ⟨v, e1, sl⟩ := E1.slots j x e
        refine ⟨v, e1, sl.move l (fun b hb o z => kp b o (fun y => hao ?_) z) rfl rfl⟩
        rw [← y]; exact mem_owns.mpr ⟨j, x, e, hb⟩
      · obtain ⟨o, z, nt⟩ := E1.exd b hb
        exact ⟨o, kp b o (fun y => hae (by rw [← y]; exact hb)) z, nt⟩
      · by_cases y : b = a
        · subst y; exact R
        · obtain ⟨sc, ns, i', s', b', q1, r1⟩ := E1.row b hb
          exact ⟨sc, ns, i', s', b', kp b _ y q1, SqL.le l r1.1, r1.2⟩
      · exact kp b o (fun y => nb (by rw [y]; exact har)) (E1.keep b o e nb)
    refine k v H' d ρ1 E2 (s1.trans ⟨fun b o n z => kp b o (fun y => n (by rw [y]; exact List.mem_append_left _ har)) z, fun b o z => ?_, fun b z => .inl z⟩) D z
    by_cases y : b = a
    · obtain ⟨_, _, _, _, _, q1, _⟩ := R; exact ⟨_, by rw [y]; exact q1⟩
    · exact ⟨o, kp b o y z⟩
end
end DL
/-! DL: dicts of one's own. -/
namespace DL
open PySem PySem.Spec PyProof.Rows L2
/-! ### sorted(d.keys()) of a dict whose keys are pairs of ints -/
def keysO (p d : Addr) : HO := .ext fun h => PySem.W.KdlKeysView h p d
section
variable {prog : Program} {w : World} {A : Around} {E : Value → Shared → Prop} {s : Shared}
end
section
variable {X : Cx}
def rKeysT : V → List V → Hp → VK → Prop := fun x xs H Q => ∃ (a : Addr) (kvs : List (List L2.Key × V)), x = .ref a ∧ xs = [] ∧ H a = some (.dT kvs) ∧ ∀ p, H p = none → Q (.ref p) (upd H p (keysO p a))
/-- a pair of ints as a key -/
def pk (p : Int × Int) : List L2.Key := [.inl p.1, .inl p.2]
/-- lexicographic, at most -/
def lexLe (p q : Int × Int) : Prop := p.1 < q.1 ∨ (p.1 = q.1 ∧ p.2 ≤ q.2)
def rSortKeys : List V → Hp → VK → Prop := fun vs H Q => ∃ (p a : Addr) (kvs : List (List L2.Key × V)) (ks : List (Int × Int)), vs = [.ref p] ∧ H p = some (keysO p a) ∧ H a = some (.dT kvs) ∧ kvs.map (·.1) = ks.map pk ∧
  ∀ (bs : List (Addr × Int × Int)) (l : Addr), (bs.map (·.2)).Perm ks → bs.Pairwise (fun x y => lexLe x.2 y.2) → (∀ z ∈ bs, H z.1 = some (.tup [.int z.2.1, .int z.2.2])) → H l = none → Q (.ref l) (upd H l (.lst (bs.map fun z => .ref z.1)))
/-- what stands at an address as a pair -/
def pairAt (H : Hp) : Value → Int × Int
  | .ref b => match H b with
    | some (.tup [.int i, .int j]) => (i, j)
    | _ => (0, 0)
  | _ => (0, 0)
def refAddr : Value → Addr
  | .ref b => b
  | _ => 0
end
end DL
/-! DL: dicts of one's own, by data. -/
namespace DL
open PySem PySem.Spec PyProof.Rows L2
theorem DpAll.keys {K : PySem.W.Frag} {H : Hp} : ∀ {vs : List V} {ks : List Key}, DpAll K H vs (ks.map kD) → vs = ks.map kV
  | _, [], .nil => rfl
  | _, .inl i :: ks, .cons (.int _) b => by rw [List.map_cons, DpAll.keys b]; rfl
  | _, .inr i :: ks, .cons (.str _) b => by rw [List.map_cons, DpAll.keys b]; rfl
section
variable {κ : Type} [DecidableEq κ]
def putD (kvs : List (κ × PyData)) (k : κ) (v : PyData) : List (κ × PyData) :=
  if (kvs.any fun kv => decide (kv.1 = k)) = true then kvs.map (fun kv => if kv.1 = k then (kv.1, v) else kv) else kvs ++ [(k, v)]
end
section
variable {X : Cx} {e a b c tg iter : Expr} {es : List Expr} {pos : Pos} {t ta tb tc : TDE}
/-- d[e1, e2] = value, d a dict of one's own with tuples as keys -/
def tdPutT (i : Nat) (tk : TDA) (tv : TDE) : TDS := fun q ρ => tv ρ fun d ρ1 => match ρ1[i]? with
  | some (.dic _ (.T _)) => tk ρ1 fun ds ρ2 => match ρ2[i]? with
    | some (.dic a (.T kvs)) => ds.length ≤ sizeLine ∧ ∃ ks : List Key, ds = ks.map kD ∧ kvs.length < sizeLine ∧ q.nx (ρ2.set i (.dic a (.T (putD kvs ks d))))
    | _ => False
  | _ => False
theorem EnvD.dic_at {C : Ctx} {K : PySem.W.Frag} {H : Hp} {σ : L2.St} {ρ : DEnv} (E : EnvD C K H σ ρ) {i : Nat} {a : Addr} {c : DCon} (h : ρ[i]? = some (.dic a c)) : σ[i]? = some (some (.ref a)) ∧ DicOk K (hide (hs C ρ) H) H a c := by
  obtain ⟨v, e, s⟩ := E.slots i _ h
  cases v with
  | none => cases s
  | some v => obtain ⟨rfl, q, _⟩ := s; exact ⟨e, q⟩
/-- name, name = value, {} (a dict with tuples as keys) -/
def tdParSD (i j : Nat) (ta : TDE) : TDS := fun q ρ => ta ρ fun x ρ1 => ∀ m, m ∉ owns ρ1 → q.nx ((ρ1.set j (.dic m (.T []))).set i (.sh x))
/-- sorted(d.keys()), the keys pairs of ints -/
def pD (p : Int × Int) : PyData := .tuple [.int p.1, .int p.2]
def tdSortKeys (i : Nat) : TDA := fun ρ q => match ρ[i]? with
  | some (.dic _ (.T kvs)) => ∃ ks : List (Int × Int), kvs.map (·.1) = ks.map pk ∧ ∀ ys : List (Int × Int), ys.Perm ks → ys.Pairwise lexLe → q (ys.map pD) ρ
  | _ => False
end
end DL
/-! DL: short words. -/
namespace DL
open PySem PySem.Spec PyProof.Rows L2
section
variable {X : Cx} {e a b c tg iter : Expr} {es : List Expr} {pos : Pos} {t ta tb tc : TDE}
theorem dv (i : Nat) {x : Str} (hN : X.N[i]? = some x := by rfl) (hv : Vis X.env.scope x := by first | exact Or.inl rfl | exact Or.inr (Or.inl rfl) | exact Or.inr (Or.inr rfl)) (hd : (x == ("__debug__" : Str)) = false := by decide) (hcd : (x == ("__classdict__" : Str)) = false := by decide) :
    DE X (.Name x pos) (tdSh i) := de_var hN hv hd hcd
theorem dbv (i : Nat) {x : Str} (hN : X.N[i]? = some x := by rfl) (hv : Vis X.env.scope x := by first | exact Or.inl rfl | exact Or.inr (Or.inl rfl) | exact Or.inr (Or.inr rfl)) (hd : (x == ("__debug__" : Str)) = false := by decide) (hcd : (x == ("__classdict__" : Str)) = false := by decide) :
    DB X (.Name x pos) (tdLent i) := db_var hN hv hd hcd
theorem dgn (i : Nat) {x : Str} (hN : X.N.Nodup) (hi : X.N[i]? = some x := by rfl) (hx : Loc X.env.scope x := by first | exact Or.inl rfl | exact Or.inr rfl) (hf : X.fn x = true ∨ X.env.scope.names.lookup x = some .local := by first | exact .inl rfl | exact .inr rfl) :
    DG X (.Name x pos) (gdName i) [i] := dg_name hN hi hx hf
theorem dset (i : Nat) {x : Str} {pos' : Pos} (hN : X.N.Nodup) (he : DE X e t) (hi : X.N[i]? = some x := by rfl) (hx : Loc X.env.scope x := by first | exact Or.inl rfl | exact Or.inr rfl) (hs' : swapsWith e (some (.Name x pos')) pos.line X.env = pure false := by rfl) (hf : X.fn x = true ∨ X.env.scope.names.lookup x = some .local := by first | exact .inl rfl | exact .inr rfl) :
    DS X (.Assign [.Name x pos'] e pos) (tdSet i t) := ds_set hN hi hx he hs' hf
theorem down (i : Nat) {x : Str} {pos' : Pos} {t : TDA} (hN : X.N.Nodup) (he : DF X e t) (hi : X.N[i]? = some x := by rfl) (hx : Loc X.env.scope x := by first | exact Or.inl rfl | exact Or.inr rfl) (hs' : swapsWith e (some (.Name x pos')) pos.line X.env = pure false := by rfl) (hf : X.fn x = true ∨ X.env.scope.names.lookup x = some .local := by first | exact .inl rfl | exact .inr rfl) :
    DS X (.Assign [.Name x pos'] e pos) (tdOwn i t) := ds_own hN hi hx he hs' hf
theorem daugsub (i : Nat) {x : Str} {px tpos : Pos} {k : Expr} {tk te : TDE} {op : Operator} {rd : RD2} (hk : DE X k tk) (he : DE X e te) (ho : LOp X (inplaceOp op) rd) (hN : X.N[i]? = some x := by rfl) (hv : Vis X.env.scope x := by first | exact Or.inl rfl | exact Or.inr (Or.inl rfl) | exact Or.inr (Or.inr rfl)) (hd : (x == ("__debug__" : Str)) = false := by decide) (hcd : (x == ("__classdict__" : Str)) = false := by decide)
    (ha : ∀ ov iv new, augStore k ov iv new = (do holding [new, ov, iv] (setItem ov iv new); release [new, ov, iv] []; pure .next) := by intros; rfl) :
    DS X (.AugAssign (.Subscript (.Name x px) k tpos) op e pos) (tdAugSub i tk te rd) := ds_augsub hN hv hk he ho hd hcd ha
theorem dgsub (i : Nat) {x : Str} {px : Pos} {k : Expr} {tk : TDE} (hk : DE X k tk) (hN : X.N[i]? = some x := by rfl) (hv : Vis X.env.scope x := by first | exact Or.inl rfl | exact Or.inr (Or.inl rfl) | exact Or.inr (Or.inr rfl)) (hd : (x == ("__debug__" : Str)) = false := by decide) (hcd : (x == ("__classdict__" : Str)) = false := by decide)
    (ha : ∀ v, assign (.Subscript (.Name x px) k pos) X.env v = (do
      let ov ← holding [v] (eval (.Name x px) X.env)
      let iv ← holding [v, ov] (eval k X.env)
      standAt pos
      holding [v, ov, iv] (setItem ov iv v)
      release [v, ov, iv] []) := by intro _; rfl) : DG X (.Subscript (.Name x px) k pos) (gdSub i tk) [] := dg_sub hN hv hk hd hcd ha
/-! ### own defs -/
/-- a def of the text as the top leaves it -/
structure Def (K : PySem.W.Frag) (mg : Str → Option Value) (x : Str) (st : Stmt) (ps : List Str) : Prop where
  ex : ∃ (f : Addr) (fd : FuncData), Fun K x x st f fd ∧ mg x = some (.ref f) ∧ Binds K fd ps []
/-- .. and what it promises -/
structure Fn (P : Program) (w : World) (K : PySem.W.Frag) (mg : Str → Option Value) (base : Heap) (k : Nat) (x : Str) (sp : Sp) : Prop where
  ex : ∃ (f : Addr) (fd : FuncData) (ps : List Str), FnOk P w K mg base CX0 k f fd ps sp ∧ mg x = some (.ref f) ∧ PySem.W.keepIn K (.ref f) = true ∧ Binds K fd ps []
theorem Fn.mono {P : Program} {w : World} {K : PySem.W.Frag} {mg : Str → Option Value} {base : Heap} {j k : Nat} {x : Str} {sp : Sp} (F : Fn P w K mg base j x sp) (h : j ≤ k) : Fn P w K mg base k x sp := by
  obtain ⟨f, fd, ps, h1, h2⟩ := F.ex
  exact ⟨f, fd, ps, h1.mono h, h2⟩
/-- from its body's derivation and the reading of it -/
theorem defD {P : Program} {w : World} {K : PySem.W.Frag} {mg : Str → Option Value} {base : Heap} {x : Str} {st : Stmt} {N ps : List Str} {k : Nat} {sd : SD} {u : TDS} (D : Def K mg x st ps) (S : FnScope N ps (defScope st)) (hn : ps.length ≤ N.length)
    (hbody : ∀ (f : Addr) (cdv : Value) (A : Around) (outer : List Env) (s : Shared) (H : Hp) (E : XK), Room k (A.deeper (envOfC x (defScope st) s.heap.objs.size f cdv)) →
      DSs (cxOf CX0 P w K mg base N x (defScope st) f cdv A outer s H E).nox (defBody st) u)
    (hr : ∀ ds q, ds.length = ps.length → sd ds q → u { nx := fun _ => q .none, rt := fun d _ => q d } (ds.map Slot.sh ++ List.replicate (N.length - ds.length) Slot.un)) :
    Fn P w K mg base (k + 1) x (spD K ps.length sd) := by
  obtain ⟨f, fd, F, hm, hb⟩ := D.ex
  exact ⟨f, fd, ps, fnD F S hn (fun cdv A outer s H E hr => hbody f cdv A outer s H E hr) hr, hm, F.kp, hb⟩
theorem defR {P : Program} {w : World} {K : PySem.W.Frag} {mg : Str → Option Value} {base : Heap} {x : Str} {st : Stmt} {N ps : List Str} {k n : Nat} {sd : SD} {u : TDS} (D : Def K mg x st ps) (S : FnScope N ps (defScope st)) (hp : ps.length = n + 1) (hn : ps.length ≤ N.length)
    (hbody : ∀ (f : Addr) (cdv : Value) (A : Around) (outer : List Env) (s : Shared) (H : Hp) (E : XK), Room k (A.deeper (envOfC x (defScope st) s.heap.objs.size f cdv)) →
      DSs (cxOf CX0 P w K mg base N x (defScope st) f cdv A outer s H E).nox (defBody st) u)
    (hr : ∀ ds q, ds.length = n → sd ds q → u { nx := fun _ => q .none, rt := fun d _ => q d } (Slot.row :: (ds.map Slot.sh ++ List.replicate (N.length - (ds.length + 1)) Slot.un))) :
    Fn P w K mg base (k + 1) x (spR K n sd) := by
  obtain ⟨f, fd, F, hm, hb⟩ := D.ex
  exact ⟨f, fd, ps, fnR F S hp hn (fun cdv A outer s H E hr => hbody f cdv A outer s H E hr) hr, hm, F.kp, hb⟩
/-- f(e, ..) -/
def tdCall (n : Nat) (sd : SD) (ts : TDA) : TDE := fun ρ q => ts ρ fun ds ρ1 => ds.length = n ∧ sd ds fun d => q d ρ1
theorem dcall {k j n : Nat} {sd : SD} {x : Str} {p : Pos} {ts : TDA} (F : Fn X.prog X.w X.K X.mg X.base k x (spD X.K n sd)) (hr : Room j X.A) (ha : DA X (e :: es) ts) (hkj : k ≤ j := by decide) (hg : Gl X x := by rfl)
    (hdb : (x == ("__debug__" : Str)) = false := by decide) (he : starEach (e :: es) X.env = (false, eval e X.env) :: starEach es X.env := by rfl) (hpl : (backTo pos (starEach es X.env)).any (·.1) = false := by rfl) :
    DE X (.Call (.Name x p) (e :: es) [] pos) (tdCall n sd ts) := by
  obtain ⟨f, fd, ps, h1, h2, h3, h4⟩ := F.ex
  exact de_call h1 (hr.mono hkj) hg h2 h3 h4 ha hdb he hpl
theorem dcallR (i : Nat) {k j n : Nat} {sd : SD} {x y : Str} {p p2 : Pos} {ts : TDA} (F : Fn X.prog X.w X.K X.mg X.base k x (spR X.K n sd)) (hr : Room j X.A) (ha : DA X es ts) (hkj : k ≤ j := by decide) (hg : Gl X x := by rfl)
    (hN : X.N[i]? = some y := by rfl) (hv : Vis X.env.scope y := by first | exact Or.inl rfl | exact Or.inr (Or.inl rfl) | exact Or.inr (Or.inr rfl)) (hd : (y == ("__debug__" : Str)) = false := by decide) (hcd : (y == ("__classdict__" : Str)) = false := by decide)
    (hdb : (x == ("__debug__" : Str)) = false := by decide) (he : starEach (.Name y p2 :: es) X.env = (false, eval (.Name y p2) X.env) :: starEach es X.env := by rfl) (hpl : (backTo pos (starEach es X.env)).any (·.1) = false := by rfl) :
    DE X (.Call (.Name x p) (.Name y p2 :: es) [] pos) (tdCallR i n sd ts) := by
  obtain ⟨f, fd, ps, h1, h2, h3, h4⟩ := F.ex
  exact de_callR h1 (hr.mono hkj) hg h2 h3 h4 hN hv ha hd hcd hdb he hpl
/-- isinstance(x, (S, T)) -/
theorem de_isi2 {x y : Str} {S T : String} {p p1 p2 p3 : Pos} {k1 : Nat} (hS : S ∈ ["int", "bool", "tuple", "list", "str"]) (hT : T ∈ ["int", "bool", "tuple", "list", "str"]) (hg : Gl X "isinstance") (hm : X.mg "isinstance" = none) (hgS : Gl X x) (hmS : X.mg x = none) (hvS : bootBuiltins x = some (.type S)) (hgT : Gl X y) (hmT : X.mg y = none) (hvT : bootBuiltins y = some (.type T)) (ha : DE X a ta)
    (hnS : x ≠ "__name__" := by decide) (hdS : (x == ("__debug__" : Str)) = false := by decide) (hnT : y ≠ "__name__" := by decide) (hdT : (y == ("__debug__" : Str)) = false := by decide)
    (hs1 : starEach [a, .Tuple [.Name x p1, .Name y p2] k1 p3] X.env = (false, eval a X.env) :: starEach [.Tuple [.Name x p1, .Name y p2] k1 p3] X.env := by rfl) (hs2 : starEach [.Tuple [.Name x p1, .Name y p2] k1 p3] X.env = (false, eval (.Tuple [.Name x p1, .Name y p2] k1 p3) X.env) :: starEach [] X.env := by rfl)
    (hs3 : starEach [.Name x p1, .Name y p2] X.env = (false, eval (.Name x p1) X.env) :: starEach [.Name y p2] X.env := by rfl) (hs4 : starEach [.Name y p2] X.env = (false, eval (.Name y p2) X.env) :: starEach [] X.env := by rfl)
    (hpl : (backTo pos (starEach [.Tuple [.Name x p1, .Name y p2] k1 p3] X.env)).any (·.1) = false := by rfl) :
    DE X (.Call (.Name "isinstance" p) [a, .Tuple [.Name x p1, .Name y p2] k1 p3] [] pos) (fun ρ q => ta ρ fun d ρ1 => q (.bool (isD S d || isD T d)) ρ1) := by
  obtain ⟨te, hp, hq⟩ := ha.ex
  refine ⟨_, pe_callB cr_isiTD hg hm (by decide +kernel) (pa_cons hp (pa_cons (pe_tup (pa_cons (pe_bltn (v := .ty S) hgS hmS hvS rfl hnS hdS) (pa_cons (pe_bltn (v := .ty T) hgT hmT hvT rfl hnT hdT) pa_nil hs4) hs3)) pa_nil hs2) hs1) (by decide) (by decide) hs1 hpl, fun C σ H ρ q Q E h k => hq C σ H ρ _ _ E h fun v H1 d ρ1 E1 s1 D h1 => ?_⟩
  refine ⟨by show 2 ≤ sizeLine; decide, fun tp htp => ?_⟩
  have l : Le H1 (upd H1 tp (.tup [.ty S, .ty T])) := .upd htp
  refine ⟨v, tp, [.ty S, .ty T], _, [.type S, .type T], isD S d || isD T d, rfl, upd_same, .cons (.ty S) (.cons (.ty T) .nil), Dp.tyX (Dp.le hide_Le (Dp.le (hide_le l) D)), ?_, k _ _ _ ρ1 (E1.le l) (s1.trans (.le l)) (.bl _) h1⟩
  refine kitAny_cons (kit_ty (isD_some hS d)) (fun h1 => kitAny_cons (kit_ty (isD_some hT d)) (fun h2 => ?_) fun h2 => ?_) fun h1 => ?_
  · rw [h1, h2]; exact kitAny_nil
  · rw [h2, Bool.or_true]
  · rw [h1, Bool.true_or]
end
end DL
namespace DL
open PySem PySem.Spec PyProof.Rows L2
section
variable {X : Cx} {e a b c tg iter : Expr} {es : List Expr} {pos : Pos} {t ta tb tc : TDE}
theorem de_globI {x : Str} {i : Int} (hg : Gl X x) (h : ∃ u, X.mg x = some u ∧ RelV (.int i) u) (hdb : (x == ("__debug__" : Str)) = false := by decide) : DE X (.Name x pos) (tdC (.int i)) := by
  obtain ⟨u, h1, h2⟩ := h
  exact de_glob hg h1 h2 (fun _ => .int i) hdb
/-- name, name = value, new list of one's own -/
def tdParSO (i j : Nat) (ta : TDE) (tb : TDA) : TDS := fun q ρ => ta ρ fun x ρ1 => tb ρ1 fun ds ρ2 => ∀ m, m ∉ owns ρ2 → q.nx ((ρ2.set j (.own m ds)).set i (.sh x))
/-- a, b, c = value, new list of one's own, value: stored one after another from the tuple -/
def tdAsgSOS (i j l : Nat) (ta : TDE) (tb : TDA) (tc : TDE) : TDS := fun q ρ => ta ρ fun x ρ1 => tb ρ1 fun ds ρ2 => tc ρ2 fun z ρ3 => ∀ m, m ∉ owns ρ3 → q.nx (((ρ3.set i (.sh x)).set j (.own m ds)).set l (.sh z))
end
end DL
/-! DL: loops by what is left; the def that takes from the row, the law itself. -/
namespace DL
open PySem PySem.Spec PyProof.Rows L2
section
variable {X : Cx} {e a b c tg iter : Expr} {es : List Expr} {pos : Pos} {t ta tb tc : TDE}
theorem wFor_ind {g : TDG} {body : TDS} {q : DEnds} (I : List PyData → DEnv → Prop) (h0 : ∀ ρ, I [] ρ → q.nx ρ)
    (hs' : ∀ d ds ρ (k : DEnv → Prop), I (d :: ds) ρ → (∀ ρ', I ds ρ' → k ρ') → g d ρ fun ρ1 => body { q with nx := k, ct := k, bk := q.nx } ρ1) :
    ∀ (ds : List PyData) (ρ : DEnv), I ds ρ → wFor g body q ds ρ
  | [], ρ, h => h0 ρ h
  | d :: ds, ρ, h => hs' d ds ρ _ h fun ρ' h' => wFor_ind I h0 hs' ds ρ' h'
theorem wLc_ind {g : TDG} {tt : TDT} {te : TDE} {vs : List Nat} {q : List PyData → Prop} {ρ0 : DEnv} (I : List PyData → List PyData → Prop) (h0 : ∀ acc, I [] acc → q acc)
    (hs' : ∀ d ds acc (k : List PyData → Prop), I (d :: ds) acc → (∀ acc', I ds acc' → k acc') → g d ρ0 fun ρ1 => wipeD ρ1 vs = ρ0 ∧ tt ρ1 fun b ρ2 => ρ2 = ρ1 ∧
      if b = true then te ρ1 fun y ρ3 => ρ3 = ρ1 ∧ acc.length < sizeLine ∧ k (acc ++ [y]) else k acc) :
    ∀ (ds acc : List PyData), I ds acc → wLc g tt te vs q ρ0 ds acc
  | [], acc, h => h0 acc h
  | d :: ds, acc, h => hs' d ds acc _ h fun acc' h' => wLc_ind I h0 hs' ds acc' h'
/-- the new list as a filter and a map, over what the items are made of -/
theorem wLc_map {α : Type} {g : TDG} {tt : TDT} {te : TDE} {vs : List Nat} {q : List PyData → Prop} {ρ0 : DEnv} (f : α → PyData) (p : α → Bool) (hh : α → PyData) (xs : List α) (hn : xs.length < sizeLine)
    (hs' : ∀ x, x ∈ xs → ∀ (k1 : PyData → Prop) (k2 : Prop), (p x = true → k1 (hh x)) → (p x = false → k2) → g (f x) ρ0 fun ρ1 => wipeD ρ1 vs = ρ0 ∧ tt ρ1 fun b ρ2 => ρ2 = ρ1 ∧
      if b = true then te ρ1 fun y ρ3 => ρ3 = ρ1 ∧ k1 y else k2)
    (h0 : q ((xs.filter p).map hh)) : wLc g tt te vs q ρ0 (xs.map f) [] := by
  have all : ∀ (ys : List α) (acc : List PyData), (∀ y ∈ ys, y ∈ xs) → acc.length + ys.length < sizeLine → q (acc ++ (ys.filter p).map hh) → wLc g tt te vs q ρ0 (ys.map f) acc := by
    intro ys
    induction ys with
    | nil => intro acc _ _ h; show q acc; simpa using h
    | cons y ys ih =>
      intro acc hm hl h
      simp only [List.length_cons] at hl
      refine hs' y (hm y List.mem_cons_self) (fun y => acc.length < sizeLine ∧ wLc g tt te vs q ρ0 (ys.map f) (acc ++ [y])) (wLc g tt te vs q ρ0 (ys.map f) acc) (fun hp => ⟨by omega, ?_⟩) fun hp => ?_
      · refine ih _ (fun z hz => hm z (List.mem_cons_of_mem _ hz)) (by simp; omega) ?_
        rw [List.filter_cons_of_pos hp, List.map_cons] at h
        simpa using h
      · refine ih _ (fun z hz => hm z (List.mem_cons_of_mem _ hz)) (by omega) ?_
        rw [List.filter_cons_of_neg (by simp [hp])] at h
        exact h
  exact all xs [] (fun _ h => h) (by simpa using hn) (by simpa using h0)
/-! ### the def that takes from the row: within it, the row is a list of its own -/
def rowD (ns : List Int) (i s b : Int) : List PyData := [.list (ns.map .int), .int i, .int s, .int b]
theorem fnT {P : Program} {w : World} {K : PySem.W.Frag} {mg : Str → Option Value} {base : Heap} {x qual : Str} {st : Stmt} {f : Addr} {fd : FuncData} {N ps : List Str} {k n : Nat} {sd : SD} {u : TDS} (F : Fun K x qual st f fd) (S : FnScope N ps (defScope st)) (hp : ps.length = n + 1) (hn : ps.length ≤ N.length)
    (hbody : ∀ (cdv : Value) (A : Around) (outer : List Env) (s : Shared) (H : Hp) (E : XK), Room k (A.deeper (envOfC qual (defScope st) s.heap.objs.size f cdv)) →
      DSs (cxOf CX0 P w K mg base N qual (defScope st) f cdv A outer s H E).nox (defBody st) u)
    (hr : ∀ r ds q ns i s b, ds.length = n → sd ds q → 0 ≤ i → 0 ≤ s → s < 2147483647 → 0 ≤ b →
      u { nx := fun _ => False, rt := fun d ρ => q d ∧ ∃ i s b, ρ[0]? = some (.own r (rowD ns i s b)) ∧ 0 ≤ i ∧ 0 ≤ s ∧ s < 2147483647 ∧ 0 ≤ b } (Slot.own r (rowD ns i s b) :: (ds.map Slot.sh ++ List.replicate (N.length - (ds.length + 1)) Slot.un))) :
    FnOk P w K mg base CX0 (k + 1) f fd ps (spR K n sd) := by
  refine F.ok S (fun vs H Q E h => h.1.trans hp.symm) fun cdv A outer s H vs Q E hrm h => ?_
  obtain ⟨hl, r, ws, as, ds, q0, rfl, hra, ex, R, D, w', fin⟩ := h
  obtain ⟨ts, hpp, hq⟩ := (hbody cdv A outer s H E hrm).ex
  refine ⟨ts, hpp, ?_⟩
  have hlw : ws.length = n := by simpa using hl
  have hld : ds.length = n := (DpAll.length D).symm.trans hlw
  obtain ⟨sc, ns, i, sd', b, hH, hSq, hi, hs0, hs1, hb⟩ := id R
  have E0 := start_envR (N := N) hra ex R D (by omega)
  have ho0 : owns (Slot.row :: (ds.map Slot.sh ++ List.replicate (N.length - (ds.length + 1)) Slot.un)) = [] := by
    apply List.eq_nil_iff_forall_not_mem.mpr
    intro a h
    obtain ⟨i, x, e, hx⟩ := mem_owns.mp h
    cases i with
    | zero => cases e; cases hx
    | succ i =>
      simp only [List.getElem?_cons_succ] at e
      rw [List.getElem?_append] at e
      split at e
      · rw [List.getElem?_map] at e
        cases q : ds[i]? with
        | none => rw [q] at e; cases e
        | some d => rw [q] at e; cases e; cases hx
      · rw [List.getElem?_replicate] at e
        split at e
        · cases e; cases hx
        · cases e
  have ho1 : owns (Slot.own r (rowD ns i sd' b) :: (ds.map Slot.sh ++ List.replicate (N.length - (ds.length + 1)) Slot.un)) = [r] := by
    have : owns (Slot.own r (rowD ns i sd' b) :: (ds.map Slot.sh ++ List.replicate (N.length - (ds.length + 1)) Slot.un)) = r :: owns (ds.map Slot.sh ++ List.replicate (N.length - (ds.length + 1)) Slot.un) := rfl
    rw [this]
    have : owns (ds.map Slot.sh ++ List.replicate (N.length - (ds.length + 1)) Slot.un) = [] := ho0
    rw [this]
  have hh0 : hs ⟨H, as, [r]⟩ (Slot.row :: (ds.map Slot.sh ++ List.replicate (N.length - (ds.length + 1)) Slot.un)) = as ++ [r] := by unfold hs mu; rw [ho0]; simp
  have hh1 : hs ⟨hide [r] H, as, []⟩ (Slot.own r (rowD ns i sd' b) :: (ds.map Slot.sh ++ List.replicate (N.length - (ds.length + 1)) Slot.un)) = as ++ [r] := by unfold hs mu; rw [ho1]; simp
  have E1 : EnvD ⟨hide [r] H, as, []⟩ K H (L2.start N (.ref r :: ws)) (Slot.own r (rowD ns i sd' b) :: (ds.map Slot.sh ++ List.replicate (N.length - (ds.length + 1)) Slot.un)) := by
    refine ⟨E0.len, fun j x e => ?_, by rw [ho1]; simp, fun a h => ?_, fun a h => (nomatch h), ex, fun a h => (nomatch h), fun b o e _ => (hide_some e).2⟩
    · rw [hh1]
      cases j with
      | zero =>
        cases e
        refine ⟨some (.ref r), rfl, rfl, ⟨_, hH, .cons (.lst hSq (DpAll.of_ints _)) (.cons (.int _) (.cons (.int _) (.cons (.int _) .nil)))⟩, hide_in (by simp)⟩
      | succ j =>
        obtain ⟨v, e1, s1⟩ := E0.slots (j + 1) x e
        rw [hh0] at s1
        refine ⟨v, e1, ?_⟩
        cases v with
        | none => cases x <;> first | exact trivial | exact s1
        | some v => cases x with
          | un => exact trivial
          | sh d => exact s1
          | own a ds' =>
            exfalso
            have : a ∈ owns (Slot.row :: (ds.map Slot.sh ++ List.replicate (N.length - (ds.length + 1)) Slot.un)) := mem_owns.mpr ⟨j + 1, _, e, rfl⟩
            rw [ho0] at this; cases this
          | dic a c =>
            exfalso
            have : a ∈ owns (Slot.row :: (ds.map Slot.sh ++ List.replicate (N.length - (ds.length + 1)) Slot.un)) := mem_owns.mpr ⟨j + 1, _, e, rfl⟩
            rw [ho0] at this; cases this
          | mem a f ks =>
            exfalso
            have : a ∈ owns (Slot.row :: (ds.map Slot.sh ++ List.replicate (N.length - (ds.length + 1)) Slot.un)) := mem_owns.mpr ⟨j + 1, _, e, rfl⟩
            rw [ho0] at this; cases this
          | row =>
            exfalso
            simp only [List.getElem?_cons_succ] at e
            rw [List.getElem?_append] at e
            split at e
            · rw [List.getElem?_map] at e
              cases q : ds[j]? with
              | none => rw [q] at e; cases e
              | some d => rw [q] at e; cases e
            · rw [List.getElem?_replicate] at e
              split at e
              · cases e
              · cases e
    · rw [ho1] at h
      have : a = r := by simpa using h
      subst this
      exact ⟨hra, fun z => nomatch z⟩
  refine hq _ (L2.start N (.ref r :: ws)) H _ { nx := fun _ => False, rt := fun d ρ => q0 d ∧ ∃ i s b, ρ[0]? = some (.own r (rowD ns i s b)) ∧ 0 ≤ i ∧ 0 ≤ s ∧ s < 2147483647 ∧ 0 ≤ b } _ E1 (hr r ds q0 ns i sd' b hld w' hi hs0 hs1 hb) ⟨fun σ' H' ρ' E' s' z => z.elim, fun v σ' H' d ρ' E' s' D' z => ?_, fun _ _ _ _ _ z => z, fun _ _ _ _ _ z => z⟩
  obtain ⟨z, i', s'', b', e0, g1, g2, g3, g4⟩ := z
  have kp : ∀ b o, b ≠ r → H b = some o → H' b = some o := fun b o nb e => E'.keep b o (by show hide [r] H b = some o; rw [hide_out (by simpa using nb)]; exact e) (fun z => nomatch z)
  have sub : ∀ b, b ∈ as ++ [r] → b ∈ hs ⟨hide [r] H, as, []⟩ ρ' := fun b z => by
    rcases List.mem_append.mp z with z | z
    · exact List.mem_append_left _ z
    · have : b = r := by simpa using z
      subst this
      exact List.mem_append_right _ (List.mem_append_right _ (mem_owns.mpr ⟨0, _, e0, rfl⟩))
  refine fin d z v H' kp ?_ (Dp.le (hide_sub sub) D')
  obtain ⟨v0, e1, sl⟩ := E'.slots 0 _ e0
  cases v0 with
  | none => cases sl
  | some v0 =>
    obtain ⟨_, ⟨vs, hv, Dv⟩, _⟩ := sl
    unfold rowD at Dv
    cases Dv with
    | cons d1 r1 => cases r1 with
      | cons d2 r2 => cases r2 with
        | cons d3 r3 => cases r3 with
          | cons d4 r4 =>
            cases r4
            cases d1 with
            | lst sq al =>
              cases d2; cases d3; cases d4
              have := DpAll.ints al
              subst this
              exact ⟨_, ns, i', s'', b', hv, SqL.le (hide_sub sub) sq, g1, g2, g3, g4⟩
theorem defT {P : Program} {w : World} {K : PySem.W.Frag} {mg : Str → Option Value} {base : Heap} {x : Str} {st : Stmt} {N ps : List Str} {k n : Nat} {sd : SD} {u : TDS} (D : Def K mg x st ps) (S : FnScope N ps (defScope st)) (hp : ps.length = n + 1) (hn : ps.length ≤ N.length)
    (hbody : ∀ (f : Addr) (cdv : Value) (A : Around) (outer : List Env) (s : Shared) (H : Hp) (E : XK), Room k (A.deeper (envOfC x (defScope st) s.heap.objs.size f cdv)) →
      DSs (cxOf CX0 P w K mg base N x (defScope st) f cdv A outer s H E).nox (defBody st) u)
    (hr : ∀ r ds q ns i s b, ds.length = n → sd ds q → 0 ≤ i → 0 ≤ s → s < 2147483647 → 0 ≤ b →
      u { nx := fun _ => False, rt := fun d ρ => q d ∧ ∃ i s b, ρ[0]? = some (.own r (rowD ns i s b)) ∧ 0 ≤ i ∧ 0 ≤ s ∧ s < 2147483647 ∧ 0 ≤ b } (Slot.own r (rowD ns i s b) :: (ds.map Slot.sh ++ List.replicate (N.length - (ds.length + 1)) Slot.un))) :
    Fn P w K mg base (k + 1) x (spR K n sd) := by
  obtain ⟨f, fd, F, hm, hb⟩ := D.ex
  exact ⟨f, fd, ps, fnT F S hp hn (fun cdv A outer s H E hr => hbody f cdv A outer s H E hr) hr, hm, F.kp, hb⟩
/-! ### the law: its first statement makes the row -/
/-- behind the first statement -/
def LawRow (ns : List Int) (m : Nat) (u : TDS) : DEnv → Prop := fun ρ => ∃ a i s b, ρ = Slot.sh (.list (ns.map .int)) :: Slot.own a (rowD ns i s b) :: List.replicate m Slot.un ∧ (0 ≤ i ∧ 0 ≤ s ∧ s < 2147483647 ∧ 0 ≤ b) ∧
  u { nx := fun _ => False, rt := fun d _ => d = .bool true } (Slot.sh (.list (ns.map .int)) :: Slot.row :: List.replicate m Slot.un)
theorem owns_un (m : Nat) : owns (List.replicate m Slot.un) = [] := by
  induction m with
  | zero => rfl
  | succ m ih => exact ih
theorem fnL {P : Program} {w : World} {K : PySem.W.Frag} {mg : Str → Option Value} {base : Heap} {x qual : Str} {st s1 : Stmt} {rest : List Stmt} {f : Addr} {fd : FuncData} {N : List Str} {p : Str} {k m : Nat} {t : TDA} {u : TDS} (F : Fun K x qual st f fd) (S : FnScope N [p] (defScope st)) (hn : N.length = m + 2) (hst : defBody st = s1 :: rest)
    (hbody : ∀ (cdv : Value) (A : Around) (outer : List Env) (s : Shared) (H : Hp) (E : XK), Room k (A.deeper (envOfC qual (defScope st) s.heap.objs.size f cdv)) →
      DS (cxOf CX0 P w K mg base N qual (defScope st) f cdv A outer s H E).nox s1 (tdOwn 1 t) ∧ DSs (cxOf CX0 P w K mg base N qual (defScope st) f cdv A outer s H E).nox rest u)
    (hr : ∀ ns : List Int, ns.length ≤ 63 → tdOwn 1 t { nx := LawRow ns m u, rt := fun _ _ => False } (Slot.sh (.list (ns.map .int)) :: Slot.un :: List.replicate m Slot.un)) :
    FnOk P w K mg base CX0 (k + 1) f fd [p] (spD K 1 fun ds q => ∃ ns : List Int, ds = [.list (ns.map .int)] ∧ ns.length ≤ 63 ∧ q = fun d => d = .bool true) := by
  refine F.ok S (fun vs H Q E h => h.1) fun cdv A outer s H vs Q E hrm h => ?_
  obtain ⟨hl, as, ds, q0, ex, D, ⟨ns, rfl, hns, rfl⟩, fin⟩ := h
  obtain ⟨hb1, hb2⟩ := hbody cdv A outer s H E hrm
  obtain ⟨p1, h1, q1⟩ := hb1.ex
  obtain ⟨p2, h2, q2⟩ := hb2.ex
  rw [hst]
  refine ⟨_, pss_cons h1 h2, ?_⟩
  have E0 : EnvD ⟨H, as, []⟩ K H (start N vs) (Slot.sh (.list (ns.map .int)) :: Slot.un :: List.replicate m Slot.un) := by
    have := start_envD (N := N) ex D (by omega)
    have e : N.length - 1 = m + 1 := by omega
    simp only [List.map_cons, List.map_nil, List.length_cons, List.length_nil, Nat.zero_add, e] at this
    exact this
  refine q1 ⟨H, as, []⟩ (start N vs) H _ { nx := LawRow ns m u, rt := fun _ _ => False } _ E0 (hr ns hns) ⟨fun σ' H' ρ' E' s' z => ?_, fun _ _ _ _ _ _ _ _ z => z.elim, fun _ _ _ _ _ z => z, fun _ _ _ _ _ z => z⟩
  obtain ⟨a, i, s2, b, rfl, ⟨g1, g2, g3, g4⟩, hu⟩ := z
  have ho1 : owns (Slot.sh (.list (ns.map .int)) :: Slot.own a (rowD ns i s2 b) :: List.replicate m Slot.un) = [a] := congrArg (a :: ·) (owns_un m)
  have ho2 : owns (Slot.sh (.list (ns.map .int)) :: Slot.row :: List.replicate m Slot.un) = [] := owns_un m
  have hh1 : hs ⟨H, as, []⟩ (Slot.sh (.list (ns.map .int)) :: Slot.own a (rowD ns i s2 b) :: List.replicate m Slot.un) = as ++ [a] := by unfold hs mu; rw [ho1]; simp
  have hh2 : hs ⟨H, as, [a]⟩ (Slot.sh (.list (ns.map .int)) :: Slot.row :: List.replicate m Slot.un) = as ++ [a] := by unfold hs mu; rw [ho2]; simp
  have ha := E'.dj a (by rw [ho1]; simp)
  obtain ⟨v1, e1, sl1⟩ := E'.slots 1 _ rfl
  rw [hh1] at sl1
  have sl1' : v1 = some (.ref a) ∧ (∃ vs, H' a = some (.lst vs) ∧ DpAll K (hide (as ++ [a]) H') vs (rowD ns i s2 b)) ∧ H a = none := by
    cases v1 with
    | none => cases sl1
    | some v1 => obtain ⟨q1, q2, q3⟩ := sl1; exact ⟨by rw [q1], q2, q3⟩
  obtain ⟨rfl, ⟨vs', hv, Dv⟩, hHa⟩ := sl1'
  have E2 : EnvD ⟨H, as, [a]⟩ K H' σ' (Slot.sh (.list (ns.map .int)) :: Slot.row :: List.replicate m Slot.un) := by
    refine ⟨E'.len, fun j x e => ?_, by rw [ho2]; exact List.nodup_nil, fun b h => (by rw [ho2] at h; cases h), fun b h => ?_, E'.exd, fun b h => ?_, fun b o e nb => E'.keep b o e (fun z => nomatch z)⟩
    · rw [hh2]
      match j, e with
      | 0, e =>
        cases e
        obtain ⟨v, q1, q2⟩ := E'.slots 0 _ rfl
        rw [hh1] at q2
        refine ⟨v, q1, ?_⟩
        cases v with
        | none => exact q2
        | some v => exact q2
      | 1, e => cases e; exact ⟨_, e1, a, rfl, List.mem_cons_self⟩
      | j + 2, e =>
        obtain ⟨v, q1, q2⟩ := E'.slots (j + 2) x e
        simp only [List.getElem?_cons_succ, List.getElem?_replicate] at e
        split at e
        · cases e; exact ⟨v, q1, by cases v <;> exact trivial⟩
        · cases e
    · have : b = a := by simpa using h
      subst this; exact ha.1
    · have : b = a := by simpa using h
      subst this
      rw [hh2]
      unfold rowD at Dv
      cases Dv with
      | cons d1 r1 => cases r1 with
        | cons d2 r2 => cases r2 with
          | cons d3 r3 => cases r3 with
            | cons d4 r4 =>
              cases r4
              cases d1 with
              | lst sq al =>
                cases d2; cases d3; cases d4
                have := DpAll.ints al
                subst this
                exact ⟨_, ns, i, s2, _, hv, sq, g1, g2, g3, g4⟩
  refine q2 _ σ' H' _ _ _ E2 hu ⟨fun σ3 H3 ρ3 E3 s3 z => z.elim, fun v σ3 H3 d ρ3 E3 s3 D3 z => ?_, fun _ _ _ _ _ z => z, fun _ _ _ _ _ z => z⟩
  refine fin d z v H3 (fun b o e => E3.keep b o e fun z => ?_) (Dp.le (hide_sub fun b z => List.mem_append_left _ z) D3)
  have : b = a := by simpa using z
  subst this
  rw [hHa] at e; cases e
end
end DL
/-! DL: words for readings; webs and layings as data. -/
namespace DL
open PySem PySem.Spec PyProof.Rows L2
theorem ii : isD "int" (.int i) = true := (by decide +kernel : isS "int" "int" = true)
theorem ib : isD "bool" (.int i) = false := (by decide +kernel : isS "int" "bool" = false)
theorem it : isD "tuple" (.int i) = false := (by decide +kernel : isS "int" "tuple" = false)
theorem il : isD "list" (.int i) = false := (by decide +kernel : isS "int" "list" = false)
theorem is' : isD "str" (.int i) = false := (by decide +kernel : isS "int" "str" = false)
theorem ti : isD "int" (.tuple x) = false := (by decide +kernel : isS "tuple" "int" = false)
theorem tb : isD "bool" (.tuple x) = false := (by decide +kernel : isS "tuple" "bool" = false)
theorem tt : isD "tuple" (.tuple x) = true := (by decide +kernel : isS "tuple" "tuple" = true)
theorem tl : isD "list" (.tuple x) = false := (by decide +kernel : isS "tuple" "list" = false)
theorem ts' : isD "str" (.tuple x) = false := (by decide +kernel : isS "tuple" "str" = false)
theorem li : isD "int" (.list x) = false := (by decide +kernel : isS "list" "int" = false)
theorem lb : isD "bool" (.list x) = false := (by decide +kernel : isS "list" "bool" = false)
theorem lt' : isD "tuple" (.list x) = false := (by decide +kernel : isS "list" "tuple" = false)
theorem ll : isD "list" (.list x) = true := (by decide +kernel : isS "list" "list" = true)
theorem ls' : isD "str" (.list x) = false := (by decide +kernel : isS "list" "str" = false)
theorem ni : isD "int" .none = false := (by decide +kernel : isS "NoneType" "int" = false)
theorem nb : isD "bool" .none = false := (by decide +kernel : isS "NoneType" "bool" = false)
theorem nt : isD "tuple" .none = false := (by decide +kernel : isS "NoneType" "tuple" = false)
theorem nl : isD "list" .none = false := (by decide +kernel : isS "NoneType" "list" = false)
theorem ns' : isD "str" .none = false := (by decide +kernel : isS "NoneType" "str" = false)
theorem bi : isD "int" (.bool c) = true := (by decide +kernel : isS "bool" "int" = true)
theorem bb : isD "bool" (.bool c) = true := (by decide +kernel : isS "bool" "bool" = true)
theorem bt : isD "tuple" (.bool c) = false := (by decide +kernel : isS "bool" "tuple" = false)
theorem bl' : isD "list" (.bool c) = false := (by decide +kernel : isS "bool" "list" = false)
theorem bs : isD "str" (.bool c) = false := (by decide +kernel : isS "bool" "str" = false)
theorem si : isD "int" (.str c) = false := (by decide +kernel : isS "str" "int" = false)
theorem sb : isD "bool" (.str c) = false := (by decide +kernel : isS "str" "bool" = false)
theorem st' : isD "tuple" (.str c) = false := (by decide +kernel : isS "str" "tuple" = false)
theorem sl : isD "list" (.str c) = false := (by decide +kernel : isS "str" "list" = false)
theorem ss : isD "str" (.str c) = true := (by decide +kernel : isS "str" "str" = true)
theorem di : isD "int" (.dict c) = false := (by decide +kernel : isS "dict" "int" = false)
theorem db : isD "bool" (.dict c) = false := (by decide +kernel : isS "dict" "bool" = false)
theorem dt : isD "tuple" (.dict c) = false := (by decide +kernel : isS "dict" "tuple" = false)
theorem dl : isD "list" (.dict c) = false := (by decide +kernel : isS "dict" "list" = false)
theorem ds' : isD "str" (.dict c) = false := (by decide +kernel : isS "dict" "str" = false)
theorem sh_int (i : Int) : SeqAt.shaped (.int i) = true := rfl
theorem eqv_int (i j : Int) : PyData.eqv (.int i) (.int j) = decide (i = j) := by
  show (i == j) = _
  exact Bool.eq_iff_iff.mpr (by simp)
/-! ### where a value stands -/
theorem atI_pos {α : Type} {xs : List α} {i : Int} (h : 0 ≤ i) (hl : i < xs.length) : atI xs i = xs[i.toNat]? := by
  unfold atI ixN
  rw [if_pos h, if_pos hl]; rfl
theorem atI_nat {α : Type} {xs : List α} {i : Nat} (hl : i < xs.length) : atI xs (i : Int) = xs[i]? := by
  rw [atI_pos (by omega) (by omega)]; rfl
/-! ### webs -/
abbrev Edge := Int × Int
def wD (n : Int) (es : List Edge) : PyData := .tuple [.int n, .tuple (es.map pD)]
def lexLt (p q : Edge) : Prop := p.1 < q.1 ∨ (p.1 = q.1 ∧ p.2 < q.2)
structure WebOk (n : Int) (es : List Edge) : Prop where
  lo : 1 ≤ n
  hi : n ≤ 9
  ed : ∀ p ∈ es, 0 ≤ p.1 ∧ p.1 < p.2 ∧ p.2 < n
  so : es.Pairwise lexLt
def adj (es : List Edge) (a b : Int) : Bool := es.contains (a, b) || es.contains (b, a)
theorem adj_iff {es : List Edge} {a b : Int} : adj es a b = true ↔ (a, b) ∈ es ∨ (b, a) ∈ es := by
  unfold adj
  rw [Bool.or_eq_true, List.contains_iff_mem, List.contains_iff_mem]
theorem WebOk.len {n : Int} {es : List Edge} (W : WebOk n es) : es.length ≤ 100 := by
  have nd : es.Nodup := W.so.imp fun {a b} h => by
    rintro rfl
    rcases h with h | ⟨_, h⟩ <;> omega
  have sub : es ⊆ ((List.range 10).flatMap fun (i : Nat) => (List.range 10).map fun (j : Nat) => ((i : Int), (j : Int))) := fun p hp => by
    obtain ⟨h1, h2, h3⟩ := W.ed p hp
    have := W.hi
    refine List.mem_flatMap.mpr ⟨p.1.toNat, List.mem_range.mpr (by omega), List.mem_map.mpr ⟨p.2.toNat, List.mem_range.mpr (by omega), ?_⟩⟩
    exact Prod.ext (by show ((p.1.toNat : Nat) : Int) = p.1; omega) (by show ((p.2.toNat : Nat) : Int) = p.2; omega)
  exact List.Nodup.length_le_of_subset nd sub
/-- the neighbours as the law lists them -/
def nbr (es : List Edge) (k : Int) : List Int := (es.filter fun p => decide (k = p.1 ∨ k = p.2)).map fun p => p.1 + p.2 - k
theorem mem_nbr {es : List Edge} {k j : Int} : j ∈ nbr es k ↔ adj es k j = true := by
  unfold nbr
  rw [adj_iff, List.mem_map]
  constructor
  · rintro ⟨⟨a, b⟩, h, rfl⟩
    obtain ⟨h1, h2⟩ := List.mem_filter.mp h
    simp only [decide_eq_true_eq] at h2
    rcases h2 with h2 | h2
    · left
      have : a + b - k = b := by omega
      rw [this, h2]; exact h1
    · right
      have : a + b - k = a := by omega
      rw [this, h2]; exact h1
  · rintro (h | h)
    · exact ⟨_, List.mem_filter.mpr ⟨h, by simp⟩, by simp; omega⟩
    · exact ⟨_, List.mem_filter.mpr ⟨h, by simp⟩, by simp⟩
theorem WebOk.nd {n : Int} {es : List Edge} (W : WebOk n es) : es.Nodup := W.so.imp fun {a b} h => by
    rintro rfl
    rcases h with h | ⟨_, h⟩ <;> omega
theorem nd_map {α β : Type} {f : α → β} : ∀ {l : List α}, (∀ a ∈ l, ∀ b ∈ l, f a = f b → a = b) → l.Nodup → (l.map f).Nodup
  | [], _, _ => List.nodup_nil
  | x :: l, h, nd => by
    obtain ⟨h1, h2⟩ := List.nodup_cons.mp nd
    rw [List.map_cons]
    refine List.nodup_cons.mpr ⟨fun hm => ?_, nd_map (fun a ha b hb => h a (List.mem_cons_of_mem _ ha) b (List.mem_cons_of_mem _ hb)) h2⟩
    obtain ⟨y, hy, e⟩ := List.mem_map.mp hm
    have := h y (List.mem_cons_of_mem _ hy) x List.mem_cons_self e
    subst this
    exact h1 hy
theorem nbr_nodup {n : Int} {es : List Edge} (W : WebOk n es) (k : Int) : (nbr es k).Nodup := by
  unfold nbr
  refine nd_map ?_ (W.nd.filter _)
  rintro ⟨a, b⟩ h1 ⟨c, d⟩ h2 e
  obtain ⟨m1, k1⟩ := List.mem_filter.mp h1
  obtain ⟨m2, k2⟩ := List.mem_filter.mp h2
  obtain ⟨_, q1, _⟩ := W.ed _ m1
  obtain ⟨_, q2, _⟩ := W.ed _ m2
  simp only [decide_eq_true_eq] at k1 k2 e q1 q2
  refine Prod.ext ?_ ?_ <;> simp only <;> omega
/-! ### layings -/
def cD (i : Int) : PyData := if i = 2 then .none else .int i
def bD (ls : List Int) : PyData := .tuple (ls.map cD)
def lD (ls : List Int) : PyData := .tuple (ls.map .int)
structure LayOk (n : Int) (ls : List Int) : Prop where
  len : (ls.length : Int) = n
  val : ∀ x ∈ ls, x = 0 ∨ x = 1 ∨ x = 2
def flip1 (x : Int) : Int := if x = 2 then 2 else 1 - x
def flipL (ks : List Int) (ls : List Int) : List Int := ls.mapIdx fun j x => if (j : Int) ∈ ks then flip1 x else x
theorem flipL_length (ks ls : List Int) : (flipL ks ls).length = ls.length := by unfold flipL; simp
theorem flipL_get (ks ls : List Int) (j : Nat) : (flipL ks ls)[j]? = ls[j]?.map fun x => if (j : Int) ∈ ks then flip1 x else x := by unfold flipL; simp
theorem flipL_nil (ls : List Int) : flipL [] ls = ls := by
  apply List.ext_getElem?
  intro j
  rw [flipL_get]
  cases ls[j]? <;> simp
theorem flipL_cons {k : Int} {ks ls : List Int} (hk : 0 ≤ k) (nk : k ∉ ks) {x : Int} (hx : ls[k.toNat]? = some x) : flipL ks (ls.set k.toNat (flip1 x)) = flipL (k :: ks) ls := by
  apply List.ext_getElem?
  intro j
  rw [flipL_get, flipL_get, List.getElem?_set]
  by_cases e : k.toNat = j
  · subst e
    have hl : k.toNat < ls.length := (List.getElem?_eq_some_iff.mp hx).1
    have e2 : ((k.toNat : Nat) : Int) = k := by omega
    simp only [if_true, hl, hx, Option.map_some, e2, nk, List.mem_cons_self, if_false]
  · have ne : (j : Int) ≠ k := by omega
    simp only [e, if_false, List.mem_cons, ne, false_or]
/-- the laying behind a take -/
def flip (es : List Edge) (k : Int) (ls : List Int) : List Int := (flipL (nbr es k) ls).set k.toNat 2
/-- heads of a laying -/
def headsL (ls : List Int) : List Int := ((List.range ls.length).filter fun j => decide (ls[j]? = some 1)).map fun (j : Nat) => (j : Int)
/-- one take after another -/
def takeAll (es : List Edge) : List Int → List Int → Option (List Int)
  | ls, [] => some ls
  | ls, k :: ks => if ls[k.toNat]? = some 1 then takeAll es (flip es k ls) ks else none
/-! ### masks -/
def NearOk (n : Int) (es : List Edge) (ms : List Nat) : Prop := (ms.length : Int) = n ∧ ∀ (k m : Nat), ms[k]? = some m → m < 2 ^ 9 ∧ ∀ j : Nat, m.testBit j = adj es k j
def bitsOf (m : Nat) : List Int := ((List.range (Builtin.Int.intBits (m : Int))).filter fun j => m.testBit j).map fun (j : Nat) => (j : Int)
end DL
namespace DL
open PySem PySem.Spec PyProof.Rows L2
def betw (d : PyData) (lo hi : Int) : Bool := match d with
  | .int i => decide (lo ≤ i ∧ i ≤ hi)
  | _ => false
def tupOf (d : PyData) (n : Int) : Bool := match d with
  | .tuple xs => decide ((xs.length : Int) = n)
  | _ => false
instance (p q : Edge) : Decidable (lexLe p q) := by unfold lexLe; infer_instance
theorem nn_none : isNoneD .none = true := rfl
theorem nn_int (i : Int) : isNoneD (.int i) = false := rfl
theorem nn_tup (xs : List PyData) : isNoneD (.tuple xs) = false := rfl
end DL
/-! DL: masks, takes. -/
namespace DL
open PySem PySem.Spec PyProof.Rows L2
theorem filt_true {α : Type} (xs : List α) : xs.filter (fun _ => true) = xs := List.filter_eq_self.mpr fun _ _ => rfl
theorem or_nat (m k : Nat) : Builtin.bitOr (m : Int) (1 * 2 ^ ((k : Int)).toNat) = ((m ||| 2 ^ k : Nat) : Int) := by
  rw [show (1 * 2 ^ ((k : Int)).toNat : Int) = ((2 ^ k : Nat) : Int) by rw [Int.toNat_natCast, Int.one_mul]; exact (Int.natCast_pow 2 k).symm]
  rw [Bits.bitOr_pp (Int.natCast_nonneg _) (Int.natCast_nonneg _), Int.toNat_natCast, Int.toNat_natCast]
theorem bit_nat (m j : Nat) : Builtin.bitAnd ((m : Int) / 2 ^ ((j : Int)).toNat) 1 = ((m / 2 ^ j % 2 : Nat) : Int) := by
  rw [Int.toNat_natCast, show ((m : Int) / 2 ^ j) = ((m / 2 ^ j : Nat) : Int) by rw [Int.natCast_ediv]; congr 1]
  rw [bitAnd_pp (Int.natCast_nonneg _) (by decide), Int.toNat_natCast]
  show ((m / 2 ^ j &&& 1 : Nat) : Int) = _
  rw [Nat.and_one_is_mod]
theorem bit_test (m j : Nat) : (((m / 2 ^ j % 2 : Nat) : Int) != 0) = m.testBit j := by
  rw [Nat.testBit_eq_decide_div_mod_eq]
  have h : m / 2 ^ j % 2 = 0 ∨ m / 2 ^ j % 2 = 1 := by omega
  rcases h with h | h <;> rw [h] <;> rfl
theorem bits_lt {m j : Nat} (h : m.testBit j = true) : j < Builtin.Int.intBits (m : Int) := by
  unfold Builtin.Int.intBits
  by_cases h0 : m = 0
  · subst h0; simp at h
  · have : ((m : Int) == 0) = false := by simpa using h0
    rw [this]
    show j < (m : Int).natAbs.log2 + 1
    rw [Int.natAbs_natCast]
    apply Nat.lt_of_not_le
    intro hle
    have h2 : m < 2 ^ (m.log2 + 1) := Nat.lt_log2_self
    have : m < 2 ^ j := Nat.lt_of_lt_of_le h2 (Nat.pow_le_pow_right (by decide) hle)
    rw [Nat.testBit_lt_two_pow this] at h
    cases h
theorem mem_bitsOf {m : Nat} {j : Int} : j ∈ bitsOf m ↔ 0 ≤ j ∧ m.testBit j.toNat = true := by
  unfold bitsOf
  rw [List.mem_map]
  constructor
  · rintro ⟨i, h, rfl⟩
    have := (List.mem_filter.mp h).2
    exact ⟨by omega, by rw [Int.toNat_natCast]; exact this⟩
  · rintro ⟨h0, h1⟩
    exact ⟨j.toNat, List.mem_filter.mpr ⟨List.mem_range.mpr (bits_lt h1), h1⟩, by omega⟩
/-- masks of the edges that are done -/
def NearDone (n : Int) (done : List Edge) (ms : List Nat) : Prop := (ms.length : Int) = n ∧ ∀ (k m : Nat), ms[k]? = some m → m < 2 ^ 9 ∧ ∀ j : Nat, m.testBit j = adj done k j
theorem set_same {α : Type} {xs : List α} {i : Nat} {x : α} (h : xs[i]? = some x) : xs.set i x = xs := by
  apply List.ext_getElem?
  intro j
  rw [List.getElem?_set]
  by_cases e : i = j
  · subst e; rw [if_pos rfl, if_pos (List.getElem?_eq_some_iff.mp h).1, h]
  · rw [if_neg e]
/-- turning coin by coin: what stands of the list, what is still to do -/
structure Flips (n : Int) (ls fin : List Int) (ks cur : List Int) : Prop where
  nd : ks.Nodup
  rng : ∀ i ∈ ks, 0 ≤ i ∧ i < n ∧ cur[i.toNat]? = ls[i.toNat]?
  len : cur.length = ls.length
  fin : flipL ks cur = fin
theorem Flips.step {n : Int} {ls fin ks cur : List Int} {i x : Int} (F : Flips n ls fin (i :: ks) cur) (hx : ls[i.toNat]? = some x) : Flips n ls fin ks (cur.set i.toNat (flip1 x)) := by
  obtain ⟨h1, h2⟩ := List.nodup_cons.mp F.nd
  obtain ⟨g1, g2, g3⟩ := F.rng i List.mem_cons_self
  refine ⟨h2, fun j hj => ?_, by rw [List.length_set]; exact F.len, ?_⟩
  · obtain ⟨k1, k2, k3⟩ := F.rng j (List.mem_cons_of_mem _ hj)
    refine ⟨k1, k2, ?_⟩
    have : i ≠ j := fun e => h1 (by rw [e]; exact hj)
    rw [List.getElem?_set_ne (by omega)]
    exact k3
  · rw [flipL_cons g1 h1 (by rw [g3]; exact hx)]
    exact F.fin
theorem Flips.skip {n : Int} {ls fin ks cur : List Int} {i : Int} (F : Flips n ls fin (i :: ks) cur) (hx : ls[i.toNat]? = some 2) : Flips n ls fin ks cur := by
  have := F.step hx
  rwa [show flip1 2 = 2 from rfl, set_same (by rw [(F.rng i List.mem_cons_self).2.2]; exact hx)] at this
theorem Flips.done {n : Int} {ls fin cur : List Int} (F : Flips n ls fin [] cur) : cur = fin := by
  have := F.fin
  rwa [flipL_nil] at this
end DL
namespace DL
open PySem PySem.Spec PyProof.Rows L2
theorem cut_to {ds : List PyData} {a : Nat} (h : a ≤ ds.length) : cutD ds none (some (a : Int)) = ds.take a := by
  unfold cutD
  rw [HT.sIx_none, HT.sIx_nat, Nat.min_eq_left h]; rfl
theorem cut_from {ds : List PyData} {a : Nat} (h : a < ds.length) : cutD ds (some ((a : Int) + 1)) none = ds.drop (a + 1) := by
  unfold cutD
  rw [HT.sIx_none, show ((a : Int) + 1) = ((a + 1 : Nat) : Int) from rfl, HT.sIx_nat, Nat.min_eq_left (by omega)]
  exact List.take_of_length_le (by rw [List.length_drop]; omega)
/-- one out of the rest, to the found ones -/
structure OrdSt (n : Int) (left found : List Int) : Prop where
  nd : (left ++ found).Nodup
  rng : ∀ k ∈ left ++ found, 0 ≤ k ∧ k < n
  len : (left.length + found.length : Int) = n
theorem OrdSt.init {n : Int} (h : 0 ≤ n) : OrdSt n ((List.range n.toNat).map fun (k : Nat) => (k : Int)) [] := by
  refine ⟨?_, fun k hk => ?_, by simp; omega⟩
  · rw [List.append_nil]
    exact nd_map (fun a _ b _ e => by omega) List.nodup_range
  · rw [List.append_nil] at hk
    obtain ⟨j, hj, rfl⟩ := List.mem_map.mp hk
    have := List.mem_range.mp hj
    omega
theorem OrdSt.step {n : Int} {left found : List Int} (O : OrdSt n left found) {a : Nat} (h : a < left.length) : OrdSt n (left.take a ++ left.drop (a + 1)) (found ++ [left[a]]) := by
  have e : left = left.take a ++ left[a] :: left.drop (a + 1) := by
    rw [← List.drop_eq_getElem_cons h, List.take_append_drop]
  have p : ((left.take a ++ left.drop (a + 1)) ++ (found ++ [left[a]])).Perm (left ++ found) := by
    have p1 : (left.take a ++ left.drop (a + 1) ++ [left[a]]).Perm left := by
      conv => rhs; rw [e]
      rw [List.append_assoc]
      exact List.Perm.append_left _ (List.perm_append_comm (l₁ := left.drop (a + 1)) (l₂ := [left[a]]))
    have p2 : ((left.take a ++ left.drop (a + 1)) ++ (found ++ [left[a]])).Perm ((left.take a ++ left.drop (a + 1)) ++ ([left[a]] ++ found)) := List.Perm.append_left _ List.perm_append_comm
    refine p2.trans ?_
    rw [← List.append_assoc]
    exact List.Perm.append_right _ p1
  refine ⟨p.symm.nodup O.nd, fun k hk => O.rng k (p.mem_iff.mp hk), ?_⟩
  have := p.length_eq
  simp only [List.length_append] at this
  have := O.len
  rw [List.length_append, List.length_append] at *
  omega
end DL
namespace DL
open PySem PySem.Spec PyProof.Rows L2
/-- the edges as a dict's keys -/
structure EdgesOk (n : Int) (ks : List Edge) : Prop where
  nd : ks.Nodup
  ed : ∀ p ∈ ks, 0 ≤ p.1 ∧ p.1 < p.2 ∧ p.2 < n
theorem EdgesOk.len {n : Int} {ks : List Edge} (W : EdgesOk n ks) (h9 : n ≤ 9) : ks.length ≤ 100 := by
  have sub : ks ⊆ ((List.range 10).flatMap fun (i : Nat) => (List.range 10).map fun (j : Nat) => ((i : Int), (j : Int))) := fun p hp => by
    obtain ⟨h1, h2, h3⟩ := W.ed p hp
    refine List.mem_flatMap.mpr ⟨p.1.toNat, List.mem_range.mpr (by omega), List.mem_map.mpr ⟨p.2.toNat, List.mem_range.mpr (by omega), ?_⟩⟩
    exact Prod.ext (by show ((p.1.toNat : Nat) : Int) = p.1; omega) (by show ((p.2.toNat : Nat) : Int) = p.2; omega)
  exact List.Nodup.length_le_of_subset W.nd sub
def DicSt (n : Int) (kvs : List (List Key × PyData)) : Prop := ∃ ks : List Edge, kvs.map (·.1) = ks.map pk ∧ EdgesOk n ks
theorem DicSt.nil (n : Int) : DicSt n [] := ⟨[], rfl, List.nodup_nil, fun p h => nomatch h⟩
theorem DicSt.len {n : Int} {kvs : List (List Key × PyData)} (D : DicSt n kvs) (h9 : n ≤ 9) : kvs.length < sizeLine := by
  obtain ⟨ks, h1, h2⟩ := D
  have := congrArg List.length h1
  rw [List.length_map, List.length_map] at this
  have := h2.len h9
  unfold sizeLine
  omega
theorem DicSt.put {n : Int} {kvs : List (List Key × PyData)} (D : DicSt n kvs) {p : Edge} (v : PyData) (hp : 0 ≤ p.1 ∧ p.1 < p.2 ∧ p.2 < n) : DicSt n (putD kvs (pk p) v) := by
  obtain ⟨ks, h1, h2⟩ := D
  unfold putD
  split
  · refine ⟨ks, ?_, h2⟩
    rw [← h1, List.map_map]
    apply List.map_congr_left
    intro kv _
    show (if kv.1 = pk p then (kv.1, v) else kv).1 = kv.1
    split <;> rfl
  · rename_i hn
    refine ⟨ks ++ [p], by rw [List.map_append, List.map_append, h1]; rfl, ?_, fun q hq => ?_⟩
    · refine List.nodup_append.mpr ⟨h2.nd, by simp, fun a ha b hb => ?_⟩
      have : b = p := by simpa using hb
      subst this
      rintro rfl
      apply hn
      have : pk a ∈ kvs.map (·.1) := by rw [h1]; exact List.mem_map.mpr ⟨a, ha, rfl⟩
      obtain ⟨kv, m1, m2⟩ := List.mem_map.mp this
      exact List.any_eq_true.mpr ⟨kv, m1, decide_eq_true m2⟩
    · rcases List.mem_append.mp hq with h | h
      · exact h2.ed q h
      · have : q = p := by simpa using h
        subst this; exact hp
theorem DicSt.web {n : Int} {kvs : List (List Key × PyData)} {ks ys : List Edge} (h1 : 1 ≤ n) (h9 : n ≤ 9) (E : EdgesOk n ks) (hp : ys.Perm ks) (hs : ys.Pairwise lexLe) : WebOk n ys := by
  have nd : ys.Nodup := hp.symm.nodup E.nd
  refine ⟨h1, h9, fun p h => E.ed p (hp.mem_iff.mp h), ?_⟩
  refine (List.Pairwise.and hs nd).imp fun {a b} ⟨h, ne⟩ => ?_
  unfold lexLe at h
  unfold lexLt
  rcases h with h | ⟨h, h2⟩
  · exact .inl h
  · refine .inr ⟨h, ?_⟩
    have : a.2 ≠ b.2 := fun e => ne (Prod.ext h e)
    omega
/-- what the law's answer is compared with -/
def flatD (d : PyData) : Prop := (∃ i, d = .int i) ∨ d = .none ∨ ∃ b, d = .bool b
theorem fn_no {P : Program} {w : World} {K : PySem.W.Frag} {mg : Str → Option Value} {base : Heap} {x : Str} {st : Stmt} {ps : List Str} {n : Nat} (D : Def K mg x st ps) : Fn P w K mg base 0 x (spD K n fun _ _ => False) := by
  obtain ⟨f, fd, F, hm, hb⟩ := D.ex
  refine ⟨f, fd, ps, ⟨fun vs H Q E h => ?_, fun A outer s H args us vs Q E hr he hbb hv h => ?_⟩, hm, F.kp, hb⟩
  · obtain ⟨_, _, _, _, _, _, h, _⟩ := h; exact h.elim
  · obtain ⟨_, _, _, _, _, _, h, _⟩ := h; exact h.elim
end DL
namespace DL
open PySem PySem.Spec PyProof.Rows L2
def sdLaw : SD := fun ds q => ∃ ns : List Int, ds = [.list (ns.map .int)] ∧ ns.length ≤ 63 ∧ q = fun d => d = .bool true
theorem canL : ∀ ns : List Int, PyData.canLayAll0 (ns.map PyData.int) = true
  | [] => rfl
  | _ :: r => by simp [PyData.canLayAll0, PyData.canLay0, canL r]
theorem depL : ∀ ns : List Int, PyData.depthAll (ns.map PyData.int) = 0
  | [] => rfl
  | _ :: r => by simp [PyData.depthAll, PyData.depth, depL r]
end DL
namespace L2
open PySem PySem.Spec PyProof.Rows
section
variable {X : Cx}
end
end L2
/-! DL: parts of tuples, tuples over and over, is not True. -/
namespace DL
open PySem PySem.Spec PyProof.Rows L2
section
variable {X : Cx} {e a b c tg iter : Expr} {es : List Expr} {pos : Pos} {t ta tb tc : TDE}
theorem cut_whole {α : Type} {xs : List α} {lo hi : Option Int} (h : HT.sIx xs.length 0 lo = 0 ∧ HT.sIx xs.length xs.length hi = xs.length) : (xs.drop (HT.sIx xs.length 0 lo)).take (HT.sIx xs.length xs.length hi - HT.sIx xs.length 0 lo) = xs := by
  rw [h.1, h.2, List.drop_zero, Nat.sub_zero, List.take_length]
/-- sorted(t), t a tuple of ints -/
def rSortTup (K : PySem.W.Frag) : List V → Hp → VK → Prop := fun vs H Q => ∃ (a : Addr) (ns : List Int), vs = [V.ref a] ∧ SqT K H a (ns.map V.int) ∧
  ∀ (ns' : List Int) (p : Addr), ns'.Perm ns → ns'.Pairwise (· ≤ ·) → H p = none → Q (.ref p) (upd H p (.lst (ns'.map V.int)))
/-- t[lo:hi] of a tuple -/
theorem de_sliceT {lo hi : Option Expr} {p2 : Pos} {tl th : DEnv → (Option Int → Prop) → Prop} (ha : DE X a ta) (hl : DO X lo tl) (hh : DO X hi th) : DE X (.Subscript a (.Slice lo hi none p2) pos) (fun ρ q => ta ρ fun d ρ1 => tl ρ1 fun l => th ρ1 fun u => match d with
    | .tuple ds => q (.tuple (cutD ds l u)) ρ1
    | _ => False) := by
  obtain ⟨pa, ha, qa⟩ := ha.ex
  obtain ⟨pl, hl, ql⟩ := hl.ex
  obtain ⟨ph, hh, qh⟩ := hh.ex
  refine ⟨_, pe_slice sl_tupA ha hl hh, fun C σ H ρ q Q E h k => ?_⟩
  refine qa C σ H ρ _ _ E h fun x H1 d ρ1 E1 s1 B1 h1 => ?_
  refine ql C σ H1 ρ1 _ _ E1 h1 fun l H2 E2 s2 h2 => ?_
  refine qh C σ H2 ρ1 _ _ E2 h2 fun u H3 E3 s3 h3 => ?_
  cases d with
  | tuple ds =>
    have h3 : q (.tuple (cutD ds l u)) ρ1 := h3
    have B3 := Dp.le (s2.trans s3).vis B1
    obtain ⟨a0, vs, rfl, sq, D⟩ := Dp.tup_of B3
    refine ⟨a0, vs, rfl, SqT.le hide_Le sq, fun hw => ?_, fun _ p hp => ?_⟩
    · have e : cutD ds l u = ds := by
        unfold cutD
        rw [DpAll.length D] at hw
        exact cut_whole hw
      rw [e] at h3
      exact k _ H3 _ ρ1 E3 (s1.trans (s2.trans s3)) B3 h3
    · have l4 : Le H3 (upd H3 p (.tup (cutV vs l u))) := .upd hp
      have np : p ∉ hs C ρ1 := fun z => by obtain ⟨o, e, _⟩ := E3.hid z; rw [hp] at e; cases e
      refine k _ _ _ ρ1 (E3.le l4) ((s1.trans (s2.trans s3)).trans (.le l4)) (.tup (?_) (DpAll.le (hide_le l4) (DpAll.cut D l u))) h3
      rw [hide_out np]; exact upd_same
  | _ => exact h3.elim
end
end DL
/-! DL: orders of all places, the layings that they clear. -/
namespace DL
open PySem PySem.Spec PyProof.Rows L2
theorem adj_symm {es : List Edge} {a b : Int} : adj es a b = adj es b a := Bool.or_comm _ _
/-- the neighbours of p that stand in S -/
def segN (es : List Edge) (S : List Int) (p : Int) : Nat := ((nbr es p).filter fun x => decide (x ∈ S)).length
theorem segN_congr {es : List Edge} {S S' : List Int} {p : Int} (h : ∀ x, x ∈ S ↔ x ∈ S') : segN es S p = segN es S' p := by
  unfold segN
  congr 2
  funext x
  exact decide_eq_decide.mpr (h x)
theorem segN_cons {n : Int} {es : List Edge} (W : WebOk n es) {S : List Int} {P p : Int} (h : P ∉ S) : segN es (P :: S) p = segN es S p + if adj es p P = true then 1 else 0 := by
  unfold segN
  have key : ∀ l : List Int, l.Nodup → (l.filter fun x => decide (x ∈ P :: S)).length = (l.filter fun x => decide (x ∈ S)).length + if P ∈ l then 1 else 0 := by
    intro l
    induction l with
    | nil => intro _; rfl
    | cons a l ih =>
      intro nd
      obtain ⟨n1, n2⟩ := List.nodup_cons.mp nd
      have ih := ih n2
      by_cases ha : a = P
      · subst ha
        rw [List.filter_cons_of_pos (by simp), List.filter_cons_of_neg (by simpa using h), List.length_cons, ih, if_neg n1, if_pos List.mem_cons_self]
      · have hm : (P ∈ a :: l) ↔ P ∈ l := by simp [show ¬ P = a from fun e => ha e.symm]
        by_cases hs' : a ∈ S
        · rw [List.filter_cons_of_pos (by simp [hs']), List.filter_cons_of_pos (by simpa using hs'), List.length_cons, List.length_cons, ih]
          simp only [hm]
          omega
        · rw [List.filter_cons_of_neg (by simp [ha, hs']), List.filter_cons_of_neg (by simpa using hs'), ih]
          simp only [hm]
  rw [key _ (nbr_nodup W p)]
  congr 1
  have : (P ∈ nbr es p) = (adj es p P = true) := propext mem_nbr
  simp only [this]
/-- a coin turned c times -/
def parC (c : Nat) (x : Int) : Int := if c % 2 = 0 then x else 1 - x
theorem parC_succ (c : Nat) (x : Int) : parC (c + 1) x = 1 - parC c x := by
  unfold parC
  by_cases h : c % 2 = 0
  · rw [if_pos h, if_neg (by omega)]
  · rw [if_neg h, if_pos (by omega)]; omega
theorem parC_val {c : Nat} {x : Int} (h : x = 0 ∨ x = 1) : parC c x = 0 ∨ parC c x = 1 := by
  unfold parC
  split <;> omega
theorem flip1_par {c : Nat} {x : Int} (h : x = 0 ∨ x = 1) : flip1 (parC c x) = parC (c + 1) x := by
  unfold flip1
  have := parC_val (c := c) h
  rw [if_neg (by omega), parC_succ]
structure OrdOk (n : Int) (ks : List Int) : Prop where
  nd : ks.Nodup
  len : (ks.length : Int) = n
  rng : ∀ k ∈ ks, 0 ≤ k ∧ k < n
theorem OrdOk.all {n : Int} {ks : List Int} (O : OrdOk n ks) {p : Int} (h0 : 0 ≤ p) (h1 : p < n) : p ∈ ks := by
  apply Classical.byContradiction
  intro hp
  have nd : (p :: ks).Nodup := List.nodup_cons.mpr ⟨hp, O.nd⟩
  have sub : (p :: ks) ⊆ (List.range n.toNat).map fun (k : Nat) => (k : Int) := fun x hx => by
    have : 0 ≤ x ∧ x < n := by
      rcases List.mem_cons.mp hx with rfl | h
      · exact ⟨h0, h1⟩
      · exact O.rng x h
    exact List.mem_map.mpr ⟨x.toNat, List.mem_range.mpr (by omega), by omega⟩
  have := List.Nodup.length_le_of_subset nd sub
  rw [List.length_map, List.length_range, List.length_cons] at this
  have := O.len
  omega
theorem idx_at {ks : List Int} (nd : ks.Nodup) {i : Nat} (h : i < ks.length) : ks.idxOf ks[i] = i := nd.idxOf_getElem i h
/-- the laying that an order clears -/
def layOf (n : Int) (es : List Edge) (ks : List Int) : List Int := (List.range n.toNat).map fun (p : Nat) => parC (segN es (ks.take (ks.idxOf (p : Int))) p) 1
structure Full (n : Int) (ls : List Int) : Prop where
  len : (ls.length : Int) = n
  val : ∀ x ∈ ls, x = 0 ∨ x = 1
theorem Full.bD {n : Int} {ls : List Int} (F : Full n ls) : bD ls = lD ls := by
  unfold DL.bD lD
  congr 1
  apply List.map_congr_left
  intro x hx
  unfold cD
  rw [if_neg]
  rcases F.val x hx with h | h <;> omega
theorem map_range_get {α : Type} (f : Nat → α) (n j : Nat) : ((List.range n).map f)[j]? = if j < n then some (f j) else none := by
  rw [List.getElem?_map]
  by_cases h : j < n
  · rw [List.getElem?_range h, if_pos h]; rfl
  · rw [if_neg h, List.getElem?_eq_none (by rw [List.length_range]; omega)]; rfl
/-! ### forward -/
def fwd (n : Int) (es : List Edge) (ks : List Int) (i : Nat) : List Int := (List.range n.toNat).map fun (p : Nat) => if (p : Int) ∈ ks.take i then parC (segN es (ks.take (ks.idxOf (p : Int))) p) 1 else 0
end DL
/-! DL: orders, led back; takes along an order. -/
namespace DL
open PySem PySem.Spec PyProof.Rows L2
def bwd (n : Int) (es : List Edge) (ks : List Int) (a : Nat) : List Int := (List.range n.toNat).map fun (p : Nat) => if (p : Int) ∈ ks.drop a then parC (segN es ((ks.take (ks.idxOf (p : Int))).drop a) p) 1 else 0
/-! ### takes along an order -/
def stAt (n : Int) (es : List Edge) (ks ls : List Int) (i : Nat) : List Int := (List.range n.toNat).map fun (p : Nat) => if (p : Int) ∈ ks.take i then 2 else parC (segN es (ks.take i) p) (ls.getD p 0)
def fitB (n : Int) (es : List Edge) (ks ls : List Int) : Nat → Bool
  | 0 => true
  | i + 1 => fitB n es ks ls i && decide ((stAt n es ks ls i)[(ks.getD i 0).toNat]? = some 1)
/-- masks of places -/
def MaskOk (S : List Int) (m : Nat) : Prop := m < 2 ^ 9 ∧ ∀ j : Nat, m.testBit j = decide ((j : Int) ∈ S)
theorem eqv_ints : ∀ xs ys : List Int, PyData.eqvAll (xs.map .int) (ys.map .int) = decide (xs = ys)
  | [], [] => by simp [PyData.eqvAll]
  | [], _ :: _ => by simp [PyData.eqvAll]
  | _ :: _, [] => by simp [PyData.eqvAll]
  | a :: r, b :: t => by
    show (PyData.eqv (.int a) (.int b) && PyData.eqvAll (r.map .int) (t.map .int)) = _
    rw [eqv_int, eqv_ints r t]
    by_cases h : a = b <;> by_cases h' : r = t <;> simp [h, h']
theorem sh_lD (ns : List Int) : SeqAt.shaped (lD ns) = true := by
  unfold lD
  simp [SeqAt.shaped, PyData.canLay0, PyData.depth, canL, depL]
end DL
namespace DL
open PySem PySem.Spec PyProof.Rows L2
theorem range_step {d : PyData} {ds : List PyData} {m j : Nat} (h : d :: ds = (rangeD 0 m).drop j) : j < m ∧ d = .int (j : Int) ∧ ds = (rangeD 0 m).drop (j + 1) := by
  have hl : j < (rangeD 0 m).length := by
    apply Nat.lt_of_not_le
    intro h'
    rw [List.drop_eq_nil_of_le h'] at h
    cases h
  rw [List.drop_eq_getElem_cons hl] at h
  obtain ⟨h1, h2⟩ := List.cons.inj h
  have hm : j < m := by unfold rangeD at hl; simpa using hl
  refine ⟨hm, ?_, h2⟩
  rw [h1]
  unfold rangeD
  simp
theorem range_end {m j : Nat} (h : [] = (rangeD 0 m).drop j) : m ≤ j := by
  have := congrArg List.length h
  unfold rangeD at this
  simp at this
  omega
end DL
namespace DL
open PySem PySem.Spec PyProof.Rows L2
end DL
namespace DL
theorem ite_no {c : Prop} {d : Decidable c} {p q : Prop} (h : ¬ c) (hq : q) : @ite Prop c d p q := by
  rw [if_neg h]; exact hq
theorem ite_yes {c : Prop} {d : Decidable c} {p q : Prop} (h : c) (hp : p) : @ite Prop c d p q := by
  rw [if_pos h]; exact hp
end DL
/-! DL: three names at once, either a list or a tuple, tables over states. -/
namespace DL
open PySem PySem.Spec PyProof.Rows L2
section
variable {X : Cx} {e a b c tg iter : Expr} {es : List Expr} {pos : Pos} {t ta tb tc : TDE}
/-- x, y, z = a, b, c -/
def tdPar3 (i j l : Nat) (ta tb tc : TDE) : TDS := fun q ρ => ta ρ fun x ρ1 => tb ρ1 fun y ρ2 => tc ρ2 fun z ρ3 => q.nx (((ρ3.set i (.sh x)).set j (.sh y)).set l (.sh z))
end
end DL
namespace DL
open PySem PySem.Spec PyProof.Rows L2
theorem asc_filter {n : Nat} (p : Nat → Bool) : (((List.range n).filter p).map fun (j : Nat) => (j : Int)).Pairwise (· < ·) := by
  rw [List.pairwise_map]
  refine (List.Pairwise.filter _ List.pairwise_lt_range).imp fun {a b} h => by omega
theorem bitsOf_asc (m : Nat) : (bitsOf m).Pairwise (· < ·) := asc_filter _
theorem mem_headsL {ls : List Int} {x : Int} : x ∈ headsL ls ↔ 0 ≤ x ∧ ls[x.toNat]? = some 1 := by
  unfold headsL
  rw [List.mem_map]
  constructor
  · rintro ⟨j, h, rfl⟩
    exact ⟨by omega, by rw [Int.toNat_natCast]; exact of_decide_eq_true (List.mem_filter.mp h).2⟩
  · rintro ⟨h0, h1⟩
    exact ⟨x.toNat, List.mem_filter.mpr ⟨List.mem_range.mpr (List.getElem?_eq_some_iff.mp h1).1, decide_eq_true h1⟩, by omega⟩
/-! ### bits -/
theorem low_bit : ∀ s : Nat, 0 < s → ∃ k, s.testBit k = true ∧ ∀ j, (s &&& (s - 1)).testBit j = (s.testBit j && !decide (j = k)) := by
  intro s
  induction s using Nat.strongRecOn with
  | ind s ih =>
    intro hs
    by_cases h : s % 2 = 1
    · refine ⟨0, by rw [Nat.testBit_zero, h]; rfl, fun j => ?_⟩
      cases j with
      | zero =>
        rw [Nat.testBit_and, Nat.testBit_zero, Nat.testBit_zero, show (s - 1) % 2 = 0 by omega]
        simp
      | succ j =>
        rw [Nat.testBit_and, Nat.testBit_succ, Nat.testBit_succ, show (s - 1) / 2 = s / 2 by omega]
        simp
    · obtain ⟨k, h1, h2⟩ := ih (s / 2) (by omega) (by omega)
      refine ⟨k + 1, by rw [Nat.testBit_succ]; exact h1, fun j => ?_⟩
      cases j with
      | zero =>
        rw [Nat.testBit_and, Nat.testBit_zero, show s % 2 = 0 by omega]
        simp
      | succ j =>
        have := h2 j
        rw [Nat.testBit_and] at this ⊢
        rw [Nat.testBit_succ, Nat.testBit_succ, show (s - 1) / 2 = s / 2 - 1 by omega, this]
        simp
/-! ### the table of the coins that are turned -/
def rdyB (n : Int) (es : List Edge) (ls : List Int) (s j : Nat) : Bool := decide (j < n.toNat) && decide (parC (segN es (bitsOf s) j) (ls.getD j 0) = 1)
def TabOk (n : Int) (es : List Edge) (ls : List Int) (ts : List Nat) : Prop := ∀ (s m : Nat), ts[s]? = some m → m < 2 ^ 9 ∧ ∀ j : Nat, m.testBit j = rdyB n es ls s j
end DL
namespace DL
open PySem PySem.Spec PyProof.Rows L2
theorem range_stepL {d : PyData} {ds : List PyData} {lo : Int} {m j : Nat} (h : d :: ds = (rangeD lo m).drop j) : j < m ∧ d = .int (lo + (j : Int)) ∧ ds = (rangeD lo m).drop (j + 1) := by
  have hl : j < (rangeD lo m).length := by
    apply Nat.lt_of_not_le
    intro h'
    rw [List.drop_eq_nil_of_le h'] at h
    cases h
  rw [List.drop_eq_getElem_cons hl] at h
  obtain ⟨h1, h2⟩ := List.cons.inj h
  have hm : j < m := by unfold rangeD at hl; simpa using hl
  refine ⟨hm, ?_, h2⟩
  have e : (rangeD lo m)[j]? = some (.int (lo + (j : Int))) := by
    unfold rangeD
    rw [List.getElem?_map, List.getElem?_range hm]; rfl
  rw [List.getElem?_eq_getElem hl] at e
  rw [h1]; exact Option.some.inj e
structure StOk (n : Int) (S : List Int) : Prop where
  asc : S.Pairwise (· < ·)
  rng : ∀ k ∈ S, 0 ≤ k ∧ k < n
theorem StOk.len {n : Int} {S : List Int} (h : StOk n S) (h9 : n ≤ 9) : S.length ≤ 9 := by
  have nd : S.Nodup := h.asc.imp fun {a b} h => by omega
  have sub : S ⊆ (List.range 9).map fun (k : Nat) => (k : Int) := fun x hx => by
    have := h.rng x hx
    exact List.mem_map.mpr ⟨x.toNat, List.mem_range.mpr (by omega), by omega⟩
  have := List.Nodup.length_le_of_subset nd sub
  simpa using this
/-- the laying behind the takes of S -/
def behP (es : List Edge) (ls S : List Int) (p : Nat) : Int := if (p : Int) ∈ S then 2 else parC (segN es S p) (ls.getD p 0)
def behL (n : Int) (es : List Edge) (ls S : List Int) : List Int := (List.range n.toNat).map (behP es ls S)
theorem getD_val {n : Int} {ls : List Int} (F : Full n ls) {p : Nat} (h : p < n.toNat) : ls.getD p 0 = 0 ∨ ls.getD p 0 = 1 := by
  have hl := F.len
  have : p < ls.length := by omega
  rw [List.getD_eq_getElem?_getD, List.getElem?_eq_getElem this]
  exact F.val _ (List.getElem_mem this)
theorem mem_heads_beh {n : Int} {es : List Edge} {ls S : List Int} {x : Int} : x ∈ headsL (behL n es ls S) ↔ 0 ≤ x ∧ x < n ∧ behP es ls S x.toNat = 1 := by
  rw [mem_headsL]
  unfold behL
  rw [map_range_get]
  constructor
  · rintro ⟨h0, h1⟩
    split at h1
    · exact ⟨h0, by omega, Option.some.inj h1⟩
    · cases h1
  · rintro ⟨h0, h1, h2⟩
    exact ⟨h0, by rw [if_pos (by omega), h2]⟩
def RTab (n : Int) (es : List Edge) (ls : List Int) (rs : List Nat) : Prop := rs.length = 2 ^ n.toNat ∧ ∀ (s m : Nat), rs[s]? = some m → m < 2 ^ 9 ∧ ∀ j : Nat, m.testBit j = (rdyB n es ls s j && !s.testBit j)
end DL
namespace DL
open PySem PySem.Spec PyProof.Rows L2
section
variable {X : Cx} {e a b c tg iter : Expr} {es : List Expr} {pos : Pos} {t ta tb tc : TDE}
/-- x, y = new list of one's own, value -/
def tdParOS (i j : Nat) (ta : TDA) (tb : TDE) : TDS := fun q ρ => ta ρ fun ds ρ1 => tb ρ1 fun x ρ2 => ∀ m, m ∉ owns ρ2 → q.nx ((ρ2.set i (.own m ds)).set j (.sh x))
end
theorem atI_last {α : Type} (xs : List α) (x : α) : atI (xs ++ [x]) (-1) = some x := by
  have e : ixN (xs ++ [x]).length (-1) = some xs.length := by
    unfold ixN
    rw [if_neg (by decide), if_pos (by rw [List.length_append]; simp; omega)]
    congr 1
    rw [List.length_append]
    simp
    omega
  unfold atI
  rw [e]
  simp
theorem behL_congr {n : Int} {es : List Edge} {ls S S' : List Int} (h : ∀ x, x ∈ S ↔ x ∈ S') : behL n es ls S = behL n es ls S' := by
  unfold behL
  apply List.map_congr_left
  intro p _
  unfold behP
  rw [segN_congr h]
  simp only [h]
theorem behL_step {n : Int} {es : List Edge} {ls S : List Int} (W : WebOk n es) (F : Full n ls) {k : Int} (h0 : 0 ≤ k) (h1 : k < n) (hk : k ∉ S) : flip es k (behL n es ls S) = behL n es ls (S ++ [k]) := by
  have hl := F.len
  unfold flip
  apply List.ext_getElem?
  intro j
  rw [List.getElem?_set, flipL_length, flipL_get]
  unfold behL
  rw [map_range_get, map_range_get, List.length_map, List.length_range]
  by_cases e : k.toNat = j
  · subst e
    have e2 : ((k.toNat : Nat) : Int) = k := by omega
    rw [if_pos rfl, if_pos (by omega), if_pos (by omega)]
    unfold behP
    rw [e2, if_pos (by simp)]
  · rw [if_neg e]
    by_cases hj : j < n.toNat
    · rw [if_pos hj, if_pos hj, Option.map_some]
      congr 1
      have hv := getD_val F hj
      unfold behP
      by_cases hm : (j : Int) ∈ S
      · rw [if_pos hm, if_pos (List.mem_append_left _ hm)]
        split <;> rfl
      · have hm' : (j : Int) ∉ S ++ [k] := fun z => by
          rcases List.mem_append.mp z with z | z
          · exact hm z
          · have : (j : Int) = k := by simpa using z
            omega
        rw [if_neg hm, if_neg hm']
        have eS : segN es (S ++ [k]) j = segN es (k :: S) j := segN_congr fun x => by
          rw [List.mem_append, List.mem_singleton, List.mem_cons]; exact Or.comm
        rw [eS, segN_cons W hk]
        by_cases ha : adj es j k = true
        · rw [if_pos ha, if_pos (mem_nbr.mpr (by rw [adj_symm]; exact ha))]
          exact flip1_par hv
        · rw [if_neg ha, if_neg (fun z => ha (by rw [adj_symm]; exact mem_nbr.mp z))]
          rfl
    · rw [if_neg hj, if_neg hj]; rfl
end DL
namespace DL
open PySem PySem.Spec PyProof.Rows L2
end DL
/-! DL: not in, sorted pairs. -/
namespace DL
open PySem PySem.Spec PyProof.Rows L2
section
variable {X : Cx} {e a b c tg iter : Expr} {es : List Expr} {pos : Pos} {t ta tb tc : TDE}
end
end DL
namespace L2
open PySem PySem.Spec PyProof.Rows
section
variable {X : Cx}
def rExtL (K : PySem.W.Frag) : V → List V → Hp → VK → Prop := fun x vs H Q => ∃ l b xs zs, x = .ref l ∧ vs = [.ref b] ∧ H l = some (.lst xs) ∧ SqL K H b zs ∧ xs.length + zs.length ≤ sizeLine ∧ Q .non (upd H l (.lst (xs ++ zs)))
end
end L2
namespace DL
open PySem PySem.Spec PyProof.Rows L2
section
variable {X : Cx} {e a b c tg iter : Expr} {es : List Expr} {pos : Pos} {t ta tb tc : TDE}
/-- xs.extend(e), e a list that stands already -/
def tdExtendE (i : Nat) (t : TDE) : TDS := fun q ρ => match ρ[i]? with
  | some (.own _ _) => t ρ fun d ρ1 => match ρ1[i]?, d with
    | some (.own a ds), .list es => ds.length + es.length ≤ sizeLine ∧ q.nx (ρ1.set i (.own a (ds ++ es)))
    | _, _ => False
  | _ => False
end
end DL
namespace DL
open PySem PySem.Spec PyProof.Rows L2
/-- the pair of ints that an address of the heap holds -/
def heapPair (h : Heap) : V → Int × Int
  | .ref t => match h.get? t with
    | some o => match o.data with
      | .seq arr _ => match arr.toList with
        | [.int i _, .int j _] => (i, j)
        | _ => (0, 0)
      | _ => (0, 0)
    | none => (0, 0)
  | _ => (0, 0)
def rSortPairs (K : PySem.W.Frag) : List V → Hp → VK → Prop := fun vs H Q => ∃ (a : Addr) (xs : List V) (ps : List (Int × Int)), vs = [.ref a] ∧ SqL K H a xs ∧ DpAll K H xs (ps.map pD) ∧
  ∀ (zs : List (V × (Int × Int))) (l : Addr), zs.Perm (xs.zip ps) → (zs.map (·.2)).Pairwise lexLe → H l = none → Q (.ref l) (upd H l (.lst (zs.map (·.1))))
section
variable {X : Cx}
end
end DL
/-! DL: reversed(range(..)). -/
namespace DL
open PySem PySem.Spec PyProof.Rows L2
section
variable {X : Cx} {e a b c tg iter : Expr} {es : List Expr} {pos : Pos} {t ta tb tc : TDE}
/-- n - 1, n - 2, .., 0 -/
def revD (n : Nat) : List PyData := (List.range n).map fun (k : Nat) => PyData.int ((n : Int) - 1 - (k : Int))
def tiRev (t : TDE) : TDA := fun ρ q => t ρ fun d ρ1 => match d with
  | .int n => (-(2 ^ 62) ≤ n ∧ n < 2 ^ 62) ∧ q (revD n.toNat) ρ1
  | _ => False
end
end DL
/-! DL: what takes leave as even as it was; tables over states, by numbers. -/
namespace DL
open PySem PySem.Spec PyProof.Rows L2
/-! ### sums -/
theorem sum_add {α : Type} (f g : α → Nat) : ∀ l : List α, (l.map fun x => f x + g x).sum = (l.map f).sum + (l.map g).sum
  | [] => rfl
  | x :: l => by simp only [List.map_cons, List.sum_cons, sum_add f g l]; omega
theorem sum_zero {α : Type} (f : α → Nat) : ∀ l : List α, (∀ x ∈ l, f x = 0) → (l.map f).sum = 0
  | [], _ => rfl
  | x :: l, h => by
    have h1 := h x List.mem_cons_self
    have h2 := sum_zero f l fun y hy => h y (List.mem_cons_of_mem _ hy)
    simp only [List.map_cons, List.sum_cons]; omega
theorem sum_congr {α : Type} (f g : α → Nat) (l : List α) (h : ∀ x ∈ l, f x = g x) : (l.map f).sum = (l.map g).sum := by
  rw [List.map_congr_left h]
theorem sum_one {a v : Nat} : ∀ n : Nat, a < n → ((List.range n).map fun p => if p = a then v else 0).sum = v
  | 0, h => by omega
  | n + 1, h => by
    rw [List.range_succ, List.map_append, List.sum_append]
    simp only [List.map_cons, List.map_nil, List.sum_cons, List.sum_nil]
    by_cases e : n = a
    · rw [if_pos e, sum_zero _ _ fun x hx => if_neg (by have := List.mem_range.mp hx; omega)]; omega
    · rw [if_neg e, sum_one n (by omega)]; omega
/-! ### how even heads, coins and edges are -/
def upN (c : Int) : Nat := if c = 1 then 1 else 0
def cnN (c : Int) : Nat := if c = 2 then 0 else 1
def gc (ls : List Int) (p : Nat) : Int := ls.getD p 2
def esN (es : List Edge) (ls : List Int) : Nat := (es.map fun e => cnN (gc ls e.1.toNat) * cnN (gc ls e.2.toNat)).sum
def totN (es : List Edge) (ls : List Int) : Nat := (ls.map upN).sum + (ls.map cnN).sum + esN es ls
theorem flip_gc {es : List Edge} {k : Nat} {ls : List Int} {p : Nat} (h : p < ls.length) : gc (flip es k ls) p = if p = k then 2 else if adj es k p = true then flip1 (gc ls p) else gc ls p := by
  have hg : ls[p]? = some ls[p] := List.getElem?_eq_getElem h
  have e : gc ls p = ls[p] := by unfold gc; rw [List.getD_eq_getElem?_getD, hg]; rfl
  rw [e]
  unfold gc flip
  rw [List.getD_eq_getElem?_getD, Int.toNat_natCast, List.getElem?_set, flipL_length]
  by_cases hk : p = k
  · subst hk
    rw [if_pos rfl, if_pos h, if_pos rfl]; rfl
  · rw [if_neg (fun z => hk z.symm), if_neg hk, flipL_get, hg]
    by_cases ha : adj es k p = true
    · rw [if_pos ha]
      simp only [Option.map_some, Option.getD_some]
      rw [if_pos (mem_nbr.mpr ha)]
    · rw [if_neg ha]
      simp only [Option.map_some, Option.getD_some]
      rw [if_neg (fun z => ha (mem_nbr.mp z))]
theorem gc_of {ls : List Int} {k : Nat} {x : Int} (h : ls[k]? = some x) : gc ls k = x := by
  unfold gc; rw [List.getD_eq_getElem?_getD, h]; rfl
/-! ### states as numbers -/
def stB (n : Int) (es : List Edge) (ls : List Int) (s : Nat) : List Int := behL n es ls (bitsOf s)
theorem bits_or {s k : Nat} (x : Int) : x ∈ bitsOf (s ||| 2 ^ k) ↔ x ∈ bitsOf s ++ [(k : Int)] := by
  rw [List.mem_append, List.mem_singleton, mem_bitsOf, mem_bitsOf, Nat.testBit_or, Nat.testBit_two_pow, Bool.or_eq_true, decide_eq_true_eq]
  constructor
  · rintro ⟨h, h1 | h1⟩
    · exact .inl ⟨h, h1⟩
    · exact .inr (by omega)
  · rintro (⟨h, h1⟩ | h)
    · exact ⟨h, .inl h1⟩
    · exact ⟨by omega, .inr (by omega)⟩
theorem stB_step {n : Int} {es : List Edge} {ls : List Int} (W : WebOk n es) (F : Full n ls) {s k : Nat} (hk : (k : Int) < n) (hb : s.testBit k = false) : flip es k (stB n es ls s) = stB n es ls (s ||| 2 ^ k) := by
  unfold stB
  rw [behL_step W F (by omega) hk (fun z => by have := (mem_bitsOf.mp z).2; rw [Int.toNat_natCast, hb] at this; cases this)]
  exact behL_congr fun x => (bits_or x).symm
theorem stB_head {n : Int} {es : List Edge} {ls : List Int} {s : Nat} {k : Int} (h : k ∈ headsL (stB n es ls s)) : 0 ≤ k ∧ k < n ∧ s.testBit k.toNat = false ∧ (stB n es ls s)[k.toNat]? = some 1 := by
  obtain ⟨h0, h1, h2⟩ := mem_heads_beh.mp h
  refine ⟨h0, h1, ?_, (mem_headsL.mp h).2⟩
  cases q : s.testBit k.toNat with
  | false => rfl
  | true =>
    unfold behP at h2
    rw [if_pos (mem_bitsOf.mpr ⟨by omega, by rw [Int.toNat_natCast]; exact q⟩)] at h2
    cases h2
/-- the sum at each turn -/
theorem or_lt {n : Int} {s k : Nat} (hs : s < 2 ^ n.toNat) (hk : (k : Int) < n) : s ||| 2 ^ k < 2 ^ n.toNat :=
  Nat.or_lt_two_pow hs ((Nat.pow_lt_pow_iff_right (by decide)).mpr (by omega))
end DL
/-! DL: how many ways there are to take coins, one behind another; which. -/
namespace DL
open PySem PySem.Spec PyProof.Rows L2
/-- how many ways there are to take m coins, one behind another -/
def cnt (es : List Edge) : Nat → List Int → Nat
  | 0, _ => 1
  | m + 1, h => ((headsL h).map fun k => cnt es m (flip es k h)).sum
/-- the table of the ways on: each is the sum over the takes -/
def OnOk (n : Int) (es : List Edge) (ls : List Int) (on : List Nat) : Prop :=
  on.length = 2 ^ n.toNat ∧ on[2 ^ n.toNat - 1]? = some 1 ∧ ∀ s, s + 1 < 2 ^ n.toNat → on[s]? = some (((headsL (stB n es ls s)).map fun k => on.getD (s ||| 2 ^ k.toNat) 0).sum)
/-! ### all ways to take, one behind another -/
def seqs (es : List Edge) : Nat → List Int → List (List Int × List Int)
  | 0, h => [([], h)]
  | m + 1, h => (seqs es m h).flatMap fun r => (headsL r.2).map fun k => (r.1 ++ [k], flip es k r.2)
/-- how many orders begin so, as the table tells it -/
def begun (es : List Edge) (n : Int) (ls P : List Int) : Nat := match takeAll es ls P with | some h' => cnt es (n.toNat - P.length) h' | none => 0
end DL
/-! DL: sorted lists of any data; what stands in lists and tuples of any data; len(set(..)). -/
namespace DL
open PySem PySem.Spec PyProof.Rows L2
/-! ### sorted(xs), xs any data -/
/-- tuples, the first of them with no item -/
def FirstNil (ds : List PyData) : Prop := ∃ r, ds = .tuple [] :: r ∧ ∀ d ∈ r, ∃ xs, d = .tuple xs
section
variable {prog : Program} {w : World} {A : Around} {E : Value → Shared → Prop} {s : Shared}
end
def rSortData (K : PySem.W.Frag) (u : Nat) : List V → Hp → VK → Prop := fun vs H Q => ∃ (a : Addr) (xs : List V) (ds : List PyData), vs = [V.ref a] ∧ SqL K H a xs ∧ L2.DpAll K H xs ds ∧ PySem.W.AllAlike ds ∧
  (PySem.W.Sortable ds ∨ ((ds.length ≤ 1 ∨ FirstNil ds) ∧ ∀ d ∈ ds, d ≠ .none)) ∧ (∀ d ∈ ds, u + 2 + d.depth < cLine) ∧
  ∀ (zs : List (V × PyData)) (l : Addr), zs = (xs.zip ds).mergeSort (PySem.W.dataLe false (·.2)) → H l = none → Q (.ref l) (upd H l (.lst (zs.map (·.1))))
section
variable {X : Cx} {e a b c tg iter : Expr} {es : List Expr} {pos : Pos} {t ta tb tc : TDE}
/-- sorted(xs) of tuples of ints -/
abbrev tI (x : List Int) : PyData := .tuple (x.map .int)
/-! ### x in xs, any data -/
theorem eqv_tI (xs ys : List Int) : PyData.eqv (tI xs) (tI ys) = decide (xs = ys) := eqv_ints xs ys
/-! ### len(set(t)), t a tuple of ints -/
def nubN (ns : List Int) : Nat := ns.eraseDups.length
end
end DL
namespace DL
open PySem PySem.Spec PyProof.Rows L2
def isIntD (d : PyData) : Bool := match d with
  | .int _ => true
  | _ => false
end DL
/-! DL: the table of the ways to each state. -/
namespace DL
open PySem PySem.Spec PyProof.Rows L2
def hdB (n : Int) (es : List Edge) (ls : List Int) (s p : Nat) : Bool := decide ((p : Int) ∈ headsL (stB n es ls s))
def toS (n : Int) (cur : List Nat) (A : Nat → Nat → Bool) (t : Nat) : Nat := (if t = 0 then 1 else 0) + ((List.range n.toNat).map fun p => if (t.testBit p && A (t ^^^ 2 ^ p) p) = true then cur.getD (t ^^^ 2 ^ p) 0 else 0).sum
def actB (n : Int) (es : List Edge) (ls : List Int) (i : Nat) (D : List Int) (s p : Nat) : Bool := hdB n es ls s p && (decide (s < i) || (decide (s = i) && decide ((p : Int) ∈ D)))
structure ToSt (n : Int) (es : List Edge) (ls : List Int) (i : Nat) (D : List Int) (cur : List Nat) : Prop where
  len : cur.length = 2 ^ n.toNat
  eq : ∀ t, t < 2 ^ n.toNat → cur.getD t 0 = toS n cur (actB n es ls i D) t
structure ToOk (n : Int) (es : List Edge) (ls : List Int) (to : List Nat) : Prop where
  len : to.length = 2 ^ n.toNat
  eq : ∀ t, t < 2 ^ n.toNat → to.getD t 0 = toS n to (hdB n es ls) t
theorem xor_lt {t p : Nat} (h : t.testBit p = true) : t ^^^ 2 ^ p < t := by
  have e : t &&& (t ^^^ 2 ^ p) = t ^^^ 2 ^ p := by
    apply Nat.eq_of_testBit_eq
    intro j
    rw [Nat.testBit_and, Nat.testBit_xor]
    by_cases q : p = j
    · subst q; rw [Nat.testBit_two_pow_self, h]; rfl
    · rw [Nat.testBit_two_pow_of_ne q]; cases t.testBit j <;> rfl
  have le : t ^^^ 2 ^ p ≤ t := by rw [← e]; exact Nat.and_le_left
  have ne : t ^^^ 2 ^ p ≠ t := fun z => by
    have : (t ^^^ 2 ^ p).testBit p = t.testBit p := congrArg (fun x => x.testBit p) z
    rw [Nat.testBit_xor, Nat.testBit_two_pow_self, h] at this
    cases this
  omega
section
variable {n : Int} {es : List Edge} {ls : List Int}
end
end DL
namespace DL
open PySem PySem.Spec PyProof.Rows L2
section
variable {X : Cx}
/-- sum(xs), xs a list or a tuple of ints -/
theorem cr_sum2 (hc : X.calm = true) : CallR X (.builtin "sum") (fun vs H Q => ∃ (a : Addr) (ns : List Int), vs = [V.ref a] ∧ (SqL X.K H a (ns.map V.int) ∨ SqT X.K H a (ns.map V.int)) ∧ Q (.int ns.sum) H) := by
  intro pins s σ H vs us Q I r h
  obtain ⟨a, ns, rfl, hs | hs, q⟩ := h
  · obtain ⟨its, rv, hl, _⟩ := I.list hs
    rw [Vals.ref1 r]
    exact sum_raw (I.ok.hd hc) hl.isList rv.ints fun h' tk t' hk => ⟨.int _, H, I.kept hk, ⟨_, rfl⟩, q⟩
  · obtain ⟨its, rv, hl, _⟩ := I.tuple hs
    rw [Vals.ref1 r]
    have hi : IntsAre its ns := rv.ints
    obtain ⟨xs, e⟩ := hi.allInts.items
    have hn : numsOf (intItems xs).toList = ns := by rw [← e]; exact hi.numsOf
    rw [nums_intItems] at hn
    rw [e] at hl
    refine PySem.W.ktm_sumG (I.ok.hd hc) hl fun h' tk t' hk => ?_
    rw [preSum_eq, List.take_of_length_le (by simp), hn]
    exact ⟨.int _, H, I.kept hk, ⟨_, rfl⟩, q⟩
theorem l1_sum2 : L1 X (fun vs H Q => ∃ (a : Addr) (ns : List Int), vs = [V.ref a] ∧ (SqL X.K H a (ns.map V.int) ∨ SqT X.K H a (ns.map V.int)) ∧ Q (.int ns.sum) H) (fun d q => match d with
    | .list ds => ∃ ns : List Int, ds = List.map PyData.int ns ∧ q (.int ns.sum)
    | .tuple ds => ∃ ns : List Int, ds = List.map PyData.int ns ∧ q (.int ns.sum)
    | _ => False) := by
  intro C σ ρ H v d qd Q E B w k
  cases d with
  | list ds =>
    obtain ⟨a, vs, rfl, s, D⟩ := B.list
    obtain ⟨ns, rfl, w⟩ := w
    cases DpAll.ints D
    exact ⟨a, ns, rfl, .inl s, k _ H _ .rfl (.int _) w⟩
  | tuple ds =>
    obtain ⟨a, vs, rfl, s, D⟩ := B.tup
    obtain ⟨ns, rfl, w⟩ := w
    cases DpAll.ints D
    exact ⟨a, ns, rfl, .inr s, k _ H _ .rfl (.int _) w⟩
  | _ => exact False.elim w
end
end DL
namespace DL
open PySem PySem.Spec PyProof.Rows L2
end DL
namespace DL
open PySem PySem.Spec PyProof.Rows L2
end DL
namespace DL
open PySem PySem.Spec PyProof.Rows L2
theorem sh_tI (x : List Int) : SeqAt.shaped (tI x) = true := sh_lD x
end DL
namespace DL
open PySem PySem.Spec PyProof.Rows L2
end DL
/-! DL: tuples joined; the table of the ways on, filled from its end. -/
namespace DL
open PySem PySem.Spec PyProof.Rows L2
section
variable {X : Cx}
theorem l_addT : LOp X (binaryOp .Add) (fun x y q => match x, y with
    | .int i, .int j => q (.int (i + j))
    | .tuple ds, .tuple es => ds.length + es.length ≤ sizeLine ∧ q (.tuple (ds ++ es))
    | _, _ => False) := by
  obtain ⟨r1, o1, h1⟩ := (l_add : LOp X (binaryOp .Add) (rI0 fun i j => .int (i + j)))
  refine ⟨fun x y H Q => r1 x y H Q ∨ rCatA X.K x y H Q, fun pins s σ H x y v u Q I rx ry h => ?_, ?_⟩
  · rcases h with h | h
    · exact o1 pins s σ H x y v u Q I rx ry h
    · exact op_catA pins s σ H x y v u Q I rx ry h
  · intro as H x y dx dy qd Q ex Dx Dy w k
    cases dx with
    | int i => cases dy with
      | int j => exact .inl (h1 as H x y _ _ qd Q ex Dx Dy w k)
      | _ => exact False.elim w
    | tuple ds => cases dy with
      | tuple es =>
        obtain ⟨a, vs, rfl, s, D⟩ := Dp.tup_of Dx
        obtain ⟨b, ws, rfl, s', D'⟩ := Dp.tup_of Dy
        have l1 := DpAll.length D
        have l2 := DpAll.length D'
        obtain ⟨w1, w2⟩ := w
        refine .inr ⟨a, b, vs, ws, rfl, rfl, SqT.le hide_Le s, SqT.le hide_Le s', by omega, fun e => ?_, fun _ e => ?_, fun _ _ p hp => ?_⟩
        · subst e
          have : ds = [] := List.length_eq_zero_iff.mp l1.symm
          subst this
          exact k _ H _ .rfl Dy w2
        · subst e
          have : es = [] := List.length_eq_zero_iff.mp l2.symm
          subst this
          rw [List.append_nil] at w2
          exact k _ H _ .rfl Dx w2
        · have l4 : Le H (upd H p (.tup (vs ++ ws))) := .upd hp
          have np : p ∉ as := fun z => by obtain ⟨o, e, _⟩ := ex p z; rw [hp] at e; cases e
          refine k _ _ _ l4 (.tup (?_) (DpAll.le (hide_le l4) (DpAll.append D D'))) w2
          rw [hide_out np]; exact upd_same
      | _ => exact False.elim w
    | _ => exact False.elim w
end
/-- the table, filled down to state i -/
structure OnSt (n : Int) (es : List Edge) (ls : List Int) (i : Nat) (cur : List Nat) : Prop where
  len : cur.length = 2 ^ n.toNat
  last : cur[2 ^ n.toNat - 1]? = some 1
  eq : ∀ s, i ≤ s → s + 1 < 2 ^ n.toNat → cur[s]? = some (((headsL (stB n es ls s)).map fun k => cur.getD (s ||| 2 ^ k.toNat) 0).sum)
section
variable {n : Int} {es : List Edge} {ls : List Int}
end
/-- what the law keeps of a way to take: the places, the laying behind them -/
def rD (r : List Int × List Int) : PyData := .tuple [tI r.1, lD r.2]
end DL
namespace DL
open PySem PySem.Spec PyProof.Rows L2
end DL
namespace DL
open PySem PySem.Spec PyProof.Rows L2
def nxt (es : List Edge) (r : List Int × List Int) : List (List Int × List Int) := (headsL r.2).map fun k => (r.1 ++ [k], flip es k r.2)
end DL
namespace DL
open PySem PySem.Spec PyProof.Rows L2
/-- all orders that clear, as the law lists them -/
def ords (es : List Edge) (n : Int) (ls : List Int) : List (List Int) := (seqs es n.toNat ls).map (·.1)
end DL
/-! DL: the orders in their row; numbers of orders; ratios. -/
namespace DL
open PySem PySem.Spec PyProof.Rows L2
def oS (es : List Edge) (m : Nat) (h : List Int) : List (List Int) := (seqs es m h).map (·.1)
/-- the number of an order among those that can be taken -/
def numO (es : List Edge) : List Int → List Int → Nat
  | _, [] => 0
  | h, k :: P => (((headsL h).filter fun j => decide (j < k)).map fun j => cnt es P.length (flip es j h)).sum + numO es (flip es k h) P
/-! ### ratios -/
def nrm (a b : Nat) : Nat × Nat := (a / Nat.gcd a b, b / Nat.gcd a b)
def rtD (p : Nat × Nat) : PyData := .tuple [.int (p.1 : Nat), .int (p.2 : Nat)]
end DL
namespace DL
open PySem PySem.Spec PyProof.Rows L2
section
variable {X : Cx} {a b : Expr} {pos : Pos}
end
end DL
namespace DL
open PySem PySem.Spec PyProof.Rows L2
/-- how many of the ways on from a state begin with a place -/
def cAt (n : Int) (es : List Edge) (ls S : List Int) (k : Nat) : Nat := if (k : Int) ∈ headsL (behL n es ls S) then cnt es (n.toNat - S.length - 1) (flip es k (behL n es ls S)) else 0
end DL
namespace DL
open PySem PySem.Spec PyProof.Rows L2
end DL
namespace DL
open PySem PySem.Spec PyProof.Rows L2
def fac : Nat → Nat
  | 0 => 1
  | m + 1 => (m + 1) * fac m
section
variable {n : Int} {es : List Edge} {ls P : List Int}
end
end DL
/-! DL: the next order; tuples beside one another; an item's place in a list. -/
namespace DL
open PySem PySem.Spec PyProof.Rows L2
section
variable {X : Cx} {a b : Expr} {ta tb : TDE}
end
/-! ### the next order -/
def nxO (es : List Edge) (h P : List Int) : Option (List Int) := ((oS es P.length h).filter fun r => decide (P < r)).head?
def grO (es : List Edge) (h : List Int) (p : Int) (m : Nat) : Option (List Int) := ((headsL h).filter fun k => decide (p < k) && decide (0 < cnt es m (flip es k h))).head?.bind fun k => (oS es m (flip es k h)).head?.map fun r => k :: r
def oD : Option (List Int) → PyData
  | none => .none
  | some P => tI P
end DL
namespace DL
end DL
namespace DL
open PySem PySem.Spec PyProof.Rows L2
end DL
/-! DL: what is reached from a place; parts; forests; sides. -/
namespace DL
open PySem PySem.Spec PyProof.Rows L2
/-! ### what is reached -/
inductive Rch (R : Int → Int → Prop) : Int → Int → Prop
  | refl (x : Int) : Rch R x x
  | step {x y z : Int} : Rch R x y → R y z → Rch R x z
section
variable {R R' : Int → Int → Prop}
theorem Rch.trans {x y z : Int} (h : Rch R x y) (h2 : Rch R y z) : Rch R x z := by
  induction h2 with
  | refl => exact h
  | step _ r ih => exact .step ih r
theorem Rch.symm (hs : ∀ x y, R x y → R y x) {x y : Int} (h : Rch R x y) : Rch R y x := by
  induction h with
  | refl => exact .refl _
  | step _ r ih => exact Rch.trans (.step (.refl _) (hs _ _ r)) ih
theorem Rch.mono (hm : ∀ x y, R x y → R' x y) {x y : Int} (h : Rch R x y) : Rch R' x y := by
  induction h with
  | refl => exact .refl _
  | step _ r ih => exact .step ih (hm _ _ r)
end
def Con (es : List Edge) : Int → Int → Prop := Rch fun x y => adj es x y = true
theorem Con.symm {es : List Edge} {x y : Int} (h : Con es x y) : Con es y x := Rch.symm (fun _ _ h => by rw [adj_symm]; exact h) h
theorem Con.sub {es es' : List Edge} (hm : ∀ e ∈ es, e ∈ es') {x y : Int} (h : Con es x y) : Con es' x y := Rch.mono (fun a b h => by
  rcases adj_iff.mp h with h | h
  · exact adj_iff.mpr (.inl (hm _ h))
  · exact adj_iff.mpr (.inr (hm _ h))) h
def plc (n : Int) : List Int := (List.range n.toNat).map fun (k : Nat) => (k : Int)
theorem mem_plc {n x : Int} : x ∈ plc n ↔ 0 ≤ x ∧ x < n := by
  unfold plc
  rw [List.mem_map]
  constructor
  · rintro ⟨k, hk, rfl⟩
    have := List.mem_range.mp hk
    omega
  · rintro ⟨h0, h1⟩
    exact ⟨x.toNat, List.mem_range.mpr (by omega), by omega⟩
theorem plc_asc (n : Int) : (plc n).Pairwise (· < ·) := by
  have := asc_filter (n := n.toNat) fun _ => true
  rwa [filt_true] at this
theorem plc_nd (n : Int) : (plc n).Nodup := (plc_asc n).imp fun {a b} h => by omega
theorem plc_len (n : Int) : (plc n).length = n.toNat := by unfold plc; rw [List.length_map, List.length_range]
open Classical in
noncomputable def dec (P : Prop) : Bool := decide P
theorem dec_iff {P : Prop} : dec P = true ↔ P := by
  unfold dec
  exact @decide_eq_true_iff P (Classical.propDecidable P)
theorem dec_not {P : Prop} (h : ¬ P) : dec P = false := Bool.eq_false_iff.mpr fun z => h (dec_iff.mp z)
def Rep (es : List Edge) (p : Int) : Prop := ∀ r, 0 ≤ r → r < p → ¬ Con es r p
noncomputable def reps (n : Int) (es : List Edge) : List Int := (plc n).filter fun p => dec (Rep es p)
structure FEs (n : Int) (es : List Edge) : Prop where
  nd : es.Nodup
  rng : ∀ e ∈ es, 0 ≤ e.1 ∧ e.1 < e.2 ∧ e.2 < n
  br : ∀ e ∈ es, ¬ Con (es.filter fun z => decide (z ≠ e)) e.1 e.2
theorem ne_self {α : Type} [DecidableEq α] {e : α} {l : List α} (h : e ∉ l) : l.filter (fun z => decide (z ≠ e)) = l :=
  List.filter_eq_self.mpr fun z hz => decide_eq_true (show z ≠ e from fun q => h (by rw [← q]; exact hz))
theorem FEs.sub {n : Int} {es es' : List Edge} (F : FEs n es) (nd : es'.Nodup) (h : ∀ e ∈ es', e ∈ es) : FEs n es' :=
  ⟨nd, fun e he => F.rng e (h e he), fun e he c => F.br e (h e he) (c.sub fun z hz => by
    obtain ⟨z1, z2⟩ := List.mem_filter.mp hz
    exact List.mem_filter.mpr ⟨h z z1, z2⟩)⟩
theorem FEs.tail {n : Int} {e : Edge} {es : List Edge} (F : FEs n (e :: es)) : FEs n es ∧ ¬ Con es e.1 e.2 := by
  obtain ⟨h1, h2⟩ := List.nodup_cons.mp F.nd
  refine ⟨F.sub h2 fun z hz => List.mem_cons_of_mem _ hz, fun c => F.br e List.mem_cons_self ?_⟩
  rw [List.filter_cons_of_neg (by simp), ne_self h1]
  exact c
/-- the places of a set, the edges within -/
noncomputable def setL (n : Int) (S : Int → Prop) : List Int := (plc n).filter fun x => dec (S x)
noncomputable def inE (es : List Edge) (S : Int → Prop) : List Edge := es.filter fun e => dec (S e.1 ∧ S e.2)
end DL
namespace DL
open PySem PySem.Spec PyProof.Rows L2
/-- what is reached from a place, without some -/
def Bar (es : List Edge) (b : Nat) (x y : Int) : Prop := adj es x y = true ∧ b.testBit y.toNat = false
noncomputable def compL (n : Int) (es : List Edge) (p : Int) : List Int := (plc n).filter fun x => dec (Con es p x)
/-- what is fresh -/
def freshN (m f b : Nat) : Nat := (m ^^^ (m &&& f)) ^^^ ((m ^^^ (m &&& f)) &&& b)
end DL
/-! DL: a dict that remembers answers, given from call to call. -/
namespace DL
open PySem PySem.Spec PyProof.Rows L2
theorem keyI_inj : ∀ {a b : List Int}, keyI a = keyI b → a = b
  | [], [], _ => rfl
  | [], _ :: _, h => nomatch h
  | _ :: _, [], h => nomatch h
  | x :: a, y :: b, h => by
    obtain ⟨h1, h2⟩ := List.cons.inj (show Sum.inl x :: keyI a = Sum.inl y :: keyI b from h)
    cases h1
    rw [keyI_inj h2]
def memV (kvs : List (List Int × V × PyData)) : List (List Key × V) := kvs.map fun t => (keyI t.1, t.2.1)
def memPut (kvs : List (List Int × V × PyData)) (k : List Int) (v : V) (d : PyData) : List (List Int × V × PyData) :=
  if k ∈ kvs.map (·.1) then kvs.map fun t => if t.1 = k then (t.1, v, d) else t else kvs ++ [(k, v, d)]
theorem memPut_V (kvs : List (List Int × V × PyData)) (k : List Int) (v : V) (d : PyData) : putK (memV kvs) (keyI k) v = memV (memPut kvs k v d) := by
  have ha : ((memV kvs).any fun kv => decide (kv.1 = keyI k)) = decide (k ∈ kvs.map (·.1)) := by
    apply Bool.eq_iff_iff.mpr
    rw [List.any_eq_true, decide_eq_true_eq, List.mem_map]
    unfold memV
    constructor
    · rintro ⟨x, hx, e⟩
      obtain ⟨t, ht, rfl⟩ := List.mem_map.mp hx
      exact ⟨t, ht, keyI_inj (of_decide_eq_true e)⟩
    · rintro ⟨t, ht, rfl⟩
      exact ⟨_, List.mem_map.mpr ⟨t, ht, rfl⟩, decide_eq_true rfl⟩
  unfold putK memPut
  rw [ha]
  by_cases q : k ∈ kvs.map (·.1)
  · rw [if_pos (decide_eq_true q), if_pos q]
    unfold memV
    rw [List.map_map, List.map_map]
    apply List.map_congr_left
    intro t _
    simp only [Function.comp]
    by_cases e : t.1 = k
    · rw [if_pos (by rw [e]), if_pos e]
    · rw [if_neg (fun z => e (keyI_inj z)), if_neg e]
  · rw [if_neg (by simpa using q), if_neg q]
    unfold memV
    rw [List.map_append]
    rfl
theorem memPut_keys {kvs : List (List Int × V × PyData)} {k : List Int} {v : V} {d : PyData} : (memPut kvs k v d).map (·.1) = if k ∈ kvs.map (·.1) then kvs.map (·.1) else kvs.map (·.1) ++ [k] := by
  unfold memPut
  by_cases q : k ∈ kvs.map (·.1)
  · rw [if_pos q, if_pos q, List.map_map]
    apply List.map_congr_left
    intro t _
    simp only [Function.comp]
    by_cases e : t.1 = k
    · rw [if_pos e]
    · rw [if_neg e]
  · rw [if_neg q, if_neg q, List.map_append]
    rfl
theorem MemOk.put {K : PySem.W.Frag} {hH H : Hp} {a : Addr} {f f' : List Int → PyData → Prop} {ks : List (List Int)} {kvs : List (List Int × V × PyData)} (h2 : ∀ t ∈ kvs, Dp K hH t.2.1 t.2.2 ∧ f t.1 t.2.2) (h3 : ∀ k ∈ ks, ∃ t ∈ kvs, t.1 = k) (h4 : (kvs.map (·.1)).Nodup) {k : List Int} {v : V} {d : PyData} (D : Dp K hH v d) (hff : ∀ k' z, k' ≠ k → f k' z → f' k' z) (hf : f' k d) :
    MemOk K hH (upd H a (.dT (putK (memV kvs) (keyI k) v))) a f' (k :: ks) := by
  refine ⟨memPut kvs k v d, by rw [upd_same, memPut_V kvs k v d]; rfl, fun t ht => ?_, fun k' hk' => ?_, ?_⟩
  · unfold memPut at ht
    by_cases q : k ∈ kvs.map (·.1)
    · rw [if_pos q] at ht
      obtain ⟨u, hu, rfl⟩ := List.mem_map.mp ht
      by_cases e : u.1 = k
      · rw [if_pos e]; exact ⟨D, by rw [e]; exact hf⟩
      · rw [if_neg e]; exact ⟨(h2 u hu).1, hff _ _ e (h2 u hu).2⟩
    · rw [if_neg q] at ht
      rcases List.mem_append.mp ht with z | z
      · exact ⟨(h2 t z).1, hff _ _ (fun e => q (List.mem_map.mpr ⟨t, z, e⟩)) (h2 t z).2⟩
      · rw [List.mem_singleton.mp z]; exact ⟨D, hf⟩
  · have : k' ∈ (memPut kvs k v d).map (·.1) := by
      rw [memPut_keys]
      rcases List.mem_cons.mp hk' with e | e
      · subst e
        by_cases q : k' ∈ kvs.map (·.1)
        · rw [if_pos q]; exact q
        · rw [if_neg q]; simp
      · obtain ⟨t, ht, rfl⟩ := h3 k' e
        have m : t.1 ∈ kvs.map (·.1) := List.mem_map.mpr ⟨t, ht, rfl⟩
        by_cases q : k ∈ kvs.map (·.1)
        · rw [if_pos q]; exact m
        · rw [if_neg q]; exact List.mem_append_left _ m
    obtain ⟨t, ht, e⟩ := List.mem_map.mp this
    exact ⟨t, ht, e⟩
  · rw [memPut_keys]
    by_cases q : k ∈ kvs.map (·.1)
    · rw [if_pos q]; exact h4
    · rw [if_neg q]
      exact List.nodup_append.mpr ⟨h4, by simp, fun x hx y hy e => q (by
        have : y = k := by simpa using hy
        rw [← this, ← e]; exact hx)⟩
section
variable {X : Cx} {e a b c tg iter : Expr} {es : List Expr} {pos : Pos} {t ta tb tc : TDE}
/-- key not in d, d a dict that remembers -/
def tdNotMem (i j : Nat) : TDT := fun ρ q => match ρ[i]?, ρ[j]? with
  | some (.mem a f ks), some (.sh (.tuple ds)) => ∃ k : List Int, ds = k.map PyData.int ∧ q true ρ ∧ q false (ρ.set i (.mem a f (k :: ks)))
  | _, _ => False
/-- d[key] -/
def tdMemGet (i j : Nat) : TDE := fun ρ q => match ρ[i]?, ρ[j]? with
  | some (.mem _ f ks), some (.sh (.tuple ds)) => ∃ k : List Int, ds = k.map PyData.int ∧ k ∈ ks ∧ ∀ z, f k z → q z ρ
  | _, _ => False
/-- d[key] = value -/
def tdMemPut (i j : Nat) (tv : TDE) : TDS := fun q ρ => tv ρ fun z ρ1 => match ρ1[i]?, ρ1[j]? with
  | some (.mem a f ks), some (.sh (.tuple ds)) => ∃ (k : List Int) (f' : List Int → PyData → Prop), ds = k.map PyData.int ∧ (∀ k' z', k' ≠ k → f k' z' → f' k' z') ∧ f' k z ∧ (∃ U : List (List Int), U.length < sizeLine ∧ ∀ k z, f k z → k ∈ U) ∧ q.nx (ρ1.set i (.mem a f' (k :: ks)))
  | _, _ => False
end
end DL
namespace DL
open PySem PySem.Spec PyProof.Rows L2
abbrev SDM := List PyData → (List Int → PyData → Prop) → (PyData → Prop) → Prop
/-- what a def promises that is given data and, last, a dict that remembers -/
def spM (K : PySem.W.Frag) (n : Nat) (sd : SDM) : Sp := fun vs H Q _ => vs.length = n + 1 ∧ ∃ (r : Addr) (ws : List V) (as : List Addr) (ds : List PyData) (f : List Int → PyData → Prop) (ks : List (List Int)) (q0 : PyData → Prop), vs = ws ++ [.ref r] ∧ r ∉ as ∧ (∀ a ∈ as, ∃ o, H a = some o ∧ ∀ xs, o ≠ HO.tup xs) ∧
  MemOk K (hide (as ++ [r]) H) H r f ks ∧ DpAll K (hide (as ++ [r]) H) ws ds ∧ sd ds f q0 ∧
  ∀ d, q0 d → ∀ v H', (∀ b o, b ≠ r → H b = some o → H' b = some o) → MemOk K (hide (as ++ [r]) H') H' r f ks → Dp K (hide (as ++ [r]) H') v d → Q v H'
def envM (N : List Str) (ds : List PyData) (r : Addr) (f : List Int → PyData → Prop) (ks : List (List Int)) : DEnv := ds.map Slot.sh ++ Slot.mem r f ks :: List.replicate (N.length - (ds.length + 1)) Slot.un
section
variable {X : Cx} {e a b c tg iter : Expr} {es : List Expr} {pos : Pos} {t ta tb tc : TDE}
/-- f(e1, e2, d), d a dict that remembers -/
def tdCallM (i : Nat) (sd : SDM) (ta tb : TDE) : TDE := fun ρ q => ta ρ fun d1 ρ1 => tb ρ1 fun d2 ρ2 => match ρ2[i]? with
  | some (.mem _ f _) => sd [d1, d2] f fun d => q d ρ2
  | _ => False
/-- name, name, name = value, value, {} : a dict that is to remember -/
def tdParSSM (i j l : Nat) (ta tb : TDE) : TDS := fun q ρ => ta ρ fun x ρ1 => tb ρ1 fun y ρ2 => ∀ m, m ∉ owns ρ2 → ∃ f, q.nx (((ρ2.set l (.mem m f [])).set i (.sh x)).set j (.sh y))
end
end DL
namespace DL
open PySem PySem.Spec PyProof.Rows L2
/-- how many coins lie -/
def coins (ls : List Int) : Nat := (ls.filter fun x => decide (x ≠ 2)).length
/-- all lists over 0, 1, 2 -/
def allL : Nat → List (List Int)
  | 0 => [[]]
  | n + 1 => (allL n).flatMap fun l => [0 :: l, 1 :: l, 2 :: l]
/-- what the counts of orders are remembered as -/
def cntRel (n : Int) (es : List Edge) : List Int → PyData → Prop := fun k z => LayOk n k ∧ z = .int (cnt es (coins k) k : Nat)
end DL
namespace DL
open PySem PySem.Spec PyProof.Rows L2
section
variable {X : Cx} {e a b c tg iter : Expr} {es : List Expr} {pos : Pos} {t ta tb tc : TDE}
end
end DL
namespace DL
open PySem PySem.Spec PyProof.Rows L2
section
variable {X : Cx}
/-- xs + ys, lists that nobody changes any more: a new one -/
def rCatL (K : PySem.W.Frag) : R2 := fun x y H Q => ∃ a b xs ys, x = V.ref a ∧ y = V.ref b ∧ SqL K H a xs ∧ SqL K H b ys ∧ xs.length + ys.length ≤ sizeLine ∧ ∀ p, H p = none → Q (.ref p) (upd H p (.lst (xs ++ ys)))
theorem op_catL : OpR X (binaryOp .Add) (rCatL X.K) := by
  intro pins s σ H x y v u Q I rx ry h
  obtain ⟨a, b, xs, ys, rfl, rfl, ha, hb, hz, q⟩ := h
  cases rx
  cases ry
  obtain ⟨its, r1, ⟨⟨cls, dd, data, sl⟩, n, ho, hc, _, hd⟩, _⟩ := I.list ha
  obtain ⟨its2, r2, ⟨⟨cls2, dd2, data2, sl2⟩, n2, ho2, hc2, _, hd2⟩, _⟩ := I.list hb
  simp only at hc hd hc2 hd2
  subst hc hd hc2 hd2
  have l1 := r1.length
  have l2 := r2.length
  have e : its.toArray ++ its2.toArray = (its ++ its2).toArray := by simp
  refine concat_meets ⟨_, ho, rfl⟩ ⟨_, ho2, rfl⟩ noFill_list_add seq_list_add PySem.F.slot_list_add PySem.F.entry_list_add (PySem.F.args_list_add_2 _ _) (list_addW a b its.toArray its2.toArray n n2 dd dd2 sl sl2 (by rw [List.size_toArray, List.size_toArray]; omega)) ⟨ho, ho2, ?_⟩
  rw [e]
  exact ⟨.ref _, _, I.lnew (t' := s.toks) (r1.append r2) (by rw [List.length_append]; omega), rfl, q _ I.fresh⟩
theorem l_addL : LOp X (binaryOp .Add) (fun x y q => match x, y with
    | .list ds, .list es => ds.length + es.length ≤ sizeLine ∧ q (.list (ds ++ es))
    | _, _ => False) := by
  refine ⟨rCatL X.K, op_catL, ?_⟩
  intro as H x y dx dy qd Q ex Dx Dy w k
  cases dx with
  | list ds => cases dy with
    | list es =>
      obtain ⟨a, vs, rfl, s, D⟩ := Dp.list_of Dx
      obtain ⟨b, ws, rfl, s', D'⟩ := Dp.list_of Dy
      have l1 := DpAll.length D
      have l2 := DpAll.length D'
      obtain ⟨w1, w2⟩ := w
      refine ⟨a, b, vs, ws, rfl, rfl, SqL.le hide_Le s, SqL.le hide_Le s', by omega, fun p hp => ?_⟩
      have l4 : Le H (upd H p (.lst (vs ++ ws))) := .upd hp
      have np : p ∉ as := fun z => by obtain ⟨o, e, _⟩ := ex p z; rw [hp] at e; cases e
      exact k _ _ _ l4 (.lst (SqL.of (by rw [hide_out np]; exact upd_same)) (DpAll.le (hide_le l4) (DpAll.append D D'))) w2
    | _ => exact False.elim w
  | _ => exact False.elim w
end
end DL
/-! DL: the worth of a laying for two hands; parts beside one another add without carry. -/
namespace DL
open PySem PySem.Spec PyProof.Rows L2
def mexN (l : List Nat) : Nat := ((List.range (l.length + 1)).find? fun x => decide (x ∉ l)).getD 0
/-- the worth of a laying -/
def wor (es : List Edge) : Nat → List Int → Nat
  | 0, _ => 0
  | m + 1, h => mexN ((headsL h).map fun k => wor es m (flip es k h))
def wrt (es : List Edge) (h : List Int) : Nat := wor es (coins h) h
/-- only the coins of some places -/
def resL (S : Int → Bool) (h : List Int) : List Int := h.mapIdx fun j x => if S (j : Int) = true then x else 2
end DL
namespace DL
open PySem PySem.Spec PyProof.Rows L2
/-! ### states of a laying with empty places -/
def behQ (es : List Edge) (ls S : List Int) (p : Nat) : Int := if ls.getD p 0 = 2 then 2 else behP es ls S p
def behG (n : Int) (es : List Edge) (ls S : List Int) : List Int := (List.range n.toNat).map (behQ es ls S)
section
variable {n : Int} {es : List Edge} {ls S : List Int}
end
def stG (n : Int) (es : List Edge) (ls : List Int) (s : Nat) : List Int := behG n es ls (bitsOf s)
end DL
namespace DL
open PySem PySem.Spec PyProof.Rows L2
/-! ### a laying with empty places as one with tails there -/
def noE (ls : List Int) : List Int := ls.map fun x => if x = 2 then 0 else x
def lyL (ls : List Int) : List Int := ((List.range ls.length).filter fun j => decide (ls[j]? ≠ some 2)).map fun (j : Nat) => (j : Int)
end DL
namespace DL
open PySem PySem.Spec PyProof.Rows L2
def WorOk (n : Int) (es : List Edge) (ls : List Int) (i : Nat) (cur : List Nat) : Prop := cur.length = 2 ^ n.toNat ∧ ∀ s : Nat, i ≤ s → s < 2 ^ n.toNat → cur[s]? = some (wrt es (stG n es ls s))
end DL
namespace DL
open PySem PySem.Spec PyProof.Rows L2
def worRel (n : Int) (es : List Edge) : List Int → PyData → Prop := fun k z => LayOk n k ∧ z = .int (wrt es k : Nat)
/-- sums without carry -/
def xorL (xs : List Nat) : Nat := xs.foldr (· ^^^ ·) 0
def apN (xs : List Nat) : Nat → Nat
  | 0 => 0
  | t + 1 => apN xs t + 2 ^ t * ((xs.map fun x => x / 2 ^ t).sum % 2)
def apX (X : Nat) : Nat → Nat
  | 0 => 0
  | t + 1 => apX X t + 2 ^ t * (X / 2 ^ t % 2)
end DL
namespace DL
open PySem PySem.Spec PyProof.Rows L2
section
variable {X : Cx} {e a b c tg iter : Expr} {es : List Expr} {pos : Pos} {t ta tb tc : TDE}
/-- a, b, c = value, value, {}: stored one after another from the tuple -/
def tdAsgSSM (i j l : Nat) (ta tb : TDE) : TDS := fun q ρ => ta ρ fun x ρ1 => tb ρ1 fun y ρ2 => ∀ m, m ∉ owns ρ2 → ∃ f, q.nx (((ρ2.set i (.sh x)).set j (.sh y)).set l (.mem m f []))
end
end DL
/-! DL: dicts as data. -/
namespace DL
open PySem PySem.Spec PyProof.Rows L2
/-- a dict whose keys are ints; one whose keys are tuples of ints -/
def dK (ks : List (Int × PyData)) : PyData := .dict (ks.map fun p => (.int p.1, p.2))
def dT (ks : List (List Int × PyData)) : PyData := .dict ((.none, .none) :: ks.map fun p => (tI p.1, p.2))
abbrev KI (ks : List (Int × PyData)) : List (Key × PyData) := ks.map fun p => (Sum.inl p.1, p.2)
abbrev KL (ks : List (List Int × PyData)) : List (List Key × PyData) := ks.map fun p => (keyI p.1, p.2)
theorem kD_inj {a b : Key} (h : kD a = kD b) : a = b := by
  cases a <;> cases b <;> unfold kD at h <;> first | (injection h with h; rw [h]) | cases h
theorem tD_keyI (k : List Int) : tD (keyI k) = tI k := by
  unfold tD keyI
  rw [List.map_map]; rfl
theorem kDs_inj : ∀ {a b : List Key}, a.map kD = b.map kD → a = b
  | [], [], _ => rfl
  | [], _ :: _, e => nomatch e
  | _ :: _, [], e => nomatch e
  | x :: xs, y :: ys, e => by
    rw [List.map_cons, List.map_cons] at e
    injection e with e1 e2
    rw [kD_inj e1, kDs_inj e2]
theorem tD_inj {a b : List Key} (h : tD a = tD b) : a = b := by
  unfold tD at h
  injection h with h
  exact kDs_inj h
def lk {κ : Type} [DecidableEq κ] (ks : List (κ × PyData)) (k : κ) : Option PyData := (ks.find? fun p => decide (p.1 = k)).map (·.2)
theorem Dp.dK_of {K : PySem.W.Frag} {H : Hp} {v : V} {ks : List (Int × PyData)} (h : Dp K H v (dK ks)) : ∃ (a : Addr) (o : Obj) (kvV : List (Key × V)), v = .ref a ∧ H a = some (.frz o (.dK kvV)) ∧ kvV.map (·.1) = ks.map (fun p => Sum.inl p.1) ∧ DpAll K H (kvV.map (·.2)) (ks.map (·.2)) := by
  have gen : ∀ d, Dp K H v d → d = dK ks → ∃ (a : Addr) (o : Obj) (kvV : List (Key × V)), v = .ref a ∧ H a = some (.frz o (.dK kvV)) ∧ kvV.map (·.1) = ks.map (fun p => Sum.inl p.1) ∧ DpAll K H (kvV.map (·.2)) (ks.map (·.2)) := by
    intro d h e
    cases h with
    | @dicK a o kvV kvs s hk D =>
      unfold dK at e
      injection e with e
      subst e
      refine ⟨a, o, kvV, rfl, s, ?_, ?_⟩
      · rw [List.map_map] at hk
        have : ∀ (l : List (Key × V)) (m : List (Int × PyData)), m.map ((·.1) ∘ fun p => ((PyData.int p.1, p.2) : PyData × PyData)) = l.map (fun p => kD p.1) → l.map (·.1) = m.map (fun p => Sum.inl p.1) := by
          intro l
          induction l with
          | nil => intro m e; cases m with
            | nil => rfl
            | cons _ _ => cases e
          | cons x l ih => intro m e; cases m with
            | nil => cases e
            | cons y m =>
              rw [List.map_cons, List.map_cons] at e
              injection e with e1 e2
              rw [List.map_cons, List.map_cons, ih m e2, kD_inj (a := x.1) (b := .inl y.1) e1.symm]
        exact this _ _ hk
      · rw [List.map_map] at D; exact D
    | @dicT a o kvV kvs s hk D =>
      unfold dK at e
      injection e with e
      cases ks with
      | nil => cases e
      | cons y m =>
        rw [List.map_cons] at e
        injection e with e1 e2
        injection e1 with e1 _
        cases e1
    | _ => cases e
  exact gen _ h rfl
theorem Dp.dT_of {K : PySem.W.Frag} {H : Hp} {v : V} {ks : List (List Int × PyData)} (h : Dp K H v (dT ks)) : ∃ (a : Addr) (o : Obj) (kvV : List (List Key × V)), v = .ref a ∧ H a = some (.frz o (.dT kvV)) ∧ kvV.map (·.1) = ks.map (fun p => keyI p.1) ∧ DpAll K H (kvV.map (·.2)) (ks.map (·.2)) := by
  have gen : ∀ d, Dp K H v d → d = dT ks → ∃ (a : Addr) (o : Obj) (kvV : List (List Key × V)), v = .ref a ∧ H a = some (.frz o (.dT kvV)) ∧ kvV.map (·.1) = ks.map (fun p => keyI p.1) ∧ DpAll K H (kvV.map (·.2)) (ks.map (·.2)) := by
    intro d h e
    cases h with
    | @dicT a o kvV kvs s hk D =>
      unfold dT at e
      injection e with e
      injection e with _ e
      subst e
      refine ⟨a, o, kvV, rfl, s, ?_, ?_⟩
      · rw [List.map_map] at hk
        have : ∀ (l : List (List Key × V)) (m : List (List Int × PyData)), m.map ((·.1) ∘ fun p => ((tI p.1, p.2) : PyData × PyData)) = l.map (fun p => tD p.1) → l.map (·.1) = m.map (fun p => keyI p.1) := by
          intro l
          induction l with
          | nil => intro m e; cases m with
            | nil => rfl
            | cons _ _ => cases e
          | cons x l ih => intro m e; cases m with
            | nil => cases e
            | cons y m =>
              rw [List.map_cons, List.map_cons] at e
              injection e with e1 e2
              rw [List.map_cons, List.map_cons, ih m e2, tD_inj (a := x.1) (b := keyI y.1) (by rw [tD_keyI]; exact e1.symm)]
        exact this _ _ hk
      · rw [List.map_map] at D; exact D
    | @dicK a o kvV kvs s hk D =>
      unfold dT at e
      injection e with e
      subst e
      cases kvV with
      | nil => cases hk
      | cons y m =>
        rw [List.map_cons, List.map_cons] at hk
        injection hk with e1 e2
        have : kD y.1 = PyData.none := e1.symm
        cases h : y.1 <;> rw [h] at this <;> cases this
    | _ => cases e
  exact gen _ h rfl
/-- the data of a dict that is read -/
inductive DDat where
  | K (ks : List (Int × PyData))
  | T (ks : List (List Int × PyData))
def DDat.d : DDat → PyData
  | .K ks => dK ks
  | .T ks => dT ks
def DDat.c : DDat → DCon
  | .K ks => .K (KI ks)
  | .T ks => .T (KL ks)
def DDat.len : DDat → Nat
  | .K ks => ks.length
  | .T ks => ks.length
/-- a dict that is read: shared, or this def's own -/
def DV (K : PySem.W.Frag) (C : Ctx) (ρ : DEnv) (H : Hp) (v : V) (c : DDat) : Prop := Dp K (hide (hs C ρ) H) v c.d ∨ ∃ (i : Nat) (a : Addr), v = .ref a ∧ ρ[i]? = some (.dic a c.c)
/-- what stands there -/
def DStand (K : PySem.W.Frag) (H : Hp) (hH : Hp) (a : Addr) : DDat → Prop
  | .K ks => ∃ kvV : List (Key × V), Rd H a (.dK kvV) ∧ kvV.map (·.1) = ks.map (fun p => Sum.inl p.1) ∧ DpAll K hH (kvV.map (·.2)) (ks.map (·.2))
  | .T ks => ∃ kvV : List (List Key × V), Rd H a (.dT kvV) ∧ kvV.map (·.1) = ks.map (fun p => keyI p.1) ∧ DpAll K hH (kvV.map (·.2)) (ks.map (·.2))
theorem DV.at {K : PySem.W.Frag} {C : Ctx} {ρ : DEnv} {H : Hp} {σ : L2.St} {v : V} {c : DDat} (E : EnvD C K H σ ρ) (B : DV K C ρ H v c) : ∃ a, v = .ref a ∧ DStand K H (hide (hs C ρ) H) a c := by
  rcases B with B | ⟨i, a, rfl, e⟩
  · cases c with
    | K ks => obtain ⟨a, o, kvV, rfl, h1, h2, h3⟩ := Dp.dK_of B; exact ⟨a, rfl, kvV, .inr ⟨o, (hide_some h1).2⟩, h2, h3⟩
    | T ks => obtain ⟨a, o, kvV, rfl, h1, h2, h3⟩ := Dp.dT_of B; exact ⟨a, rfl, kvV, .inr ⟨o, (hide_some h1).2⟩, h2, h3⟩
  · obtain ⟨_, h⟩ := E.dic_at e
    cases c with
    | K ks =>
      obtain ⟨kvV, h1, h2, h3⟩ := h
      rw [List.map_map] at h2 h3
      exact ⟨a, rfl, kvV, .inl h1, h2, h3⟩
    | T ks =>
      obtain ⟨kvV, h1, h2, h3⟩ := h
      rw [List.map_map] at h2 h3
      exact ⟨a, rfl, kvV, .inl h1, h2, h3⟩
abbrev TDD := DEnv → (DDat → DEnv → Prop) → Prop
structure DD (X : Cx) (e : Expr) (t : TDD) : Prop where
  ex : ∃ te, PE X e te ∧ ∀ C σ H ρ q Q, EnvD C X.K H σ ρ → t ρ q → (∀ v H' c ρ', EnvD C X.K H' σ ρ' → Step C ρ H ρ' H' → DV X.K C ρ' H' v c → q c ρ' → Q v H') → te σ H Q
section
variable {X : Cx} {e a b c tg iter o i : Expr} {es : List Expr} {pos : Pos} {t ta tb tc ti tx : TDE} {td : TDD}
def tdDV (i : Nat) : TDD := fun ρ q => match ρ[i]? with
  | some (.sh d) => ∃ c : DDat, d = c.d ∧ q c ρ
  | some (.dic _ c') => ∃ c : DDat, c' = c.c ∧ q c ρ
  | _ => False
/-- the value at a key -/
def lkD (c : DDat) (k : PyData) (r : Option PyData → Prop) : Prop := match c with
  | .K ks => ∃ i, k = .int i ∧ r (lk ks i)
  | .T ks => ∃ i, k = tI i ∧ r (lk ks i)
theorem DV.isD {K : PySem.W.Frag} {C : Ctx} {ρ : DEnv} {H : Hp} {σ : L2.St} {v : V} {c : DDat} (E : EnvD C K H σ ρ) (B : DV K C ρ H v c) : ∃ a, v = .ref a ∧ IsD H a := by
  obtain ⟨a, rfl, st⟩ := B.at E
  cases c with
  | K ks => obtain ⟨kvV, h1, _⟩ := st; exact ⟨a, rfl, .inl ⟨_, h1⟩⟩
  | T ks => obtain ⟨kvV, h1, _⟩ := st; exact ⟨a, rfl, .inr ⟨_, h1⟩⟩
end
end DL
/-! DL: dicts as data: changed, locked, walked. -/
namespace DL
open PySem PySem.Spec PyProof.Rows L2
section
variable {X : Cx} {e a b c tg iter o i : Expr} {es : List Expr} {pos : Pos} {t ta tb tc ti tx : TDE} {td : TDD}
/-! ### locked for good -/
def tFrz (t : TE) : TE := fun σ H Q => t σ H fun v H1 => ∃ d u, v = .ref d ∧ H1 d = some u ∧ Mut (some u) ∧ ∀ od, Q v (upd H1 d (.frz od u))
/-- a name that stands for a dict, as data -/
def tdShD (i : Nat) : TDE := fun ρ q => match ρ[i]? with
  | some (.sh d) => q d ρ
  | some (.dic _ c') => ∃ c : DDat, c' = c.c ∧ q c.d (ρ.set i (.sh c.d))
  | _ => False
/-! ### changed -/
/-- name = {} -/
def tdNewD (i : Nat) : TDS := fun q ρ => (∀ m, m ∉ owns ρ → q.nx (ρ.set i (.dic m (.K [])))) ∨ (∀ m, m ∉ owns ρ → q.nx (ρ.set i (.dic m (.T []))))
/-- d[k] = value -/
def tdDPut (i : Nat) (tk tv : TDE) : TDS := fun q ρ => tv ρ fun d ρ1 => match ρ1[i]? with
  | some (.dic _ (.K _)) => tk ρ1 fun k ρ2 => match ρ2[i]? with
    | some (.dic a (.K kvs)) => ∃ j : Int, k = .int j ∧ kvs.length < sizeLine ∧ q.nx (ρ2.set i (.dic a (.K (putD kvs (.inl j) d))))
    | _ => False
  | some (.dic _ (.T _)) => tk ρ1 fun k ρ2 => match ρ2[i]? with
    | some (.dic a (.T kvs)) => ∃ j : List Int, k = tI j ∧ kvs.length < sizeLine ∧ q.nx (ρ2.set i (.dic a (.T (putD kvs (keyI j) d))))
    | _ => False
  | _ => False
theorem lk_nil {κ : Type} [DecidableEq κ] (k : κ) : lk ([] : List (κ × PyData)) k = none := rfl
theorem lk_cons {κ : Type} [DecidableEq κ] (p : κ × PyData) (ks : List (κ × PyData)) (k : κ) : lk (p :: ks) k = if p.1 = k then some p.2 else lk ks k := by
  unfold lk
  by_cases h : p.1 = k
  · rw [List.find?_cons_of_pos (by simpa using h), if_pos h]; rfl
  · rw [List.find?_cons_of_neg (by simpa using h), if_neg h]
theorem lk_app {κ : Type} [DecidableEq κ] (k : κ) (qs : List (κ × PyData)) : ∀ ps : List (κ × PyData), lk (ps ++ qs) k = (lk ps k).or (lk qs k)
  | [] => rfl
  | p :: ps => by
    rw [List.cons_append, lk_cons, lk_cons, lk_app k qs ps]
    split <;> rfl
theorem lk_none {κ : Type} [DecidableEq κ] {k : κ} : ∀ {ks : List (κ × PyData)}, lk ks k = none ↔ k ∉ ks.map (·.1)
  | [] => by simp [lk_nil]
  | p :: ks => by
    rw [lk_cons, List.map_cons, List.mem_cons]
    by_cases h : p.1 = k
    · rw [if_pos h]; simp [h.symm]
    · rw [if_neg h, lk_none (ks := ks)]
      exact ⟨fun z => by rintro (q | q); exact h q.symm; exact z q, fun z q => z (.inr q)⟩
theorem lk_put {κ : Type} [DecidableEq κ] (ks : List (κ × PyData)) (k j : κ) (d : PyData) : lk (putD ks k d) j = if j = k then some d else lk ks j := by
  unfold putD
  split
  · rename_i h
    have gen : ∀ l : List (κ × PyData), lk (l.map fun kv => if kv.1 = k then (kv.1, d) else kv) j = if j = k then (if k ∈ l.map (·.1) then some d else none) else lk l j := by
      intro l
      induction l with
      | nil => simp [lk_nil]
      | cons p l ih =>
        rw [List.map_cons, lk_cons, ih, lk_cons, List.map_cons]
        by_cases h1 : p.1 = k
        · rw [if_pos h1]
          by_cases h2 : j = k
          · simp [h1, h2]
          · have h3 : ¬ p.1 = j := fun z => h2 (z.symm.trans h1)
            rw [if_neg h2, if_neg h2, if_neg h3, if_neg h3]
        · rw [if_neg h1]
          by_cases h2 : j = k
          · subst h2
            rw [if_neg h1, if_pos rfl, if_pos rfl]
            by_cases h3 : j ∈ l.map (·.1)
            · rw [if_pos h3, if_pos (List.mem_cons_of_mem _ h3)]
            · rw [if_neg h3, if_neg (by rw [List.mem_cons]; rintro (q | q); exact h1 q.symm; exact h3 q)]
          · rw [if_neg h2, if_neg h2]
    rw [gen]
    by_cases h2 : j = k
    · rw [if_pos h2, if_pos h2, if_pos]
      obtain ⟨p, hp, e⟩ := List.any_eq_true.mp h
      exact List.mem_map.mpr ⟨p, hp, of_decide_eq_true e⟩
    · rw [if_neg h2, if_neg h2]
  · rename_i h
    rw [lk_app, lk_cons, lk_nil]
    by_cases h2 : j = k
    · subst h2
      rw [if_pos rfl, if_pos rfl, lk_none.mpr (fun z => h (by
        obtain ⟨p, hp, e⟩ := List.mem_map.mp z
        exact List.any_eq_true.mpr ⟨p, hp, decide_eq_true e⟩))]
      rfl
    · rw [if_neg (fun z => h2 z.symm), if_neg h2, Option.or_none]
theorem put_keys {κ : Type} [DecidableEq κ] (ks : List (κ × PyData)) (k : κ) (d : PyData) : (putD ks k d).map (·.1) = if k ∈ ks.map (·.1) then ks.map (·.1) else ks.map (·.1) ++ [k] := by
  have e : (ks.any fun kv => decide (kv.1 = k)) = true ↔ k ∈ ks.map (·.1) := by
    rw [List.any_eq_true, List.mem_map]
    exact ⟨fun ⟨p, hp, h⟩ => ⟨p, hp, of_decide_eq_true h⟩, fun ⟨p, hp, h⟩ => ⟨p, hp, decide_eq_true h⟩⟩
  unfold putD
  by_cases h : k ∈ ks.map (·.1)
  · rw [if_pos (e.mpr h), if_pos h, List.map_map]
    apply List.map_congr_left
    intro p _
    show (if p.1 = k then (p.1, d) else p).1 = p.1
    split <;> rfl
  · rw [if_neg (fun z => h (e.mp z)), if_neg h, List.map_append]; rfl
/-! ### walked -/
def iKeysMT (td : TE) : TI := fun σ H R => td σ H fun x H1 => ∃ d o kvs, x = .ref d ∧ H1 d = some (.frz o (.dT kvs)) ∧ R (Itkt d o kvs) H1
/-- for k in d.keys() -/
def tiKeys (t : TDE) : TDA := fun ρ q => t ρ fun d ρ1 => (∃ ks : List (Int × PyData), d = dK ks ∧ q (ks.map fun p => .int p.1) ρ1) ∨ ∃ ks : List (List Int × PyData), d = dT ks ∧ q (ks.map fun p => tI p.1) ρ1
/-- for k, v in d.items(), the keys ints -/
def tiItems (t : TDE) : TDA := fun ρ q => t ρ fun d ρ1 => ∃ ks : List (Int × PyData), d = dK ks ∧ q (ks.map fun p => .tuple [.int p.1, p.2]) ρ1
end
end DL
/-! DL: sorted(d.keys()), sorted(d). -/
namespace DL
open PySem PySem.Spec PyProof.Rows L2
/-- the keys as they stand -/
def KeysAre (H : Hp) (a : Addr) (xs : List V) : Prop := (∃ kvV : List (Key × V), Rd H a (.dK kvV) ∧ xs = kvV.map fun q => kV q.1) ∨ ∃ (kvV : List (List Key × V)) (bs : List Addr), Rd H a (.dT kvV) ∧ IsKeys H kvV bs ∧ xs = bs.map V.ref
section
variable {X : Cx} {pins : List (Addr × Obj)} {σ : L2.St} {H : Hp} {s : Shared}
end
section
variable {X : Cx} {e a b c tg iter o i : Expr} {es : List Expr} {pos : Pos} {t ta tb tc ti tx : TDE} {td : TDD}
def tKeysD (te : TE) : TE := fun σ H Q => te σ H fun x H1 => ∃ a, x = .ref a ∧ IsD H1 a ∧ ∀ p, H1 p = none → Q (.ref p) (upd H1 p (keysO p a))
/-- sorted(view of keys) -/
def rSortView (K : PySem.W.Frag) (u : Nat) : List V → Hp → VK → Prop := fun vs H Q => ∃ (p a : Addr), vs = [.ref p] ∧ H p = some (keysO p a) ∧ IsD H a ∧ ∀ xs, KeysAre H a xs → ∃ ds : List PyData, L2.DpAll K H xs ds ∧ PySem.W.AllAlike ds ∧
  (PySem.W.Sortable ds ∨ ((ds.length ≤ 1 ∨ FirstNil ds) ∧ ∀ d ∈ ds, d ≠ .none)) ∧ (∀ d ∈ ds, u + 2 + d.depth < cLine) ∧ ∀ (zs : List (V × PyData)) (l : Addr), zs = (xs.zip ds).mergeSort (PySem.W.dataLe false (·.2)) → H l = none → Q (.ref l) (upd H l (.lst (zs.map (·.1))))
/-- sorted(dict) -/
def rSortDict (K : PySem.W.Frag) (u : Nat) : List V → Hp → VK → Prop := fun vs H Q => ∃ (a : Addr), vs = [.ref a] ∧ IsD H a ∧ ∀ xs, KeysAre H a xs → ∃ ds : List PyData, L2.DpAll K H xs ds ∧ PySem.W.AllAlike ds ∧
  (PySem.W.Sortable ds ∨ ((ds.length ≤ 1 ∨ FirstNil ds) ∧ ∀ d ∈ ds, d ≠ .none)) ∧ (∀ d ∈ ds, u + 2 + d.depth < cLine) ∧ ∀ (zs : List (V × PyData)) (l : Addr), zs = (xs.zip ds).mergeSort (PySem.W.dataLe false (·.2)) → H l = none → Q (.ref l) (upd H l (.lst (zs.map (·.1))))
def tdSortKD (t : TDE) : TDA := fun ρ q => t ρ fun d ρ1 => (∃ ks : List (Int × PyData), d = dK ks ∧ ∀ ns : List Int, ns.Perm (ks.map (·.1)) → ns.Pairwise (· ≤ ·) → q (ns.map .int) ρ1) ∨
  ∃ ks : List (List Int × PyData), d = dT ks ∧ ((∀ p ∈ ks, p.1 ≠ []) ∨ (ks.length ≤ 1 ∨ ∃ p r, ks = p :: r ∧ p.1 = [])) ∧ ∀ ts : List (List Int), ts.Perm (ks.map (·.1)) → ts.Pairwise (fun x y => x ≤ y) → q (ts.map tI) ρ1
end
end DL
/-! DL: min and max of data, with a default; dict displays. -/
namespace DL
open PySem PySem.Spec PyProof.Rows L2
/-! ### the least of data -/
def leD (x y : PyData) : Prop := PySem.W.dataLt y x = false
/-- a number, and a tuple behind it -/
def ntD (p : Int × List Int) : PyData := .tuple [.int p.1, tI p.2]
section
variable {X : Cx} {e a b c tg iter o i : Expr} {es : List Expr} {pos : Pos} {t ta tb tc ti tx : TDE} {td : TDD}
/-- min(xs), xs a list of data -/
def rMinL (K : PySem.W.Frag) (u : Nat) : List V → Hp → VK → Prop := fun vs H Q => ∃ (a : Addr) (xs : List V) (y : PyData) (ys : List PyData), vs = [V.ref a] ∧ SqL K H a xs ∧ L2.DpAll K H xs (y :: ys) ∧ PySem.W.AlikeAll (y :: ys) ∧ u + 1 + PyData.depthAll (y :: ys) < cLine ∧
  ∀ (j : Nat) (x : V), xs[j]? = some x → (y :: ys)[j]? = some (PySem.W.minD y ys) → Q x H
/-- min(xs, default=x) -/
def rMinDef (K : PySem.W.Frag) (u : Nat) : List V → List V → Hp → VK → Prop := fun vs zs H Q => ∃ (a : Addr) (xs : List V) (ds : List PyData) (z : V), vs = [V.ref a] ∧ zs = [z] ∧ SqL K H a xs ∧ L2.DpAll K H xs ds ∧ PySem.W.AlikeAll ds ∧ u + 1 + PyData.depthAll ds < cLine ∧ (ds = [] → Q z H) ∧
  ∀ (y : PyData) (ys : List PyData) (j : Nat) (x : V), ds = y :: ys → xs[j]? = some x → ds[j]? = some (PySem.W.minD y ys) → Q x H
/-! ### displays -/
end
end DL
/-! DL: all layings that can be cleared, by the sets of heads. -/
namespace DL
open PySem PySem.Spec PyProof.Rows L2
/-- the coins that are left lie with heads h -/
def onL (n : Int) (left h : Nat) : List Int := (List.range n.toNat).map fun p => if left.testBit p = true then (if h.testBit p = true then 1 else 0) else 2
def layB (n : Int) (h : Nat) : List Int := (List.range n.toNat).map fun p => if h.testBit p = true then 1 else 0
/-- in how many orders a laying of what is left can be cleared -/
def clrF (es : List Edge) (n : Int) (left h : Nat) : Nat := if h &&& left = h then cnt es (bitsOf left).length (onL n left h) else 0
def clrC (es : List Edge) (n : Int) (left k m h : Nat) : Nat := if h.testBit k = true then clrF es n (left ^^^ 2 ^ k) ((h ^^^ 2 ^ k) ^^^ (m &&& left)) else 0
/-! ### a dict of numbers -/
def dN (kc : List (Nat × Nat)) : List (Int × PyData) := kc.map fun p => ((p.1 : Int), .int (p.2 : Nat))
def valN (kc : List (Nat × Nat)) (h : Nat) : Nat := ((kc.find? fun p => decide (p.1 = h)).map (·.2)).getD 0
structure NOk (kc : List (Nat × Nat)) : Prop where
  nd : (kc.map (·.1)).Nodup
  pos : ∀ p ∈ kc, 0 < p.2 ∧ p.1 < 2 ^ 9
theorem NOk.len {kc : List (Nat × Nat)} (N : NOk kc) : kc.length ≤ 512 := by
  have := List.Nodup.length_le_of_subset N.nd (l₂ := List.range 512) fun x hx => by
    obtain ⟨p, hp, rfl⟩ := List.mem_map.mp hx
    exact List.mem_range.mpr (N.pos p hp).2
  rw [List.length_map, List.length_range] at this
  exact this
end DL
namespace DL
open PySem PySem.Spec PyProof.Rows L2
/-- the tables up to a set of places -/
def ClrTab (es : List Edge) (n : Int) (fs : List (List (Nat × Nat))) : Prop := ∀ (left : Nat) (kc : List (Nat × Nat)), fs[left]? = some kc → NOk kc ∧ ∀ h, valN kc h = clrF es n left h
end DL
namespace DL
open PySem PySem.Spec PyProof.Rows L2
theorem atI_end {α : Type} (xs : List α) (h : xs ≠ []) : atI xs (-1) = xs[xs.length - 1]? := by
  rcases List.eq_nil_or_concat xs with rfl | ⟨ys, y, rfl⟩
  · exact absurd rfl h
  · rw [List.concat_eq_append, atI_last]
    simp
end DL
/-! DL: layings that can be cleared, those near another one, those that fit. -/
namespace DL
open PySem PySem.Spec PyProof.Rows L2
def cleB (es : List Edge) (n : Int) (h : Nat) : Bool := decide (0 < cnt es n.toNat (layB n h))
def clrM (es : List Edge) (n : Int) : List Nat := (List.range (2 ^ n.toNat)).filter (cleB es n)
/-- the places at which two layings differ -/
def difL (ls ts : List Int) : List Int := ((List.range ls.length).filter fun j => decide (ls[j]? ≠ ts[j]?)).map fun (j : Nat) => (j : Int)
def costL (ps ls ts : List Int) : Int := ((difL ls ts).map fun k => ps.getD k.toNat 0).sum
/-- the least pair -/
def LeastC (es : List Edge) (n : Int) (ps ls : List Int) (h : Nat) : Prop := h ∈ clrM es n ∧ ∀ h' ∈ clrM es n, costL ps ls (layB n h) < costL ps ls (layB n h') ∨ (costL ps ls (layB n h) = costL ps ls (layB n h') ∧ layB n h ≤ layB n h')
def tcs (es : List Edge) (n : Int) (ps ls : List Int) : List PyData := (clrM es n).map fun h => ntD (costL ps ls (layB n h), layB n h)
/-- the layings that fit what is told -/
def sfitB (n : Int) (ss : List Int) (h : Nat) : Bool := decide (∀ p, p < n.toNat → ss[p]? ≠ some 2 → ss[p]? = (layB n h)[p]?)
def fitM (es : List Edge) (n : Int) (ss : List Int) : List Nat := (clrM es n).filter (sfitB n ss)
end DL
namespace DL
open PySem PySem.Spec PyProof.Rows L2
end DL
namespace DL
open PySem PySem.Spec PyProof.Rows L2
/-- what is told of a laying, and what a turn costs -/
structure ToldP (n : Int) (ls ss ps : List Int) : Prop where
  hl : (ls.length : Int) = n
  hsl : (ss.length : Int) = n
  hpl : (ps.length : Int) = n
  at' : ∀ j : Nat, j < n.toNat → (ss[j]? = some 2 ∧ ps[j]? = some 0) ∨ (ss[j]? ≠ some 2 ∧ ss[j]? = ls[j]? ∧ ∃ p, ps[j]? = some p ∧ 1 ≤ p)
end DL
/-! DL: costs of orders; what flows through the states. -/
namespace DL
open PySem PySem.Spec PyProof.Rows L2
def prc (ps : List Nat) (k : Int) : Nat := ps.getD k.toNat 0
/-- what an order costs from a time on -/
def costT (ps : List Nat) : Nat → List Int → Nat
  | _, [] => 0
  | t, k :: r => prc ps k * (t + 1) + costT ps (t + 1) r
/-- the least of some numbers -/
def minO : List Nat → Option Nat
  | [] => none
  | x :: xs => some (xs.foldl min x)
/-- the least cost of the ways on -/
def mcost (es : List Edge) (ps : List Nat) : Nat → List Int → Nat → Option Nat
  | 0, _, _ => some 0
  | m + 1, h, t => minO ((headsL h).filterMap fun k => (mcost es ps m (flip es k h) (t + 1)).map fun c => prc ps k * (t + 1) + c)
/-- the least order of the least cost -/
def BestO (es : List Edge) (ps : List Nat) (m : Nat) (h : List Int) (t : Nat) (P : List Int) : Prop := P ∈ oS es m h ∧ ∀ r ∈ oS es m h, costT ps t P < costT ps t r ∨ (costT ps t P = costT ps t r ∧ P ≤ r)
/-! ### what flows through the states -/
/-- what all the ways on cost, from a state on -/
def fw (g : Nat → Nat → Nat) (es : List Edge) : Nat → List Int → Nat → Nat
  | 0, _, _ => 0
  | m + 1, h, s => ((headsL h).map fun k => g s k.toNat * cnt es m (flip es k h) + fw g es m (flip es k h) (s ||| 2 ^ k.toNat)).sum
end DL
namespace DL
open PySem PySem.Spec PyProof.Rows L2
/-- what an order weighs from a state on -/
def gT (g : Nat → Nat → Nat) : Nat → List Int → Nat
  | _, [] => 0
  | s, k :: r => g s k.toNat + gT g (s ||| 2 ^ k.toNat) r
theorem sum_const {α : Type} (c : Nat) : ∀ l : List α, (l.map fun _ => c).sum = c * l.length
  | [] => by simp
  | x :: l => by rw [List.map_cons, List.sum_cons, sum_const c l, List.length_cons, Nat.mul_add]; omega
/-- the rows of the takes -/
def rowT (to on : List Nat) (p : Nat × Nat) : Nat := to.getD p.1 0 * on.getD (p.1 ||| 2 ^ p.2) 0
def rowD3 (to on : List Nat) (p : Nat × Nat) : PyData := .tuple [.int (p.1 : Nat), .int (p.2 : Nat), .int (rowT to on p : Nat)]
def rowsOf (n : Int) (es : List Edge) (ls : List Int) (s : Nat) : List (Nat × Nat) := (headsL (stB n es ls s)).map fun k => (s, k.toNat)
def rowsL (n : Int) (es : List Edge) (ls : List Int) : List (Nat × Nat) := (List.range (2 ^ n.toNat)).flatMap (rowsOf n es ls)
end DL
namespace DL
open PySem PySem.Spec PyProof.Rows L2
def pI (ps : List Nat) : List Int := ps.map fun (x : Nat) => (x : Int)
def oN : Option Nat → PyData
  | none => .none
  | some c => .int (c : Nat)
structure CostSt (n : Int) (es : List Edge) (ls : List Int) (ps : List Nat) (i : Nat) (cur : List (Option Nat)) : Prop where
  len : cur.length = 2 ^ n.toNat
  at' : ∀ s, i ≤ s → s < 2 ^ n.toNat → cur[s]? = some (mcost es ps (n.toNat - (bitsOf s).length) (stB n es ls s) (bitsOf s).length)
end DL
namespace DL
open PySem PySem.Spec PyProof.Rows L2
end DL
/-! DL: a call with a new dict that is to remember; a list of one's own and a new one; orders of forests. -/
namespace DL
open PySem PySem.Spec PyProof.Rows L2
section
variable {X : Cx} {a b : Expr} {ta tb : TDE} {pos : Pos}
/-- f(e1, e2, {}) -/
def tdCallM0 (sd : SDM) (ta tb : TDE) : TDE := fun ρ q => ta ρ fun d1 ρ1 => tb ρ1 fun d2 ρ2 => ∃ f, sd [d1, d2] f fun d => q d ρ2
/-- xs + [..], xs a list of one's own -/
def tdCatO (i : Nat) (tb : TDA) : TDA := fun ρ q => match ρ[i]? with
  | some (.own _ ds) => tb ρ fun es ρ2 => ρ2 = ρ ∧ ds.length + es.length ≤ sizeLine ∧ q (ds ++ es) ρ2
  | _ => False
end
end DL
namespace DL
open PySem PySem.Spec PyProof.Rows L2
/-! ### webs without rings, edge by edge -/
def Fo : List Edge → Prop
  | [] => True
  | e :: es => ¬ Con es e.1 e.2 ∧ Fo es
abbrev ERng (n : Int) (es : List Edge) : Prop := ∀ e ∈ es, 0 ≤ e.1 ∧ e.1 < e.2 ∧ e.2 < n
/-! ### what goes first -/
theorem bef_sub {ks : List Int} {p x : Int} (nd : ks.Nodup) (hp : p ∈ ks) : x ∈ ks.take (ks.idxOf p) ↔ [x, p].Sublist ks := by
  induction ks with
  | nil => cases hp
  | cons y t ih =>
    obtain ⟨n1, n2⟩ := List.nodup_cons.mp nd
    by_cases e : y = p
    · subst e
      rw [List.idxOf_cons_self, List.take_zero]
      constructor
      · intro h; cases h
      · intro h
        cases h with
        | cons _ h => exact absurd (h.subset (List.mem_cons_of_mem _ List.mem_cons_self)) n1
        | cons_cons _ h => exact absurd (h.subset List.mem_cons_self) n1
    · have hp' : p ∈ t := by
        rcases List.mem_cons.mp hp with h | h
        · exact absurd h.symm e
        · exact h
      rw [List.idxOf_cons, show (y == p) = false by simpa using e, cond_false, List.take_succ_cons, List.mem_cons, ih n2 hp']
      constructor
      · rintro (rfl | h)
        · exact .cons_cons _ (List.singleton_sublist.mpr hp')
        · exact .cons _ h
      · intro h
        cases h with
        | cons _ h => exact .inr h
        | cons_cons _ h => exact .inl rfl
/-- the members of a set first, all in the order they stood in -/
noncomputable def splitA (A : Int → Prop) (ks : List Int) : List Int := (ks.filter fun x => dec (A x)) ++ ks.filter fun x => !dec (A x)
theorem split_perm (A : Int → Prop) (ks : List Int) : (splitA A ks).Perm ks := List.filter_append_perm _ _
theorem split_sub {A : Int → Prop} {ks : List Int} {x p : Int} (h : A x ↔ A p) : [x, p].Sublist (splitA A ks) ↔ [x, p].Sublist ks := by
  unfold splitA
  by_cases hp : A p
  · have hx := h.mpr hp
    have e : [x, p].filter (fun x => dec (A x)) = [x, p] := by simp [dec_iff.mpr hx, dec_iff.mpr hp]
    constructor
    · intro s
      have := s.filter fun x => dec (A x)
      rw [e, List.filter_append, List.filter_filter, List.filter_filter] at this
      have e2 : ks.filter (fun a => dec (A a) && !dec (A a)) = [] := List.filter_eq_nil_iff.mpr fun z _ => by cases dec (A z) <;> simp
      rw [e2, List.append_nil] at this
      exact this.trans List.filter_sublist
    · intro s
      have := s.filter fun x => dec (A x)
      rw [e] at this
      exact this.trans (List.sublist_append_left _ _)
  · have hx : ¬ A x := fun z => hp (h.mp z)
    have e : [x, p].filter (fun x => !dec (A x)) = [x, p] := by simp [dec_not hx, dec_not hp]
    constructor
    · intro s
      have := s.filter fun x => !dec (A x)
      rw [e, List.filter_append, List.filter_filter, List.filter_filter] at this
      have e2 : ks.filter (fun a => (!dec (A a)) && dec (A a)) = [] := List.filter_eq_nil_iff.mpr fun z _ => by cases dec (A z) <;> simp
      rw [e2, List.nil_append] at this
      exact this.trans List.filter_sublist
    · intro s
      have := s.filter fun x => !dec (A x)
      rw [e] at this
      exact this.trans (List.sublist_append_right _ _)
theorem split_first {A : Int → Prop} {ks : List Int} {u v : Int} (hu : u ∈ ks) (hv : v ∈ ks) (au : A u) (av : ¬ A v) : [u, v].Sublist (splitA A ks) ∧ ¬ [v, u].Sublist (splitA A ks) := by
  have m1 : u ∈ ks.filter fun x => dec (A x) := List.mem_filter.mpr ⟨hu, dec_iff.mpr au⟩
  have m2 : v ∈ ks.filter fun x => !dec (A x) := List.mem_filter.mpr ⟨hv, by rw [dec_not av]; rfl⟩
  refine ⟨(List.singleton_sublist.mpr m1).append (List.singleton_sublist.mpr m2), fun s => ?_⟩
  obtain ⟨l1, l2, e, s1, s2⟩ := List.sublist_append_iff.mp s
  cases l1 with
  | nil =>
    rw [List.nil_append] at e
    have := s2.subset (show u ∈ l2 by rw [← e]; simp)
    have := (List.mem_filter.mp this).2
    rw [dec_iff.mpr au] at this; cases this
  | cons y l1 =>
    have hy : y = v := by rw [List.cons_append] at e; exact (List.cons.inj e).1.symm
    subst hy
    have := s1.subset (List.mem_cons_self (a := y) (l := l1))
    have := (List.mem_filter.mp this).2
    exact av (dec_iff.mp this)
end DL
namespace DL
open PySem PySem.Spec PyProof.Rows L2
/-! ### layings of webs without rings -/
def gl (ls : List Int) (x : Int) : Int := ls.getD x.toNat 0
noncomputable def cS (n : Int) (es : List Edge) (ls : List Int) (r : Int) : Int := ((setL n (Con es r)).map (gl ls)).sum
end DL
namespace DL
open PySem PySem.Spec PyProof.Rows L2
/-- all layings, in the order of the texts -/
def lays : Nat → List (List Int)
  | 0 => [[]]
  | m + 1 => (lays m).flatMap fun l => [l ++ [0], l ++ [1]]
theorem mem_lays : ∀ {m : Nat} {l : List Int}, l ∈ lays m ↔ l.length = m ∧ ∀ x ∈ l, x = 0 ∨ x = 1
  | 0, l => by
    show l ∈ [[]] ↔ _
    rw [List.mem_singleton]
    constructor
    · rintro rfl; exact ⟨rfl, fun _ h => nomatch h⟩
    · exact fun h => List.eq_nil_of_length_eq_zero h.1
  | m + 1, l => by
    show l ∈ (lays m).flatMap _ ↔ _
    rw [List.mem_flatMap]
    constructor
    · rintro ⟨k, hk, h⟩
      obtain ⟨h1, h2⟩ := mem_lays.mp hk
      rcases List.mem_cons.mp h with rfl | h
      · refine ⟨by simp [h1], fun x hx => ?_⟩
        rcases List.mem_append.mp hx with hx | hx
        · exact h2 x hx
        · exact .inl (List.mem_singleton.mp hx)
      · rw [List.mem_singleton] at h
        subst h
        refine ⟨by simp [h1], fun x hx => ?_⟩
        rcases List.mem_append.mp hx with hx | hx
        · exact h2 x hx
        · exact .inr (List.mem_singleton.mp hx)
    · rintro ⟨h1, h2⟩
      rcases List.eq_nil_or_concat l with rfl | ⟨k, x, rfl⟩
      · cases h1
      · rw [List.concat_eq_append] at h1 h2 ⊢
        rw [List.length_append, List.length_singleton] at h1
        refine ⟨k, mem_lays.mpr ⟨by omega, fun y hy => h2 y (List.mem_append_left _ hy)⟩, ?_⟩
        rcases h2 x (by simp) with rfl | rfl <;> simp
theorem lays_len : ∀ m : Nat, (lays m).length = 2 ^ m
  | 0 => rfl
  | m + 1 => by
    have gen : ∀ L : List (List Int), (L.flatMap fun l => [l ++ [0], l ++ [1]]).length = 2 * L.length := by
      intro L
      induction L with
      | nil => rfl
      | cons x L ih => rw [List.flatMap_cons, List.length_append, ih]; simp only [List.length_cons, List.length_nil]; omega
    show ((lays m).flatMap _).length = _
    rw [gen, lays_len m, Nat.pow_succ]
    omega
theorem lays_full {n : Int} (h0 : 0 ≤ n) {l : List Int} : l ∈ lays n.toNat ↔ Full n l := by
  rw [mem_lays]
  exact ⟨fun h => ⟨by omega, h.2⟩, fun F => ⟨by have := F.len; omega, F.val⟩⟩
end DL
namespace DL
open PySem PySem.Spec PyProof.Rows L2
/-! ### trees: an odd number of heads -/
def IsTreeP (n : Int) (es : List Edge) : Prop := (reps n es).length + es.length = n.toNat ∧ (reps n es).length = 1
/-- the least of the rows of layings -/
def rowsD (es : List Edge) (n : Int) (ps ls : List Int) (L : List (List Int)) : List PyData := (L.filter fun t => decide (0 < cnt es n.toNat t)).map fun t => ntD (costL ps ls t, t)
end DL
/-! DL: tables of ways on, of what is ready; layings told in part. -/
namespace DL
open PySem PySem.Spec PyProof.Rows L2
structure RG (n : Int) (rs : List Nat) : Prop where
  len : rs.length = 2 ^ n.toNat
  ok : ∀ s m : Nat, rs[s]? = some m → m < 2 ^ n.toNat ∧ ∀ j, m.testBit j = true → s.testBit j = false
def onS (rs cur : List Nat) (s : Nat) : Nat := ((bitsOf (rs.getD s 0)).map fun k => cur.getD (s ||| 2 ^ k.toNat) 0).sum
structure OnG (n : Int) (rs : List Nat) (i : Nat) (cur : List Nat) : Prop where
  len : cur.length = 2 ^ n.toNat
  last : cur[2 ^ n.toNat - 1]? = some 1
  eq : ∀ s, i ≤ s → s + 1 < 2 ^ n.toNat → cur[s]? = some (onS rs cur s)
/-! ### layings told in part -/
def fitS (n : Int) (ss : List Int) (s h : Nat) : Bool := (List.range n.toNat).all fun p => if ss.getD p 0 = 2 then !(s.testBit p && h.testBit p) else decide (ss.getD p 0 = if h.testBit p = true then 1 else 0)
def seenC (es : List Edge) (n : Int) (h s : Nat) : Nat := cnt es (n.toNat - (bitsOf s).length) (stB n es (layB n h) s)
def seenA (es : List Edge) (n : Int) (ss : List Int) (s : Nat) : Nat := ((List.range (2 ^ n.toNat)).map fun h => if fitS n ss s h = true then seenC es n h s else 0).sum
def rdyG (n : Int) (es : List Edge) (ss : List Int) (s p : Nat) : Bool := (rdyB n es (noE ss) s p || decide (p < n.toNat ∧ ss.getD p 0 = 2)) && !s.testBit p
end DL
namespace DL
open PySem PySem.Spec PyProof.Rows L2
/-- what is ready, as a table -/
def RdyG (n : Int) (es : List Edge) (ss : List Int) (rs : List Nat) : Prop := rs.length = 2 ^ n.toNat ∧ ∀ s m : Nat, rs[s]? = some m → ∀ j, m.testBit j = rdyG n es ss s j
/-! ### the layings as a list, as masks -/
/-- told in part, and it fits -/
def fitL (n : Int) (ss l : List Int) : Bool := decide (∀ p, p < n.toNat → ss[p]? ≠ some 2 → ss[p]? = l[p]?)
def fitsL (es : List Edge) (n : Int) (ss : List Int) (L : List (List Int)) : List (List Int) := L.filter fun l => decide (0 < cnt es n.toNat l) && fitL n ss l
end DL
namespace DL
open PySem PySem.Spec PyProof.Rows L2
/-- how many heads at a place; what is shown of the places that are not told -/
def upL (L : List (List Int)) (k : Nat) : Nat := (L.filter fun l => decide (l[k]? = some 1)).length
def pairsD (n : Int) (ss : List Int) (L : List (List Int)) : List PyData := ((List.range n.toNat).filter fun k => decide (ss[k]? = some 2)).map fun (k : Nat) => .tuple [.int ((max (upL L k) (L.length - upL L k) : Nat) : Int), .int (k : Int)]
def nextD : List PyData → PyData
  | [] => .none
  | y :: ys => match PySem.W.minD y ys with
    | .tuple [_, b] => b
    | _ => .none
/-- the coin that all of them show -/
noncomputable def sureL (L : List (List Int)) (j : Nat) : PyData := if dec (∀ l ∈ L, l[j]? = some 1) = true then .int 1 else if dec (∀ l ∈ L, l[j]? = some 0) = true then .int 0 else .none
end DL
namespace DL
open PySem PySem.Spec PyProof.Rows L2
end DL
namespace DL
open PySem PySem.Spec PyProof.Rows L2
/-- the pairs of the first places -/
def pairsJ (j : Nat) (ss : List Int) (L : List (List Int)) : List PyData := ((List.range j).filter fun k => decide (ss[k]? = some 2)).map fun (k : Nat) => .tuple [.int ((max (upL L k) (L.length - upL L k) : Nat) : Int), .int (k : Int)]
end DL
namespace DL
open PySem PySem.Spec PyProof.Rows L2
section
variable {X : Cx} {b c : Expr} {tc : TDE} {pos : Pos}
/-- a, b = new list of one's own, value: stored one after another from the tuple -/
def tdAsgOS (i j : Nat) (tb : TDA) (tc : TDE) : TDS := fun q ρ => tb ρ fun ds ρ1 => tc ρ1 fun z ρ2 => ∀ m, m ∉ owns ρ2 → q.nx ((ρ2.set i (.own m ds)).set j (.sh z))
end
end DL
namespace DL
open PySem PySem.Spec PyProof.Rows L2
end DL
/-! DL: last states; trees with one coin left. -/
namespace DL
open PySem PySem.Spec PyProof.Rows L2
/-- a state that is met and where no head is left -/
def LastS (n : Int) (es : List Edge) (ls : List Int) (t : List Int) : Prop := ∃ (to : List Nat) (s : Nat), ToOk n es ls to ∧ s < 2 ^ n.toNat ∧ 0 < to.getD s 0 ∧ headsL (stB n es ls s) = [] ∧ t = bitsOf s
/-- the places of which one alone can be left -/
def OnlyK (n : Int) (es : List Edge) (ls : List Int) (k : Int) : Prop := (0 ≤ k ∧ k < n) ∧ ∃ t, LastS n es ls t ∧ t.length + 1 = n.toNat ∧ k ∉ t
noncomputable def onlyL (n : Int) (es : List Edge) (ls : List Int) : List Int := (plc n).filter fun k => dec (OnlyK n es ls k)
end DL
namespace DL
open PySem PySem.Spec PyProof.Rows L2
end DL
namespace DL
open PySem PySem.Spec PyProof.Rows L2
/-! ### a tree that grows -/
structure TreeE (n : Int) (ks : List Int) (j : Nat) (E : List Edge) : Prop where
  len : E.length = j
  nd : E.Nodup
  rng : ERng n E
  inn : ∀ e ∈ E, e.1 ∈ ks.take (j + 1) ∧ e.2 ∈ ks.take (j + 1)
  con : ∀ (i : Nat) (x y : Int), i ≤ j → ks[0]? = some x → ks[i]? = some y → Con E x y
end DL
namespace DL
open PySem PySem.Spec PyProof.Rows L2
def cutE (es : List Edge) (e : Edge) : List Edge := es.filter fun z => decide (z ≠ e)
noncomputable def sideD (n : Int) (es : List Edge) (ls : List Int) (e : Edge) : PyData := .tuple [.int (cS n (cutE es e) ls e.1), .int (cS n es ls e.1 - cS n (cutE es e) ls e.1)]
end DL
namespace DL
open PySem PySem.Spec PyProof.Rows L2
section
variable {X : Cx} {b : Expr} {tb : TDE} {pos : Pos}
/-- xs != .., xs a list of one's own that stays so -/
def tdNeO (i : Nat) (tb : TDE) : TDE := fun ρ q => match ρ[i]? with
  | some (.own _ ds) => tb ρ fun dy ρ2 => ρ2 = ρ ∧ SeqAt.shaped (.list ds) = true ∧ SeqAt.shaped dy = true ∧ q (.bool (!PyData.eqv (.list ds) dy)) ρ2
  | _ => False
end
end DL
namespace DL
open PySem PySem.Spec PyProof.Rows L2
section
variable {X : Cx} {a b : Expr} {ta tb : TDE} {pos : Pos}
theorem BV.top {K : PySem.W.Frag} {C : Ctx} {ρ : DEnv} {H : Hp} {v : V} {d : PyData} (B : BV K C ρ H v d) : Dp K H v d := by
  rcases B with D | ⟨a, vs, ds, rfl, rfl, h, D, _⟩
  · exact Dp.le hide_Le D
  · exact .lst (.inl (.inl h)) (DpAll.le hide_Le D)
theorem BV.keep {K : PySem.W.Frag} {C : Ctx} {ρ : DEnv} {H H' : Hp} {σ : L2.St} {v : V} {d : PyData} (B : BV K C ρ H v d) (E' : EnvD C K H' σ ρ) (s : Step C ρ H ρ H') (E : EnvD C K H σ ρ) : BV K C ρ H' v d := by
  rcases B with D | ⟨a, vs, ds, rfl, rfl, h, D, i, e⟩
  · exact .inl (Dp.le s.vis D)
  · obtain ⟨_, vs', g, D'⟩ := E'.own_at e
    exact .inr ⟨a, vs', ds, rfl, rfl, g, D', i, e⟩
theorem le_hide_nil (H : Hp) : Le H (hide [] H) := fun b o e => by rw [hide_out (List.not_mem_nil)]; exact e
/-- a comparison of values that may be lists of one's own: they stay so -/
def tdCmpO (rd : RD2) (ta tb : TDE) : TDE := fun ρ q => ta ρ fun x ρ1 => tb ρ1 fun y ρ2 => ρ2 = ρ1 ∧ rd x y fun z => match z with
  | .bool c => q (.bool c) ρ2
  | _ => False
theorem dt_cmpO {op : CmpOp} {rd : RD2} (hl : LOp X (compareOp op) rd) (ha : DB X a ta) (hb : DB X b tb) (hm : behindInMarks op b = false) : DT X (.Compare a [op] [b] pos) (tdB (tdCmpO rd ta tb)) := by
  obtain ⟨r, ho, hl⟩ := hl
  obtain ⟨pa, ha, qa⟩ := ha.ex
  obtain ⟨pb, hb, qb⟩ := hb.ex
  refine dt_of (pt_cmpR ho ha hb hm) fun C σ H ρ q Q E h k => ?_
  refine qa C σ H ρ _ _ E h fun x H1 dx ρ1 E1 s1 B1 h1 => ?_
  refine qb C σ H1 ρ1 _ _ E1 h1 fun y H2 dy ρ2 E2 s2 B2 h2 => ?_
  obtain ⟨e2, h2⟩ := h2
  subst e2
  have B1' := B1.keep E2 s2 E1
  refine hl [] H2 x y dx dy _ _ (fun a z => absurd z (List.not_mem_nil)) (Dp.le (le_hide_nil _) B1'.top) (Dp.le (le_hide_nil _) B2.top) h2 fun v H3 d l D q3 => ?_
  cases d with
  | bool c =>
    cases D
    exact k _ H3 _ _ (E2.le l) ((s1.trans s2).trans (.le l)) (.bl c) q3
  | _ => exact q3.elim
end
end DL
namespace DL
open PySem PySem.Spec PyProof.Rows L2
/-! ### a search with a list of what is found and one of what waits -/
structure Bfs (n : Int) (R : Int → Int → Prop) (a : Int) (S Wl : List Int) (h : Int) (D : List Int) : Prop where
  nd : S.Nodup
  rng : ∀ x ∈ S, 0 ≤ x ∧ x < n
  st : a ∈ S
  rch : ∀ x ∈ S, Rch R a x
  wl : ∀ x ∈ Wl, x ∈ S
  cl : ∀ x ∈ S, x ∈ Wl ∨ (x = h ∧ ∀ y ∈ D, R h y → y ∈ S) ∨ ∀ y, R x y → y ∈ S
end DL
/-! DL: trees with one coin left. -/
namespace DL
open PySem PySem.Spec PyProof.Rows L2
/-! ### without one place -/
def starE (es : List Edge) (k : Int) : List Edge := es.filter fun z => decide (z.1 ≠ k ∧ z.2 ≠ k)
end DL
namespace DL
open PySem PySem.Spec PyProof.Rows L2
end DL
namespace DL
open PySem PySem.Spec PyProof.Rows L2
def toF (n : Int) (es : List Edge) (ls : List Int) (t : Nat) : Nat := (if t = 0 then 1 else 0) + ((List.range n.toNat).map fun p => if h : (t.testBit p && hdB n es ls (t ^^^ 2 ^ p) p) = true then toF n es ls (t ^^^ 2 ^ p) else 0).sum
termination_by t
decreasing_by exact xor_lt (Bool.and_eq_true_iff.mp h).1
end DL
namespace DL
open PySem PySem.Spec PyProof.Rows L2
/-- the sums of the far sides -/
noncomputable def farL (n : Int) (es : List Edge) (ls : List Int) (k : Int) : List Int := (nbr es k).map fun v => cS n (starE es k) ls v
def dueP (n : Int) (es : List Edge) (ls : List Int) (k : Int) : Prop := ((farL n es ls k).sum + gl ls k) % 2 = 0 ∧ ∀ x ∈ farL n es ls k, ¬ x % 2 = 0
noncomputable def dueL (n : Int) (es : List Edge) (ls : List Int) : List Int := (plc n).filter fun k => dec (dueP n es ls k)
def es4 : List Edge := [(0, 1), (1, 2), (2, 3)]
end DL
namespace DL
open PySem PySem.Spec PyProof.Rows L2
noncomputable def dueJ (n : Int) (es : List Edge) (ls : List Int) (j : Nat) : List Int := ((List.range j).filter fun (k : Nat) => dec (dueP n es ls (k : Int))).map fun (k : Nat) => (k : Int)
end DL
namespace DL
open PySem PySem.Spec PyProof.Rows L2
end DL
/-! DL: zip of two tuples, of two lists. -/
namespace DL
open PySem PySem.Spec PyProof.Rows L2
section
variable {X : Cx} {a b : Expr} {ta tb : TDE} {pos : Pos}
def zipD (ds es : List PyData) : List PyData := List.zipWith (fun x y => PyData.tuple [x, y]) ds es
theorem zipD_len (ds es : List PyData) : (zipD ds es).length = min ds.length es.length := by unfold zipD; rw [List.length_zipWith]
theorem zipD_get {ds es : List PyData} {i : Nat} {x y : PyData} (h1 : ds[i]? = some x) (h2 : es[i]? = some y) : (zipD ds es)[i]? = some (.tuple [x, y]) := by
  unfold zipD
  rw [List.getElem?_zipWith, h1, h2]
/-- zip(t, u) -/
def tiZip (ta tb : TDE) : TDA := fun ρ q => ta ρ fun d ρ1 => tb ρ1 fun e ρ2 => match d, e with
  | .tuple ds, .tuple es => q (zipD ds es) ρ2
  | .list ds, .list es => q (zipD ds es) ρ2
  | _, _ => False
theorem di_zip {p tpos : Pos} {elts : List Expr} {kk : Nat} (hg : Gl X "zip") (hm : X.mg "zip" = none) (ha : DE X a ta) (hb : DE X b tb)
    (h1 : starEach [a, b] X.env = (false, eval a X.env) :: starEach [b] X.env := by rfl) (h2 : starEach [b] X.env = (false, eval b X.env) :: starEach [] X.env := by rfl) (hpl : (backTo pos (starEach [b] X.env)).any (·.1) = false := by rfl) :
    DI X (.Tuple elts kk tpos) (.Call (.Name "zip" p) [a, b] [] pos) (tiZip ta tb) := by
  obtain ⟨pa, ha, qa⟩ := ha.ex
  obtain ⟨pb, hb, qb⟩ := hb.ex
  refine ⟨_, RZ.pi_zipA hg hm (pa_cons ha (pa_cons hb pa_nil h2) h1) h1 hpl, fun C σ H ρ q R E w k => ?_⟩
  refine qa C σ H ρ _ _ E w fun v H1 d ρ1 E1 s1 D1 w1 => ?_
  refine qb C σ H1 ρ1 _ _ E1 w1 fun u H2 e ρ2 E2 s2 D2 w2 => ?_
  have D1' := Dp.le s2.vis D1
  cases d with
  | tuple ds =>
    cases e with
    | tuple es =>
      obtain ⟨m1, xs, rfl, sx, X1⟩ := Dp.tup_of D1'
      obtain ⟨m2, ys, rfl, sy, Y1⟩ := Dp.tup_of D2
      refine ⟨m1, m2, xs, ys, rfl, .inr ⟨SqT.le hide_Le sx, SqT.le hide_Le sy, k _ H2 (zipD ds es) ρ2 E2 (s1.trans s2) (fun i H' ke => ⟨fun hi => ?_, fun hi => ?_⟩) w2⟩⟩
      · rw [zipD_len] at hi
        have sx' := SqT.stay ke sx
        have sy' := SqT.stay ke sy
        have hx : i < xs.length := by rw [DpAll.length X1]; omega
        have hy : i < ys.length := by rw [DpAll.length Y1]; omega
        refine ⟨⟨xs, ys, xs[i], ys[i], sx', sy', by simp [hx], by simp [hy]⟩, fun x H'' z => ?_⟩
        obtain ⟨T, x', y', rfl, hT, rfl, z1, z2⟩ := z
        refine ⟨.upd hT, fun as has => ?_⟩
        obtain ⟨d1, g1, g2⟩ := DpAll.getV X1 (z1 xs sx')
        obtain ⟨d2, g3, g4⟩ := DpAll.getV Y1 (z2 ys sy')
        have nT : T ∉ as := fun z => by obtain ⟨o, e⟩ := (has T z).1; rw [hT] at e; cases e.1
        exact ⟨_, zipD_get g1 g3, .tup (by rw [hide_out nT, upd_same]) (.cons (Dp.le (vis_as ke (.upd hT) has) g2) (.cons (Dp.le (vis_as ke (.upd hT) has) g4) .nil))⟩
      · rw [zipD_len] at hi
        exact ⟨xs, ys, SqT.stay ke sx, SqT.stay ke sy, by rw [DpAll.length X1, DpAll.length Y1]; omega⟩
    | _ => exact w2.elim
  | list ds =>
    cases e with
    | list es =>
      obtain ⟨m1, xs, rfl, sx, X1⟩ := Dp.list_of D1'
      obtain ⟨m2, ys, rfl, sy, Y1⟩ := Dp.list_of D2
      refine ⟨m1, m2, xs, ys, rfl, .inl ⟨SqL.le hide_Le sx, SqL.le hide_Le sy, k _ H2 (zipD ds es) ρ2 E2 (s1.trans s2) (fun i H' ke => ⟨fun hi => ?_, fun hi => ?_⟩) w2⟩⟩
      · rw [zipD_len] at hi
        have sx' := SqL.stay ke sx
        have sy' := SqL.stay ke sy
        have hx : i < xs.length := by rw [DpAll.length X1]; omega
        have hy : i < ys.length := by rw [DpAll.length Y1]; omega
        refine ⟨⟨xs, ys, xs[i], ys[i], sx', sy', by simp [hx], by simp [hy]⟩, fun x H'' z => ?_⟩
        obtain ⟨T, x', y', rfl, hT, rfl, z1, z2⟩ := z
        refine ⟨.upd hT, fun as has => ?_⟩
        obtain ⟨d1, g1, g2⟩ := DpAll.getV X1 (z1 xs sx')
        obtain ⟨d2, g3, g4⟩ := DpAll.getV Y1 (z2 ys sy')
        have nT : T ∉ as := fun z => by obtain ⟨o, e⟩ := (has T z).1; rw [hT] at e; cases e.1
        exact ⟨_, zipD_get g1 g3, .tup (by rw [hide_out nT, upd_same]) (.cons (Dp.le (vis_as ke (.upd hT) has) g2) (.cons (Dp.le (vis_as ke (.upd hT) has) g4) .nil))⟩
      · rw [zipD_len] at hi
        exact ⟨xs, ys, SqL.stay ke sx, SqL.stay ke sy, by rw [DpAll.length X1, DpAll.length Y1]; omega⟩
    | _ => exact w2.elim
  | _ => cases e <;> exact w2.elim
end
end DL
namespace DL
open PySem PySem.Spec PyProof.Rows L2
/-! ### sides of edges, by masks -/
def IsForestP (n : Int) (es : List Edge) : Prop := (reps n es).length + es.length = n.toNat
noncomputable def lowS (n : Int) (es : List Edge) (ls : List Int) (e : Edge) : Int := cS n (cutE es e) ls e.1
noncomputable def wayL (n : Int) (es : List Edge) (ls : List Int) : List Int := es.map fun e => 1 - lowS n es ls e % 2
/-- the places that no edge has first -/
def metE (e : Edge) (w : Int) : Int := if w = 0 then e.1 else e.2
noncomputable def lastL (n : Int) (es : List Edge) (ls : List Int) : List Int := (plc n).filter fun p => dec (∀ e ∈ es, metE e (1 - lowS n es ls e % 2) ≠ p)
end DL
namespace DL
open PySem PySem.Spec PyProof.Rows L2
end DL
namespace DL
open PySem PySem.Spec PyProof.Rows L2
noncomputable def onlyJ (n : Int) (es : List Edge) (ls : List Int) (j : Nat) : List Int := ((List.range j).filter fun (k : Nat) => dec (OnlyK n es ls (k : Int))).map fun (k : Nat) => (k : Int)
end DL
/-! DL: ways of forests: which end of each edge goes first. -/
namespace DL
open PySem PySem.Spec PyProof.Rows L2
def bef (ks : List Int) (x y : Int) : Prop := x ∈ ks.take (ks.idxOf y)
/-- the later ends, counted -/
def lateN (es : List Edge) (late : Edge → Int) (p : Int) : Nat := (es.filter fun e => decide (late e = p)).length
end DL
namespace DL
open PySem PySem.Spec PyProof.Rows L2
def laterP (p : Edge × Int) : Int := if p.2 = 0 then p.1.2 else p.1.1
def layWL (n : Int) (L : List (Edge × Int)) : List Int := (List.range n.toNat).map fun (p : Nat) => parC ((L.filter fun z => decide (laterP z = (p : Int))).length) 1
def AllOdd (n : Int) (es : List Edge) (ls : List Int) : Prop := ∀ r, 0 ≤ r → r < n → cS n es ls r % 2 = 1
end DL
namespace DL
open PySem PySem.Spec PyProof.Rows L2
end DL
/-! DL: a display of one pair whose key is a tuple; one statement at a time. -/
namespace DL
open PySem PySem.Spec PyProof.Rows L2
theorem seqG {u v : TDS} {q : DEnds} {ρ : DEnv} (h : ∀ K : DEnv → Prop, K = v q → u { q with nx := K } ρ) : tdSeq u v q ρ := h _ rfl
section
variable {X : Cx} {e a b c tg iter kx vx : Expr} {es : List Expr} {pos : Pos} {t ta tb tc tk tv : TDE}
/-! ### {k: v}, k a tuple -/
def tDispT (tk tv : TE) : TE := fun σ H Q => ∀ p, H p = none → tk σ (upd H p (.dT [])) fun x H1 => tv σ H1 fun y H2 => H2 p = some (.dT []) ∧ ∃ (k : List Key) (b : Addr), x = .ref b ∧ H2 b = some (.tup (k.map kV)) ∧ Q (.ref p) (upd H2 p (.dT [(k, y)]))
/-- .. a dict of one's own -/
structure DFT (X : Cx) (e : Expr) (t : DEnv → (List (List Key × PyData) → DEnv → Prop) → Prop) : Prop where
  ex : ∃ te, PE X e te ∧ ∀ C σ H ρ q Q, EnvD C X.K H σ ρ → t ρ q → (∀ a kvV H' kvs ρ', EnvD (C.with a) X.K H' σ ρ' → Step C ρ H ρ' H' → H a = none → H' a = some (.dT kvV) → kvV.map (·.1) = kvs.map (·.1) → DpAll X.K (hide (hs (C.with a) ρ') H') (kvV.map (·.2)) (kvs.map (·.2)) → q kvs ρ' → Q (.ref a) H') → te σ H Q
def tdDisT (tk tv : TDE) : DEnv → (List (List Key × PyData) → DEnv → Prop) → Prop := fun ρ q => tk ρ fun kd ρ1 => tv ρ1 fun d ρ2 => ∃ k : List Int, kd = tI k ∧ q [(keyI k, d)] ρ2
/-- name, name, name = value, new dict of one's own (keys tuples), value -/
def tdParSDS (i j l : Nat) (ta : TDE) (tb : DEnv → (List (List Key × PyData) → DEnv → Prop) → Prop) (tc : TDE) : TDS := fun q ρ => ta ρ fun x ρ1 => tb ρ1 fun kvs ρ2 => tc ρ2 fun z ρ3 => ∀ m, m ∉ owns ρ3 → q.nx (((ρ3.set i (.sh x)).set j (.dic m (.T kvs))).set l (.sh z))
end
end DL
/-! DL: dicts whose keys are states; what is met, turn by turn. -/
namespace DL
open PySem PySem.Spec PyProof.Rows L2
def dB (kc : List (Nat × Nat)) : List (List Int × PyData) := kc.map fun p => (bitsOf p.1, .int (p.2 : Nat))
section
variable {n : Int} {es : List Edge} {ls : List Int} {to : List Nat}
/-- which steps count: those from the rows that are done, and some of those from one more -/
def stepB (L : List Nat) (c : Nat) (D : List Int) (s p : Nat) : Bool := decide (s ∈ L) || (decide (s = c) && decide ((p : Int) ∈ D))
def partT (n : Int) (es : List Edge) (ls : List Int) (to : List Nat) (L : List Nat) (c : Nat) (D : List Int) (t : Nat) : Nat :=
  ((List.range n.toNat).map fun p => if (t.testBit p && (hdB n es ls (t ^^^ 2 ^ p) p && stepB L c D (t ^^^ 2 ^ p) p)) = true then to.getD (t ^^^ 2 ^ p) 0 else 0).sum
/-- the rows of one size -/
def RowsOk (n : Int) (to : List Nat) (m : Nat) (L : List Nat) : Prop := L.Nodup ∧ ∀ s, s ∈ L ↔ s < 2 ^ n.toNat ∧ (bitsOf s).length = m ∧ 0 < to.getD s 0
/-- what is met up to a size -/
def FoundOk (n : Int) (to : List Nat) (m : Nat) (kc : List (Nat × Nat)) : Prop := NOk kc ∧ (∃ v r, kc = (0, v) :: r) ∧ ∀ t, valN kc t = if t < 2 ^ n.toNat ∧ (bitsOf t).length ≤ m then to.getD t 0 else 0
def MoreOk (n : Int) (es : List Edge) (ls : List Int) (to L : List Nat) (c : Nat) (D : List Int) (kc : List (Nat × Nat)) : Prop := NOk kc ∧ ∀ t, valN kc t = if t < 2 ^ n.toNat then partT n es ls to L c D t else 0
/-- all that is met -/
def MetOk (n : Int) (es : List Edge) (ls : List Int) (kc : List (Nat × Nat)) : Prop := NOk kc ∧ (∃ v r, kc = (0, v) :: r) ∧ ∃ to, ToOk n es ls to ∧ ∀ t, valN kc t = if t < 2 ^ n.toNat then to.getD t 0 else 0
/-- .. and the new ones are put to them, one by one -/
def JoinOk (n : Int) (to : List Nat) (m : Nat) (ks : List Nat) (kc : List (Nat × Nat)) : Prop := NOk kc ∧ (∃ v r, kc = (0, v) :: r) ∧ ∀ t, valN kc t = if t < 2 ^ n.toNat ∧ ((bitsOf t).length ≤ m ∨ t ∈ ks) then to.getD t 0 else 0
/-- the heads below a place -/
def hdJ (h : List Int) (j : Nat) : List Int := ((List.range j).filter fun p => decide (h[p]? = some 1)).map fun (p : Nat) => (p : Int)
end
end DL
/-! DL: all ways go through states of each size. -/
namespace DL
open PySem PySem.Spec PyProof.Rows L2
section
variable {n : Int} {es : List Edge} {ls : List Int} {to : List Nat}
def onC (n : Int) (es : List Edge) (ls : List Int) (t : Nat) : Nat := cnt es (n.toNat - (bitsOf t).length) (stB n es ls t)
def levS (n : Int) (es : List Edge) (ls : List Int) (to : List Nat) (m : Nat) : Nat := ((List.range (2 ^ n.toNat)).map fun t => if (bitsOf t).length = m then to.getD t 0 * onC n es ls t else 0).sum
end
end DL
/-! DL: sorted(set(xs)), xs a list of ints. -/
namespace DL
open PySem PySem.Spec PyProof.Rows L2
section
variable {P : Program} {w : World} {A : Around} {E : Value → Shared → Prop} {s : Shared}
end
section
variable {X : Cx} {e a b c tg iter : Expr} {es : List Expr} {pos : Pos} {t ta tb tc : TDE}
def rSetL (K : PySem.W.Frag) (w : World) : List V → Hp → VK → Prop := fun xs H Q => ∃ (l : Addr) (ns U : List Int), xs = [V.ref l] ∧ (SqL K H l (ns.map V.int) ∨ SqT K H l (ns.map V.int)) ∧ ns.length ≤ 4000 ∧ (∀ k ∈ ns, k ∈ U) ∧ U.length < 64 ∧ ∀ (p : Addr) (c : Nat), H p = none → c < 64 → Q (.ref p) (upd H p (SetO w p (fun j => decide (j ∈ ns)) c))
/-- sorted(set(xs)), xs a list or tuple of ints -/
def tdSortSet (ta : TDE) : TDA := fun ρ q => ta ρ fun d ρ1 => ∃ ns U : List Int, (d = .list (ns.map .int) ∨ d = .tuple (ns.map .int)) ∧ ns.length ≤ 4000 ∧ (∀ k ∈ ns, k ∈ U) ∧ U.length < 64 ∧ ∀ m : List Int, m.Pairwise (· < ·) → (∀ k, k ∈ m ↔ k ∈ ns) → q (m.map .int) ρ1
end
end DL
/-! DL: which places can go first, which can go last (webs without rings). -/
namespace DL
open PySem PySem.Spec PyProof.Rows L2
section
variable {n : Int} {es : List Edge} {ls ks : List Int}
noncomputable def wayE (n : Int) (es : List Edge) (ls : List Int) (e : Edge) : Int := 1 - lowS n es ls e % 2
/-- the places that no edge has on its side s -/
def metS (s : Int) (e : Edge) (w : Int) : Int := if s = 0 then metE e w else metE e (1 - w)
noncomputable def endL (s : Int) (n : Int) (es : List Edge) (ls : List Int) : List Int := (plc n).filter fun p => dec (∀ e ∈ es, metS s e (wayE n es ls e) ≠ p)
/-- the far sides of the edges at a place -/
noncomputable def farF (n : Int) (es : List Edge) (ls : List Int) (k : Int) : List Int := (es.filter fun e => decide (k = e.1 ∨ k = e.2)).map fun e => if e.1 = k then cS n es ls e.1 - cS n (cutE es e) ls e.1 else cS n (cutE es e) ls e.1
def dueF (n : Int) (es : List Edge) (ls : List Int) (k : Int) : Prop := gl ls k = 1 ∧ ∀ x ∈ farF n es ls k, ¬ x % 2 = 1
noncomputable def dueFJ (n : Int) (es : List Edge) (ls : List Int) (j : Nat) : List Int := ((List.range j).filter fun (k : Nat) => dec (dueF n es ls (k : Int))).map fun (k : Nat) => (k : Int)
end
end DL
/-! DL: names that go along the edges end as the least place of each part; a web without a place. -/
namespace DL
open PySem PySem.Spec PyProof.Rows L2
section
variable {n : Int} {es : List Edge}
structure LabOk (n : Int) (es : List Edge) (ls : List Int) : Prop where
  len : (ls.length : Int) = n
  val : ∀ x, 0 ≤ x → x < n → 0 ≤ gl ls x ∧ gl ls x ≤ x ∧ Con es (gl ls x) x
/-- one turn over all edges -/
structure Rnd (n : Int) (es : List Edge) (done : List Edge) (a b : List Int) : Prop where
  ok : LabOk n es b
  le : ∀ x, 0 ≤ x → x < n → gl b x ≤ gl a x
  ed : ∀ e ∈ done, gl b e.1 ≤ gl a e.2 ∧ gl b e.2 ≤ gl a e.1
def Closed (n : Int) (es : List Edge) (ls : List Int) (r : Int) : Prop := ∀ x, 0 ≤ x → x < n → Con es r x → gl ls x = r
def LabAt (n : Int) (es : List Edge) (t : Nat) (ls : List Int) : Prop := LabOk n es ls ∧ ∀ r, 0 ≤ r → r < n → Rep es r → Closed n es ls r ∨ t + 1 ≤ (setL n fun x => gl ls x = r).length
/-! ### a web without a place -/
def shP (p x : Int) : Int := x - if p < x then 1 else 0
def woE (p : Int) (es : List Edge) : List Edge := (es.filter fun e => decide (e.1 ≠ p ∧ e.2 ≠ p)).map fun e => (shP p e.1, shP p e.2)
end
end DL
/-! DL: the way an order goes in a forest; what the first take leaves. -/
namespace DL
open PySem PySem.Spec PyProof.Rows L2
variable {n : Int} {es : List Edge} {ks ts : List Int}
theorem bef_idx (O : OrdOk n ks) {x y : Int} (hx : 0 ≤ x ∧ x < n) (hy : 0 ≤ y ∧ y < n) : bef ks x y ↔ ks.idxOf x < ks.idxOf y := by
  have m1 := O.all hx.1 hx.2
  have i1 := List.idxOf_lt_length_of_mem m1
  have g1 : ks[ks.idxOf x]'i1 = x := List.getElem_idxOf i1
  unfold bef
  constructor
  · intro z
    obtain ⟨i, h1, h2⟩ := List.mem_take_iff_getElem.mp z
    have q := idx_at O.nd (i := i) (by omega)
    rw [h2] at q
    omega
  · intro z
    have hy : ks.idxOf y ≤ ks.length := List.idxOf_le_length
    exact List.mem_take_iff_getElem.mpr ⟨ks.idxOf x, by omega, g1⟩
/-- which end of an edge goes first -/
def wvE (ks : List Int) (e : Edge) : Int := if ks.idxOf e.2 < ks.idxOf e.1 then 1 else 0
/-! ### without the place that is taken first -/
def unP (p x : Int) : Int := if p ≤ x then x + 1 else x
end DL
/-! DL: trees: what fits a laying told in part. -/
namespace DL
open PySem PySem.Spec PyProof.Rows L2
variable {n : Int} {es : List Edge} {ss ls : List Int}
/-! ### every place open -/
theorem filt_both {α : Type} (p : α → Bool) : ∀ l : List α, l.length = (l.filter p).length + (l.filter fun x => !p x).length
  | [] => rfl
  | x :: l => by
    have := filt_both p l
    rw [List.filter_cons, List.filter_cons, List.length_cons]
    cases p x with
    | true => simp; omega
    | false => simp; omega
/-! ### one place set either way -/
/-! ### how many fit -/
def parN (m : Nat) (ss : List Int) (b : Int) : Nat := ((lays m).filter fun l => decide (l.sum % 2 = b) && fitL (m : Int) ss l).length
end DL
/-! DL: orders that keep a way: which end of each edge goes first, and which later. -/
namespace DL
open PySem PySem.Spec PyProof.Rows L2
/-- the end of an edge that goes first -/
def firP (z : Edge × Int) : Int := if z.2 = 0 then z.1.1 else z.1.2
/-- the masks, place by place: the other ends -/
def mkM (lo hi : Edge × Int → Int) (Z : List (Edge × Int)) (p : Int) : Nat := Z.foldl (fun m z => if lo z = p then m ||| 2 ^ (hi z).toNat else m) 0
/-- the places that stand ahead of p -/
abbrev earM (Z : List (Edge × Int)) (p : Int) : Nat := mkM laterP firP Z p
def rdyW (Z : List (Edge × Int)) (s p : Nat) : Bool := !s.testBit p && decide (earM Z p &&& s = earM Z p)
def cntW (n : Nat) (Z : List (Edge × Int)) : Nat → Nat → Nat
  | 0, _ => 1
  | m + 1, s => ((List.range n).map fun p => if rdyW Z s p = true then cntW n Z m (s ||| 2 ^ p) else 0).sum
def oW (n : Nat) (Z : List (Edge × Int)) : Nat → Nat → List (List Int)
  | 0, _ => [[]]
  | m + 1, s => (List.range n).flatMap fun p => if rdyW Z s p = true then (oW n Z m (s ||| 2 ^ p)).map fun r => (p : Int) :: r else []
structure OkW (n : Nat) (Z : List (Edge × Int)) (m s : Nat) (ks : List Int) : Prop where
  len : ks.length = m
  nd : ks.Nodup
  rng : ∀ k ∈ ks, 0 ≤ k ∧ k < n ∧ s.testBit k.toNat = false
  way : ∀ i, ∀ h : i < ks.length, ∀ z ∈ Z, laterP z = ks[i] → s.testBit (firP z).toNat = true ∨ firP z ∈ ks.take i
/-- the orders that keep the way -/
def KeepW (n : Int) (Z : List (Edge × Int)) (ks : List Int) : Prop := OrdOk n ks ∧ ∀ z ∈ Z, bef ks (firP z) (laterP z)
/-- turned round -/
def bckZ (Z : List (Edge × Int)) : List (Edge × Int) := Z.map fun z => (z.1, 1 - z.2)
/-- the table of the ways on -/
def RdyT (n : Int) (Z : List (Edge × Int)) (rs : List Nat) : Prop := rs.length = 2 ^ n.toNat ∧ ∀ s m : Nat, rs[s]? = some m → ∀ j, m.testBit j = (decide (j < n.toNat) && rdyW Z s j)
/-- the table of the later ends, as it is built -/
def mkD (n : Int) (L : List (Edge × Int)) : List PyData := (List.range n.toNat).map fun (p : Nat) => .int (mkM firP laterP L (p : Int) : Nat)
/-! ### two ways compared -/
def cnt3 (P : Edge → Int → Int → Bool) : List Edge → List Int → List Int → Nat
  | e :: es, w :: ws, v :: vs => (if P e w v = true then 1 else 0) + cnt3 P es ws vs
  | _, _, _ => 0
def latN (es : List Edge) (ws : List Int) (x : Int) : Nat := ((es.zip ws).filter fun z => decide (laterP z = x)).length
def tchP (x : Int) (e : Edge) (w v : Int) : Bool := decide (w ≠ v) && decide (x = e.1 ∨ x = e.2)
end DL
/-! DL: {} as data; values that claim to be the cheapest turn. -/
namespace DL
open PySem PySem.Spec PyProof.Rows L2
section
variable {X : Cx} {pos : Pos}
end
/-! ### values that claim to be a turn -/
def bitsV (d : PyData) (n : Int) : Bool := match d with
  | .tuple xs => decide ((xs.length : Int) = n) && xs.all fun x => betw x 0 1
  | _ => false
def vecV (d : PyData) (n : Int) : Bool := match d with
  | .tuple xs => decide ((xs.length : Int) = n) && xs.all isIntD
  | _ => false
def HdV (x : PyData) : Prop := (∃ i, x = .int i) ∨ (∃ b, x = .bool b) ∨ ∃ ts, x = tI ts
inductive TlV (n : Int) : PyData → Prop
  | int (i : Int) : TlV n (.int i)
  | lst (ts : List Int) : TlV n (.list (ts.map .int))
  | full (ts : List Int) : Full n ts → TlV n (tI ts)
  | odd (ts : List Int) : (ts.length : Int) ≠ n → ts.length ≤ 100 → TlV n (tI ts)
  | bad (d : PyData) (ts : List Int) : (d = .none ∨ ∃ b, d = .bool b) → ts.length ≤ 100 → TlV n (.tuple (d :: ts.map .int))
inductive VOk (n : Int) : PyData → Prop
  | non : VOk n .none
  | int (i : Int) : VOk n (.int i)
  | dct : VOk n (.dict [])
  | lst (xs : List PyData) : VOk n (.list xs)
  | tup (xs : List PyData) : xs.length ≠ 2 → xs.length ≤ 100 → VOk n (.tuple xs)
  | pair (x y : PyData) : HdV x → TlV n y → VOk n (.tuple [x, y])
def TurnV (n c : Int) (es : List Edge) (ps ls : List Int) (v : PyData) : Prop := ∃ ts, v = .tuple [.int c, tI ts] ∧ Full n ts ∧ 0 < cnt es n.toNat ts ∧ costL ps ls ts = c
noncomputable def turnV (n c : Int) (es : List Edge) (ps ls : List Int) (v : PyData) : Bool := dec (TurnV n c es ps ls v)
def VItem (x : PyData) : Prop := (∃ i, x = .int i) ∨ (∃ b, x = .bool b) ∨ x = .none ∨ ∃ ts, x = tI ts
theorem VItem.sh {x : PyData} (h : VItem x) : SeqAt.shaped x = true := by
  rcases h with ⟨i, rfl⟩ | ⟨b, rfl⟩ | rfl | ⟨ts, rfl⟩
  · rfl
  · rfl
  · rfl
  · exact sh_tI ts
end DL
/-! DL: sorted(set(xs)), xs a list or tuple of tuples of ints, all of one length. -/
namespace DL
open PySem PySem.Spec PyProof.Rows L2
section
variable {X : Cx} {a : Expr} {pos : Pos} {ta : TDE}
def tdSortSetT (ta : TDE) : TDA := fun ρ q => ta ρ fun d ρ1 => ∃ (ts : List (List Int)) (n : Nat) (B : Int), d = .list (ts.map tI) ∧ ts.length < 64 ∧ 1 ≤ n ∧ (∀ t ∈ ts, t.length = n ∧ TS.Bd B t) ∧ ∀ ms : List (List Int), ms.Pairwise (· < ·) → (∀ t, t ∈ ms ↔ t ∈ ts) → q (ms.map tI) ρ1
end
section
variable {X : Cx}
end
section
variable {X : Cx}
end
/-- all of it places -/
def plsV (d : PyData) (n : Int) : Bool := match d with
  | .tuple xs => xs.all fun x => betw x 0 (n - 1)
  | _ => false
noncomputable def ordV (n : Int) (d : PyData) : Bool := dec (∃ ks, d = tI ks ∧ OrdOk n ks)
section
variable {X : Cx} {a b c : Expr} {pos : Pos} {ta tb tc : TDE}
/-- a < b < c as a test -/
def tdChainT (rd rd' : RD2) (ta tb tc : TDE) : TDT := fun ρ q => tdChain rd rd' ta tb tc ρ fun z ρ' => ∃ k, z = .bool k ∧ q k ρ'
end
/-- another order clears the laying of those that were told -/
def FitsX (n : Int) (es : List Edge) (t : List Int) (ts : List (List Int)) : Prop := (∀ u ∈ ts, layOf n es u = layOf n es t) ∧ ∃ o, o ∈ ords es n (layOf n es t) ∧ o ∉ t :: ts
def ThirdX (n : Int) (es : List Edge) (t : List Int) (ts : List (List Int)) (v : PyData) : Prop := ∃ ks, v = tI ks ∧ OrdOk n ks ∧ ks ∉ t :: ts ∧ layOf n es ks = layOf n es t
noncomputable def thirdV (n : Int) (es : List Edge) (t : List Int) (ts : List (List Int)) (v : PyData) : Bool := if dec (FitsX n es t ts) = true then dec (ThirdX n es t ts v) else isNoneD v
inductive VT : PyData → Prop
  | non : VT .none
  | int (i : Int) : VT (.int i)
  | dct : VT (.dict [])
  | str (x : Str) : VT (.str x)
  | lst (xs : List PyData) : VT (.list xs)
  | tup (us : List Int) : us.length ≤ 100 → VT (tI us)
  | bad (us : List Int) : us.length ≤ 100 → VT (.tuple (.bool true :: us.map .int))
end DL
/-! DL: name, name = value, {k: v}; groups of places (the sets in a set), signs of groups, rounds of takes. -/
namespace DL
open PySem PySem.Spec PyProof.Rows L2
section
variable {X : Cx} {a b : Expr} {pos : Pos} {ta : TDE}
def tdParSDi (i j : Nat) (ta : TDE) (tb : DEnv → (List (List Key × PyData) → DEnv → Prop) → Prop) : TDS := fun q ρ => ta ρ fun x ρ1 => tb ρ1 fun kvs ρ2 => ∀ m, m ∉ owns ρ2 → q.nx ((ρ2.set i (.sh x)).set j (.dic m (.T kvs)))
end
/-! ### sets in a set -/
theorem sub_step : ∀ (g h m : Nat), g &&& m = g → h &&& m = h → h < g → h ≤ (g - 1) &&& m := by
  intro g
  induction g using Nat.strongRecOn with
  | ind g ih =>
    intro h m hg hh hlt
    have g2 : g / 2 &&& m / 2 = g / 2 := by rw [← Nat.and_div_two, hg]
    have h2 : h / 2 &&& m / 2 = h / 2 := by rw [← Nat.and_div_two, hh]
    have x2 : ((g - 1) &&& m) / 2 = (g - 1) / 2 &&& m / 2 := Nat.and_div_two
    by_cases o : g % 2 = 1
    · rw [show (g - 1) / 2 = g / 2 by omega, g2] at x2
      omega
    · have e := ih (g / 2) (by omega) (h / 2) (m / 2) g2 h2 (by omega)
      rw [show g / 2 - 1 = (g - 1) / 2 by omega, ← x2] at e
      by_cases p : h % 2 = 1
      · have m1 : m % 2 = 1 := (Nat.and_mod_two_eq_one.mp (by rw [hh]; exact p)).2
        have : ((g - 1) &&& m) % 2 = 1 := Nat.and_mod_two_eq_one.mpr ⟨by omega, m1⟩
        omega
      · omega
structure Grp (m : Nat) (gs : List Nat) : Prop where
  nd : gs.Nodup
  mem : ∀ g, g ∈ gs ↔ g ≠ 0 ∧ g &&& m = g
structure GrpTo (m g : Nat) (gs : List Nat) : Prop where
  sub : g &&& m = g
  nd : gs.Nodup
  mem : ∀ h, h ∈ gs ↔ g < h ∧ h &&& m = h
theorem and_le_of {g m : Nat} (h : g &&& m = g) : g ≤ m := by rw [← h]; exact Nat.and_le_right
theorem GrpTo.start (m : Nat) : GrpTo m m [] := ⟨Nat.and_self m, List.nodup_nil, fun h => ⟨fun z => (nomatch z), fun ⟨a, b⟩ => by have := and_le_of b; omega⟩⟩
theorem GrpTo.step {m g : Nat} {gs : List Nat} (G : GrpTo m g gs) (h0 : 0 < g) : GrpTo m ((g - 1) &&& m) (gs ++ [g]) := by
  have lt : (g - 1) &&& m < g := Nat.lt_of_le_of_lt Nat.and_le_left (by omega)
  refine ⟨by rw [Nat.and_assoc, Nat.and_self], List.nodup_append.mpr ⟨G.nd, by simp, fun a ha b hb e => ?_⟩, fun h => ?_⟩
  · have := ((G.mem a).mp ha).1
    have : b = g := by simpa using hb
    omega
  · rw [List.mem_append, List.mem_singleton, G.mem]
    constructor
    · rintro (⟨a, b⟩ | rfl)
      · exact ⟨by omega, b⟩
      · exact ⟨lt, G.sub⟩
    · rintro ⟨a, b⟩
      by_cases q : g < h
      · exact .inl ⟨q, b⟩
      · refine .inr (Nat.le_antisymm (by omega) ?_)
        refine Nat.le_of_not_lt fun z => ?_
        have := sub_step g h m G.sub b z
        omega
theorem GrpTo.fin {m : Nat} {gs : List Nat} (G : GrpTo m 0 gs) : Grp m gs := ⟨G.nd, fun g => by rw [G.mem]; exact ⟨fun ⟨a, b⟩ => ⟨by omega, b⟩, fun ⟨a, b⟩ => ⟨by omega, b⟩⟩⟩
/-! ### signs of groups -/
def LowB (g k : Nat) : Prop := g.testBit k = true ∧ ∀ j, (g &&& (g - 1)).testBit j = (g.testBit j && !decide (j = k))
def IndM (es : List Edge) (g : Nat) : Prop := ∀ a b : Nat, g.testBit a = true → g.testBit b = true → adj es a b = false
structure SgTo (es : List Edge) (sg : List Int) : Prop where
  zero : sg[0]? = some (-1)
  eq : ∀ g, 0 < g → g < sg.length → ∃ k, LowB g k ∧ ((∃ j : Nat, g.testBit j = true ∧ adj es k j = true) → sg.getD g 0 = 0) ∧ ((¬ ∃ j : Nat, g.testBit j = true ∧ adj es k j = true) → sg.getD g 0 = - sg.getD (g ^^^ 2 ^ k) 0)
def SgOk (n : Int) (es : List Edge) (sg : List Int) : Prop := SgTo es sg ∧ sg.length = 2 ^ n.toNat
theorem SgTo.start (es : List Edge) : SgTo es [-1] := ⟨rfl, fun g h1 h2 => by simp at h2; omega⟩
theorem SgTo.step {es : List Edge} {sg : List Int} {k : Nat} {v : Int} (S : SgTo es sg) (L : LowB sg.length k) (h1 : (∃ j : Nat, sg.length.testBit j = true ∧ adj es k j = true) → v = 0) (h2 : (¬ ∃ j : Nat, sg.length.testBit j = true ∧ adj es k j = true) → v = - sg.getD (sg.length ^^^ 2 ^ k) 0) : SgTo es (sg ++ [v]) := by
  have l0 : 0 < sg.length := by
    have := S.zero
    rcases Nat.eq_zero_or_pos sg.length with z | z
    · rw [List.getElem?_eq_none (by omega)] at this; cases this
    · exact z
  refine ⟨by rw [List.getElem?_append_left l0]; exact S.zero, fun g g1 g2 => ?_⟩
  rw [List.length_append, List.length_singleton] at g2
  have old : ∀ j, j < sg.length → (sg ++ [v]).getD j 0 = sg.getD j 0 := fun j hj => by rw [List.getD_eq_getElem?_getD, List.getElem?_append_left hj, List.getD_eq_getElem?_getD]
  by_cases q : g < sg.length
  · obtain ⟨k', a, b, c⟩ := S.eq g g1 q
    refine ⟨k', a, fun z => by rw [old g q]; exact b z, fun z => ?_⟩
    rw [old g q, old _ (Nat.lt_trans (xor_lt a.1) q)]
    exact c z
  · have e : g = sg.length := by omega
    subst e
    have new : (sg ++ [v]).getD sg.length 0 = v := by rw [List.getD_eq_getElem?_getD, List.getElem?_append_right (Nat.le_refl _), Nat.sub_self]; rfl
    refine ⟨k, L, fun z => by rw [new]; exact h1 z, fun z => ?_⟩
    rw [new, old _ (xor_lt L.1)]
    exact h2 z
theorem xor_bitk {g k j : Nat} (h : g.testBit k = true) : (g ^^^ 2 ^ k).testBit j = (g.testBit j && !decide (j = k)) := by
  rw [Nat.testBit_xor, Nat.testBit_two_pow]
  by_cases e : j = k
  · subst e; rw [h]; simp
  · have : ¬ k = j := fun z => e z.symm
    simp [e, this]
end DL
/-! DL: rounds of takes. -/
namespace DL
open PySem PySem.Spec PyProof.Rows L2
def Grp1 (n : Int) (es : List Edge) (ls : List Int) (s g : Nat) : Prop := g ≠ 0 ∧ IndM es g ∧ ∀ j : Nat, g.testBit j = true → (j : Int) ∈ headsL (stB n es ls s)
def Rou (n : Int) (es : List Edge) (ls : List Int) : Nat → Nat → Prop
  | 0, s => s = 2 ^ n.toNat - 1
  | k + 1, s => ∃ g, Grp1 n es ls s g ∧ Rou n es ls k (s ||| g)
def Fw (n : Int) (es : List Edge) (ls : List Int) : Nat → Nat → Prop
  | 0, s => s = 0
  | t + 1, s => ∃ r g, Fw n es ls t r ∧ Grp1 n es ls r g ∧ s = r ||| g
def IsL (P : Nat → Prop) : Option Nat → Prop
  | none => ∀ k, ¬ P k
  | some k => P k ∧ ∀ j, P j → k ≤ j
theorem IsL.uniq {P : Nat → Prop} : ∀ {o o' : Option Nat}, IsL P o → IsL P o' → o = o'
  | none, none, _, _ => rfl
  | none, some k, h, h' => absurd h'.1 (h k)
  | some k, none, h, h' => absurd h.1 (h' k)
  | some k, some k', h, h' => by have a := h.2 _ h'.1; have b := h'.2 _ h.1; congr 1; omega
theorem IsL.congr {P Q : Nat → Prop} (e : ∀ k, P k ↔ Q k) : ∀ {o : Option Nat}, IsL P o → IsL Q o
  | none, h => fun k z => h k ((e k).mpr z)
  | some k, h => ⟨(e k).mp h.1, fun j z => h.2 j ((e j).mpr z)⟩
section
variable {n : Int} {es : List Edge} {ls : List Int}
theorem Grp1.bit {s g j : Nat} (G : Grp1 n es ls s g) (h : g.testBit j = true) : (j : Int) < n ∧ s.testBit j = false := by
  obtain ⟨a, b, c, d⟩ := stB_head (G.2.2 j h)
  exact ⟨b, by simpa using c⟩
theorem Grp1.lt {s g : Nat} (G : Grp1 n es ls s g) : g < 2 ^ n.toNat := by
  apply Nat.lt_pow_two_of_testBit
  intro j hj
  refine Bool.eq_false_iff.mpr fun z => ?_
  have := (G.bit z).1
  omega
theorem Grp1.or_lt {s g : Nat} (G : Grp1 n es ls s g) (h : s < 2 ^ n.toNat) : s ||| g < 2 ^ n.toNat := Nat.or_lt_two_pow h G.lt
theorem bit_ex {g : Nat} (h : g ≠ 0) : ∃ j : Nat, g.testBit j = true := by
  obtain ⟨k, a, _⟩ := low_bit g (by omega)
  exact ⟨k, a⟩
theorem Grp1.gt {s g : Nat} (G : Grp1 n es ls s g) : s < s ||| g := by
  obtain ⟨j, hj⟩ := bit_ex G.1
  have le : s ≤ s ||| g := Nat.left_le_or
  refine Nat.lt_of_le_of_ne le fun e => ?_
  have := (G.bit hj).2
  rw [e, Nat.testBit_or, hj] at this
  simp at this
theorem Grp1.more {s g : Nat} (G : Grp1 n es ls s g) : (bitsOf s).length < (bitsOf (s ||| g)).length := by
  obtain ⟨j, hj⟩ := bit_ex G.1
  have nd : ∀ m, (bitsOf m).Nodup := fun m => (bitsOf_asc m).imp fun {a b} h => by omega
  have : ((j : Int) :: bitsOf s).Nodup := List.nodup_cons.mpr ⟨fun z => absurd (mem_bitsOf.mp z).2 (by rw [Int.toNat_natCast, (G.bit hj).2]; decide), nd s⟩
  have := this.length_le_of_subset (l₂ := bitsOf (s ||| g)) fun x hx => by
    rcases List.mem_cons.mp hx with rfl | hx
    · exact mem_bitsOf.mpr ⟨by omega, by rw [Int.toNat_natCast, Nat.testBit_or, hj, Bool.or_true]⟩
    · obtain ⟨a, b⟩ := mem_bitsOf.mp hx
      exact mem_bitsOf.mpr ⟨a, by rw [Nat.testBit_or, b, Bool.true_or]⟩
  rw [List.length_cons] at this
  exact this
theorem fw_rnd : ∀ (t k s : Nat), Fw n es ls t s → Rou n es ls k s → Rou n es ls (t + k) 0
  | 0, k, s, h, h' => by
    have : s = 0 := h
    subst this
    rw [Nat.zero_add]; exact h'
  | t + 1, k, s, ⟨r, g, a, b, e⟩, h' => by
    subst e
    have := fw_rnd t (k + 1) r a ⟨g, b, h'⟩
    rw [show t + 1 + k = t + (k + 1) by omega]; exact this
theorem rnd_fw : ∀ (k t s : Nat), Rou n es ls k s → Fw n es ls t s → Fw n es ls (t + k) (2 ^ n.toNat - 1)
  | 0, t, s, h, h' => by
    have : s = 2 ^ n.toNat - 1 := h
    subst this
    exact h'
  | k + 1, t, s, ⟨g, a, b⟩, h' => by
    have := rnd_fw k (t + 1) _ b ⟨s, g, h', a, rfl⟩
    rw [show t + (k + 1) = t + 1 + k by omega]; exact this
theorem fw_iff (k : Nat) : Fw n es ls k (2 ^ n.toNat - 1) ↔ Rou n es ls k 0 := ⟨fun h => fw_rnd k 0 _ h rfl, fun h => by have := rnd_fw k 0 0 h rfl; rwa [Nat.zero_add] at this⟩
theorem fw_len : ∀ (t s : Nat), Fw n es ls t s → s < 2 ^ n.toNat ∧ t ≤ (bitsOf s).length
  | 0, s, h => by
    have : s = 0 := h
    subst this
    exact ⟨Nat.two_pow_pos _, Nat.zero_le _⟩
  | t + 1, s, ⟨r, g, a, b, e⟩ => by
    subst e
    obtain ⟨h1, h2⟩ := fw_len t r a
    have := b.more
    exact ⟨b.or_lt h1, by omega⟩
/-! the table -/
structure RdSt (n : Int) (es : List Edge) (ls : List Int) (i : Nat) (R : List (Option Nat)) : Prop where
  len : R.length = 2 ^ n.toNat
  eq : ∀ s, i ≤ s → s < 2 ^ n.toNat → IsL (fun k => Rou n es ls k s) (R.getD s none)
def MinOf (R : List (Option Nat)) (i : Nat) (gs : List Nat) : Option Nat → Prop
  | none => ∀ g ∈ gs, R.getD (i ||| g) none = none
  | some m => (∃ g ∈ gs, ∃ k, R.getD (i ||| g) none = some k ∧ m = k + 1) ∧ ∀ g ∈ gs, ∀ k, R.getD (i ||| g) none = some k → m ≤ k + 1
/-! breadth first -/
structure Bf (n : Int) (es : List Edge) (ls : List Int) (t : Nat) (K M : List Nat) : Prop where
  sub : ∀ s ∈ M, s ∈ K
  lt : ∀ s ∈ K, s < 2 ^ n.toNat
  here : ∀ s ∈ M, Fw n es ls t s
  old : ∀ j, j < t → ¬ Fw n es ls j (2 ^ n.toNat - 1)
  cl : ∀ r ∈ K, r ∉ M → r ≠ 2 ^ n.toNat - 1 ∧ ∀ g, Grp1 n es ls r g → r ||| g ∈ K
  all : ∀ j, j ≤ t → ∀ s, Fw n es ls j s → s ∈ K
structure Bm (n : Int) (es : List Edge) (ls : List Int) (t : Nat) (K D m : List Nat) : Prop where
  new : ∀ s ∈ m, Fw n es ls (t + 1) s
  done : ∀ r ∈ D, r ≠ 2 ^ n.toNat - 1 ∧ ∀ g, Grp1 n es ls r g → r ||| g ∈ K ++ m
theorem Bf.start : Bf n es ls 0 [0] [0] := ⟨fun s h => h, fun s h => by rw [List.mem_singleton.mp h]; exact Nat.two_pow_pos _, fun s h => List.mem_singleton.mp h, fun j h => absurd h (Nat.not_lt_zero j), fun r h h' => absurd h h', fun j h s hs => by
  obtain rfl : j = 0 := by omega
  exact List.mem_singleton.mpr hs⟩
theorem Bf.next {t : Nat} {K M m : List Nat} (B : Bf n es ls t K M) (C : Bm n es ls t K M m) : Bf n es ls (t + 1) (K ++ m) m := by
  have cl' : ∀ r ∈ K, r ≠ 2 ^ n.toNat - 1 ∧ ∀ g, Grp1 n es ls r g → r ||| g ∈ K ++ m := fun r hr => by
    by_cases q : r ∈ M
    · exact C.done r q
    · obtain ⟨a, b⟩ := B.cl r hr q
      exact ⟨a, fun g G => List.mem_append_left _ (b g G)⟩
  refine ⟨fun s h => List.mem_append_right _ h, fun s h => ?_, C.new, fun j hj z => ?_, fun r hr h => ?_, fun j hj s hs => ?_⟩
  · rcases List.mem_append.mp h with h | h
    · exact B.lt s h
    · exact (fw_len _ _ (C.new s h)).1
  · by_cases q : j < t
    · exact B.old j q z
    · obtain rfl : j = t := by omega
      exact (cl' _ (B.all j (Nat.le_refl _) _ z)).1 rfl
  · rcases List.mem_append.mp hr with hr | hr
    · exact cl' r hr
    · exact absurd hr h
  · by_cases q : j ≤ t
    · exact List.mem_append_left _ (B.all j q s hs)
    · obtain rfl : j = t + 1 := by omega
      obtain ⟨r, g, a, b, e⟩ := hs
      rw [e]
      exact (cl' r (B.all t (Nat.le_refl _) r a)).2 g b
theorem Bf.hit {t : Nat} {K M : List Nat} (B : Bf n es ls t K M) (h : 2 ^ n.toNat - 1 ∈ M) : IsL (fun k => Rou n es ls k 0) (some t) :=
  ⟨(fw_iff t).mp (B.here _ h), fun j hj => Nat.le_of_not_lt fun z => B.old j z ((fw_iff j).mpr hj)⟩
/-! the lots -/
def LotOk (n : Int) (es : List Edge) (ls : List Int) (s : Nat) (ks : List Int) (G : List Nat) : Prop := ∀ g, g ∈ G ↔ (g = 0 ∨ Grp1 n es ls s g) ∧ ∀ j : Nat, g.testBit j = true → (j : Int) ∈ ks
noncomputable def freeB (es : List Edge) (k g : Nat) : Bool := dec (∀ j : Nat, g.testBit j = true → adj es k j = false)
end
end DL
/-! DL: what can be cleared can be cleared in rounds. -/
namespace DL
open PySem PySem.Spec PyProof.Rows L2
section
variable {n : Int} {es : List Edge} {ls : List Int}
theorem head_stay (W : WebOk n es) (F : Full n ls) {s a b : Nat} (ha : (a : Int) ∈ headsL (stB n es ls s)) (hb : (b : Int) ∈ headsL (stB n es ls s)) (ne : a ≠ b) (na : adj es b a = false) : (a : Int) ∈ headsL (stB n es ls (s ||| 2 ^ b)) := by
  obtain ⟨_, b1, b2, b3⟩ := stB_head hb
  rw [Int.toNat_natCast] at b2
  obtain ⟨_, a1, a2, a3⟩ := stB_head ha
  rw [Int.toNat_natCast] at a3
  rw [← stB_step W F b1 b2]
  have al : a < (stB n es ls s).length := by
    rcases Nat.lt_or_ge a (stB n es ls s).length with z | z
    · exact z
    · rw [List.getElem?_eq_none z] at a3; cases a3
  have g1 := flip_gc (es := es) (k := b) al
  rw [if_neg ne, na, gc_of a3] at g1
  refine mem_headsL.mpr ⟨by omega, ?_⟩
  rw [Int.toNat_natCast]
  have g2 : gc (flip es (b : Int) (stB n es ls s)) a = 1 := by simpa using g1
  unfold gc at g2
  rw [List.getD_eq_getElem?_getD] at g2
  cases q : (flip es (b : Int) (stB n es ls s))[a]? with
  | none => rw [q] at g2; cases g2
  | some v => rw [q] at g2; exact congrArg some g2
def Clr (n : Int) (es : List Edge) (ls : List Int) (s : Nat) : Prop := ∃ m, (bitsOf s).length + m = n.toNat ∧ 0 < cnt es m (stB n es ls s)
theorem Grp1.cut (W : WebOk n es) (F : Full n ls) {s g k : Nat} (G : Grp1 n es ls s g) (hk : g.testBit k = true) : g ^^^ 2 ^ k = 0 ∨ Grp1 n es ls (s ||| 2 ^ k) (g ^^^ 2 ^ k) := by
  by_cases z : g ^^^ 2 ^ k = 0
  · exact .inl z
  · refine .inr ⟨z, fun x y hx hy => ?_, fun j hj => ?_⟩
    · rw [xor_bitk hk, Bool.and_eq_true] at hx hy
      exact G.2.1 x y hx.1 hy.1
    · rw [xor_bitk hk, Bool.and_eq_true] at hj
      have ne : j ≠ k := by simpa using hj.2
      exact head_stay W F (G.2.2 j hj.1) (G.2.2 k hk) ne (G.2.1 k j hk hj.1)
/-! ### tables of groups -/
def GTab (n : Int) (es : List Edge) (ls : List Int) (gt : List (List Nat)) : Prop := gt.length = 2 ^ n.toNat ∧ ∀ (s : Nat) (gs : List Nat), gt[s]? = some gs → gs.length ≤ 512 ∧ ∀ g, g ∈ gs ↔ Grp1 n es ls s g
/-- a plan: groups one after another -/
def Chain (n : Int) (es : List Edge) (ls : List Int) : Nat → List Nat → Prop
  | s, [] => s = 2 ^ n.toNat - 1
  | s, g :: gs => Grp1 n es ls s g ∧ Chain n es ls (s ||| g) gs
def PlanD (n : Int) (es : List Edge) (ls : List Int) (d : PyData) : Prop := (d = .none ∧ IsL (fun k => Rou n es ls k 0) none) ∨ ∃ gs : List Nat, d = .tuple (gs.map fun g => tI (bitsOf g)) ∧ Chain n es ls 0 gs ∧ IsL (fun k => Rou n es ls k 0) (some gs.length)
def knL (n : Int) (es : List Edge) (ls : List Int) (K : List Nat) : List (List Int × PyData) := K.map fun s => (stB n es ls s, PyData.bool true)
def lotD (n : Int) (es : List Edge) (ls : List Int) (s g : Nat) : PyData := .tuple [lD (stB n es ls (s ||| g)), .list ((bitsOf g).map .int)]
end
end DL
/-! DL: t[::-1], t a tuple. -/
namespace HT
open PySem PySem.Spec PyProof.Rows
section
variable {prog : Program} {w : World} {A : Around} {E : Value → Shared → Prop} {s : Shared}
theorem adjust_back (n : Nat) : Builtin.Slice.sliceAdjust none none (-1) (n : Int) = ((n : Int) - 1, -1) := rfl
theorem places_back (n : Nat) : Builtin.Slice.slicePlaces ((n : Int) - 1) (-1) (-1) = n := by
  unfold Builtin.Slice.slicePlaces
  have h1 : ¬ ((-1 : Int) > 0) := by omega
  simp only [h1, if_false]
  have h2 : (- (-1) : Int) = 1 := by decide
  rw [h2, Int.ediv_one]
  split <;> omega
theorem sliceApplied_back {sl : Addr} {t : Tok} {n : Nat} {Q : Int × Int × Nat → Shared → Prop} (hs : s.heap.IsSliceOf sl .none .none (.int (-1) t)) (h : Q ((n : Int) - 1, -1, n) s) :
    wpAny (model prog w) A (Builtin.Slice.sliceApplied (.ref sl) (pure (n : Int))) Q E s := by
  obtain ⟨os, hos, hcs, hds⟩ := id hs
  unfold Builtin.Slice.sliceApplied Builtin.Slice.sliceFields
  refine wpAny_bind (wpAny_bind (wpAny_field hos hds (x := .none) rfl (wpAny_bind (wpAny_field hos hds (x := .none) rfl (wpAny_bind (wpAny_field hos hds (x := .int (-1) t) rfl (wpAny_pure ?_)))))))
  refine wpAny_bind (slicePart_int ?_)
  show wpAny _ _ (if ((-1 : Int) == 0) = true then _ else _) _ _ s
  rw [if_neg (by decide)]
  refine wpAny_bind (slicePart_none (wpAny_bind (slicePart_none (wpAny_bind (wpAny_pure ?_)))))
  show wpAny _ _ (match Builtin.Slice.sliceAdjust none none (-1) (n : Int) with | (lo, hi) => pure (lo, (-1 : Int), Builtin.Slice.slicePlaces lo hi (-1))) _ _ s
  rw [adjust_back n]
  show wpAny _ _ (pure ((n : Int) - 1, (-1 : Int), Builtin.Slice.slicePlaces ((n : Int) - 1) (-1) (-1))) _ _ s
  rw [places_back]
  exact wpAny_pure h
theorem pick_back (xs : Array Value) : ((List.range xs.size).filterMap fun (m : Nat) => xs[((xs.size : Int) - 1 + (m : Int) * (-1)).toNat]?).toArray = xs.toList.reverse.toArray := by
  have e : ((List.range xs.size).filterMap fun (m : Nat) => xs[((xs.size : Int) - 1 + (m : Int) * (-1)).toNat]?) = ((List.range xs.size).map fun k => xs.size - 1 - k).filterMap (xs[·]?) := by
    rw [List.filterMap_map]
    congr 1
    funext m
    show _ = xs[xs.size - 1 - m]?
    congr 1
    omega
  rw [e, PySem.W.krv_range, List.filterMap_reverse, PySem.W.krv_all]
theorem getItem_tuple_back {t sl : Addr} {items : Array Value} {u : Tok} {Q : Value → Shared → Prop} (ht : IsTup s.heap t items) (hs : s.heap.IsSliceOf sl .none .none (.int (-1) u))
    (h : Q (.ref s.heap.objs.size) { s with heap := s.heap.push { cls := .type "tuple", data := .seq items.toList.reverse.toArray } })
    (hsz : items.size ≤ sizeLine) : wpAny (model prog w) A (getItem (.ref t) (.ref sl)) Q E s := by
  have htake : sizeOk (.seq items.toList.reverse.toArray) := by
    show items.toList.reverse.toArray.size ≤ sizeLine
    rw [List.size_toArray, List.length_reverse, Array.length_toList]
    exact hsz
  obtain ⟨os, hos, hcs, hds⟩ := id hs
  have hTs : s.TypeIs (.ref sl) "slice" := ⟨os, hos, hcs⟩
  unfold getItem
  try with_reducible refine wpAny_holding ?_
  first | refine wpAny_bind (wpAny_pure ?_) | skip
  refine wpAny_bind (wpAny_sequenceKey ht.typeIs (by decide) ?_)
  refine wpAny_bind (wpAny_callSpecial?_slot (name := Str.ofString "__getitem__") ht.typeIs PyProof.Rows.slot_tuple_getitem
    (wpAny_call_entry PyProof.Rows.slot_tuple_getitem ht.typeIs entry_tuple_getitem ?_ (args_tuple_getitem _ _)))
  show wpAny _ _ (Builtin.Tuple.tupleItemsOf (.ref t) >>= _) _ _ s
  refine wpAny_bind (tupleItemsOf_ ht ?_)
  refine wpAny_bind (wpAny_typeOf hTs ?_)
  rw [if_pos (by decide)]
  refine wpAny_bind (sliceApplied_back hs ?_)
  have hno : ¬ ((((items.size : Int) - 1) == 0 && (-1 : Int) == 1 && items.size == items.size) = true) := by
    intro q
    rw [Bool.and_eq_true, Bool.and_eq_true] at q
    exact absurd q.1.2 (by decide)
  show wpAny _ _ (if (((items.size : Int) - 1) == 0 && (-1 : Int) == 1 && items.size == items.size) = true then _ else _) _ _ s
  rw [if_neg hno, pick_back]
  first
    | exact wpAny_bind (m := Builtin.Tuple.tupleExact _) (wpAny_newObj_type (wpAny_pure ⟨_, rfl, wpAny_pure h⟩) htake)
    | exact wpAny_bind (m := Builtin.Tuple.tupleExact _) (wpAny_newObj_type (wpAny_bind (wpAny_pure (wpAny_pure ⟨_, rfl, wpAny_pure h⟩))) htake)
    | exact wpAny_bind (wpAny_bind (m := Builtin.Tuple.tupleExact _) (wpAny_newObj_type (wpAny_pure (wpAny_pure ⟨_, rfl, wpAny_pure h⟩)) htake))
    | exact wpAny_bind (wpAny_bind (m := Builtin.Tuple.tupleExact _) (wpAny_newObj_type (wpAny_pure ⟨_, rfl, wpAny_pure h⟩) htake))
end
end HT
namespace DL
open PySem PySem.Spec PyProof.Rows L2
section
variable {X : Cx} {e st : Expr} {te ts : TE} {p2 pos : Pos}
def tBack (K : PySem.W.Frag) (te ts : TE) : TE := fun σ H Q => te σ H fun x H1 => ts σ H1 fun y H2 => y = .int (-1) ∧ ∃ a xs, x = .ref a ∧ SqT K H2 a xs ∧ ∀ p, H2 p = none → Q (.ref p) (upd H2 p (.tup xs.reverse))
theorem pe_back (he : PE X e te) (hst : PE X st ts) : PE X (.Subscript e (.Slice none none (some st) p2) pos) (tBack X.K te ts) := by
  refine ⟨fun pins s σ H Q I h => ?_⟩
  refine Subscript_ (thn (he.run pins s σ H _ I h) fun v s1 ⟨x, H1, I1, r1, q1⟩ => ?_)
  refine wpAny_Slice ?_
  rw [evalPart_none]
  refine wpAny_pure ?_
  refine wpAny_pure ?_
  rw [evalPart_some]
  refine thn (hst.run pins s1 σ H1 _ I1 q1) fun u s2 ⟨y, H2, I2, r2, hy, a, xs, hx, hsq, hq⟩ => ?_
  subst hy
  subst hx
  obtain ⟨t, rfl⟩ := r2
  have I4 : Inv X pins σ H2 { s2 with heap := s2.heap.push { cls := .type "slice", data := .fields #[.none, .none, .int (-1) t] } } := I2.kept (t' := s2.toks) fun b ob q => Heap.get?_push_of_some _ q
  cases r1
  obtain ⟨its, r, ht, hz⟩ := I4.tuple hsq
  have hlen : its.toArray.size = xs.length := by rw [List.size_toArray]; exact r.length.symm
  show wpAny (model X.prog X.w) X.A (subscriptTail e (.Slice none none (some st) p2) (.ref a) (.ref s2.heap.objs.size)) (EP X pins σ Q) X.xe { s2 with heap := s2.heap.push { cls := .type "slice", data := .fields #[.none, .none, .int (-1) t] } }
  refine tail_any (T := "tuple") (ops := [.ref a, .ref s2.heap.objs.size]) ht.typeIs PyProof.Rows.slot_tuple_getitem.lookup ?_ (by with_unfolding_all rfl)
  refine HT.getItem_tuple_back ht (Heap.IsSliceOf.new ..) ?_ (by rw [hlen]; exact hz)
  refine ⟨.ref _, _, I4.laid (t' := s2.toks) (o := .tup xs.reverse) (fun b ob q => Heap.get?_push_of_some _ q) (Nat.le_refl _) ?_, rfl, hq _ (I4.hok.fresh (Nat.le_refl _))⟩
  exact ⟨by rw [List.length_reverse]; exact hz, _, r.reverse, IsTup.new _ _⟩
end
section
variable {X : Cx} {a st : Expr} {pos p2 : Pos} {ta tb : TDE}
theorem DpAll.rev {K : PySem.W.Frag} {H : Hp} : ∀ {vs : List V} {ds : List PyData}, DpAll K H vs ds → DpAll K H vs.reverse ds.reverse
  | _, _, .nil => .nil
  | _, _, .cons a b => by
    rw [List.reverse_cons, List.reverse_cons]
    exact DpAll.append b.rev (.cons a .nil)
/-- t[::-1] -/
def tdBack (ta tb : TDE) : TDE := fun ρ q => ta ρ fun d ρ1 => tb ρ1 fun z ρ2 => match d, z with
  | .tuple ds, .int i => i = -1 ∧ q (.tuple ds.reverse) ρ2
  | _, _ => False
theorem de_back (ha : DE X a ta) (hb : DE X st tb) : DE X (.Subscript a (.Slice none none (some st) p2) pos) (tdBack ta tb) := by
  obtain ⟨pa, ha, qa⟩ := ha.ex
  obtain ⟨pb, hb, qb⟩ := hb.ex
  refine ⟨_, pe_back ha hb, fun C σ H ρ q Q E h k => ?_⟩
  refine qa C σ H ρ _ _ E h fun x H1 d ρ1 E1 s1 B1 h1 => ?_
  refine qb C σ H1 ρ1 _ _ E1 h1 fun y H2 z ρ2 E2 s2 B2 h2 => ?_
  cases d with
  | tuple ds =>
    cases z with
    | int i =>
      obtain ⟨hi, h2⟩ := h2
      subst hi
      have B3 := Dp.le s2.vis B1
      obtain ⟨a0, vs, rfl, sq, D⟩ := Dp.tup_of B3
      cases B2
      refine ⟨rfl, a0, vs, rfl, SqT.le hide_Le sq, fun p hp => ?_⟩
      have l4 : Le H2 (upd H2 p (.tup vs.reverse)) := .upd hp
      have np : p ∉ hs C ρ2 := fun z => by obtain ⟨o, e, _⟩ := E2.hid z; rw [hp] at e; cases e
      refine k _ _ _ ρ2 (E2.le l4) ((s1.trans s2).trans (.le l4)) (.tup (?_) (DpAll.le (hide_le l4) (DpAll.rev D))) h2
      rw [hide_out np]; exact upd_same
    | _ => exact h2.elim
  | _ => exact h2.elim
end
end DL
/-! DL: values that claim to be rounds. -/
namespace DL
open PySem PySem.Spec PyProof.Rows L2
inductive VL : PyData → Prop
  | lst (xs : List PyData) : VL (.list xs)
  | tup (ys : List PyData) : ys.length ≤ 30 → (∀ y ∈ ys, VItem y) → VL (.tuple ys)
inductive VR : PyData → Prop
  | non : VR .none
  | int (i : Int) : VR (.int i)
  | dct : VR (.dict [])
  | lst (xs : List PyData) : VR (.list xs)
  | tup (xs : List PyData) : xs.length ≤ 30 → (∀ x ∈ xs, VL x) → VR (.tuple xs)
/-- an ascending tuple of places, as a value -/
def RisV (n : Int) (d : PyData) : Prop := ∃ S : List Int, d = tI S ∧ StOk n S
/-- a value is what is asked for: none where there is none, else so many groups that clear -/
def RdsV (n : Int) (es : List Edge) (ls : List Int) (o : Option Nat) (d : PyData) : Prop := match o with
  | none => d = .none
  | some k => ∃ gs : List Nat, d = .tuple (gs.map fun g => tI (bitsOf g)) ∧ gs.length = k ∧ Chain n es ls 0 gs
/-- what is left of the value from a state on -/
def RestV (n : Int) (es : List Edge) (ls : List Int) (s : Nat) (xs : List PyData) : Prop := ∃ gs : List Nat, xs = gs.map (fun g => tI (bitsOf g)) ∧ Chain n es ls s gs
theorem VL.sh {d : PyData} (h : ∃ ys, d = .tuple ys ∧ ∀ y ∈ ys, VItem y) : True := trivial
section
variable {X : Cx} {b : Expr} {pos : Pos}
/-- xs + .., xs a list of one's own: other names may be lent meanwhile -/
def tdCatP (i : Nat) (tb : TDA) : TDA := fun ρ q => match ρ[i]? with
  | some (.own a ds) => tb ρ fun es ρ2 => ρ2[i]? = some (.own a ds) ∧ ds.length + es.length ≤ sizeLine ∧ q (ds ++ es) ρ2
  | _ => False
end
end DL
/-! DL: ways of a web, counted by the sets of their first places, with signs. -/
namespace DL
open PySem PySem.Spec PyProof.Rows L2
/-! the lowest bit -/
/-! the signs of the sets in a set sum up to one -/
end DL
/-! DL: ways from a state on: those of the orders whose takes are allowed; their number by first places. -/
namespace DL
open PySem PySem.Spec PyProof.Rows L2
/-- which end of an edge an order has first (1: the second end) -/
def dirN : List Nat → Edge → Int
  | [], _ => 0
  | p :: o, e => if p = e.1.toNat then 0 else if p = e.2.toNat then 1 else dirN o e
section
variable (n : Int) (es : List Edge) (F : Nat → Nat → Bool)
/-- an order of what a state leaves, each take allowed -/
def Val : List Nat → Nat → Prop
  | [], s => s = 2 ^ n.toNat - 1
  | p :: o, s => (p < n.toNat ∧ s.testBit p = false ∧ F s p = true) ∧ Val o (s ||| 2 ^ p)
/-- what is allowed rests on the place and its neighbours -/
def FNear : Prop := ∀ (s t p : Nat), (∀ q : Nat, (q = p ∨ adj es p q = true) → s.testBit q = t.testBit q) → F s p = F t p
def inS (s : Nat) (e : Edge) : Bool := !s.testBit e.1.toNat && !s.testBit e.2.toNat
def wvS (s : Nat) (o : List Nat) (e : Edge) : Int := if inS s e = true then dirN o e else 0
def fnW (w : List Int) (e : Edge) : Int := w.getD (es.idxOf e) 0
/-- a place all of whose edges leave it -/
def Src (s : Nat) (f : Edge → Int) (p : Nat) : Prop := ∀ e ∈ es, inS s e = true → (e.1.toNat = p → f e = 0) ∧ (e.2.toNat = p → f e = 1)
noncomputable def waysS (s : Nat) : List (List Int) := (lays es.length).filter fun w => dec (∃ o, Val n F o s ∧ w = es.map (wvS s o))
end
section
variable {n : Int} {es : List Edge} {F : Nat → Nat → Bool}
end
end DL
/-! DL: the number of ways from a state on is a signed sum over the groups that can go first. -/
namespace DL
open PySem PySem.Spec PyProof.Rows L2
def phiS (es : List Edge) (s S : Nat) (w : List Int) : List Int := es.map fun e => if inS s e = true then (if S.testBit e.1.toNat = true then 0 else if S.testBit e.2.toNat = true then 1 else fnW es w e) else 0
section
variable {n : Int} {es : List Edge} {F : Nat → Nat → Bool}
structure CtSt (n : Int) (es : List Edge) (F : Nat → Nat → Bool) (i : Nat) (cur : List Int) : Prop where
  len : cur.length = 2 ^ n.toNat
  eq : ∀ s, i ≤ s → s < 2 ^ n.toNat → cur.getD s 0 = ((waysS n es F s).length : Int)
end
/-- tables of allowed places -/
def FsOk (n : Int) (F : Nat → Nat → Bool) (fs : List Nat) : Prop := fs.length = 2 ^ n.toNat ∧ ∀ (s m : Nat), fs[s]? = some m → m < 2 ^ 9 ∧ ∀ j, m.testBit j = F s j
end DL
/-! DL: ways and layings of whole webs. -/
namespace DL
open PySem PySem.Spec PyProof.Rows L2
def FAll (n : Int) (s p : Nat) : Bool := decide (p < n.toNat) && !s.testBit p
section
variable {n : Int} {es : List Edge}
end
end DL
/-! DL: max with a default; the longest way along edges. -/
namespace DL
open PySem PySem.Spec PyProof.Rows L2
section
variable {X : Cx} {a : Expr} {pos : Pos} {ta tx : TDE}
def rMaxDef (K : PySem.W.Frag) (u : Nat) : List V → List V → Hp → VK → Prop := fun vs zs H Q => ∃ (a : Addr) (xs : List V) (ds : List PyData) (z : V), vs = [V.ref a] ∧ zs = [z] ∧ SqL K H a xs ∧ L2.DpAll K H xs ds ∧ PySem.W.AlikeAll ds ∧ u + 1 + PyData.depthAll ds < cLine ∧ (ds = [] → Q z H) ∧
  ∀ (y : PyData) (ys : List PyData) (j : Nat) (x : V), ds = y :: ys → xs[j]? = some x → ds[j]? = some (PySem.W.maxD y ys) → Q x H
end
/-! ### greatest numbers with a property -/
def MxP (P : Nat → Prop) (m : Nat) : Prop := P m ∧ ∀ j, P j → j ≤ m
open Classical in
noncomputable def mxN (P : Nat → Prop) : Nat := if h : ∃ m, MxP P m then h.choose else 0
theorem MxP.uniq {P : Nat → Prop} {m k : Nat} (h : MxP P m) (h' : MxP P k) : m = k := by
  have a := h.2 _ h'.1
  have b := h'.2 _ h.1
  omega
/-! ### ways along directed edges -/
def Lp (Z : List (Edge × Int)) : Nat → Int → Prop
  | 0, _ => True
  | m + 1, p => ∃ z ∈ Z, firP z = p ∧ Lp Z m (laterP z)
noncomputable def mxL (Z : List (Edge × Int)) (p : Int) : Nat := mxN fun m => Lp Z m p
end DL
/-! DL: the rounds of a forest are one more than the edges of its longest way. -/
namespace DL
open PySem PySem.Spec PyProof.Rows L2
def Pth (Z : List (Edge × Int)) : Nat → Int → Int → Prop
  | 0, x, y => x = y
  | m + 1, x, y => ∃ z ∈ Z, firP z = x ∧ Pth Z m (laterP z) y
/-- some way has so many edges -/
def PathLen (n : Int) (Z : List (Edge × Int)) (m : Nat) : Prop := ∃ x y, (0 ≤ x ∧ x < n) ∧ Pth Z m x y
section
variable {n : Int} {es : List Edge} {ls : List Int} {Z : List (Edge × Int)}
def RngZ (n : Int) (Z : List (Edge × Int)) : Prop := ∀ z ∈ Z, (0 ≤ firP z ∧ firP z < n) ∧ 0 ≤ laterP z ∧ laterP z < n
/-- how many edges the longest way to a place has -/
noncomputable def depZ (Z : List (Edge × Int)) (p : Int) : Nat := mxN fun m => ∃ x, Pth Z m x p
/-! the takes of rounds, one by one -/
/-! all places of one rank at once -/
end
end DL
/-! DL: longest ways by relaxation. -/
namespace DL
open PySem PySem.Spec PyProof.Rows L2
section
variable {n : Int} {Z : List (Edge × Int)}
/-- lengths of ways that are known so far, t rounds done, the edges of Y done again -/
structure Rlx (n : Int) (Z : List (Edge × Int)) (t : Nat) (Y : List (Edge × Int)) (d : Nat → Nat) : Prop where
  up : ∀ v : Nat, (v : Int) < n → ∃ x, Pth Z (d v) x v
  lo : ∀ v : Nat, (v : Int) < n → ∀ m x, m ≤ t → Pth Z m x v → m ≤ d v
  ed : ∀ z ∈ Y, ∀ m x, m ≤ t → Pth Z m x (firP z) → m + 1 ≤ d (laterP z).toNat
end
end DL
/-! DL: who must stand ahead of whom in the orders that keep a way. -/
namespace DL
open PySem PySem.Spec PyProof.Rows L2
variable {n : Int} {Z : List (Edge × Int)}
def BarR (rl : Int → Int → Bool) (b : Nat) (x y : Int) : Prop := rl x y = true ∧ b.testBit y.toNat = false
def stepW (Z : List (Edge × Int)) (x y : Int) : Prop := ∃ z ∈ Z, firP z = x ∧ laterP z = y
abbrev PathW (Z : List (Edge × Int)) : Int → Int → Prop := Rch (stepW Z)
noncomputable def rlW (Z : List (Edge × Int)) (x y : Int) : Bool := dec (stepW Z x y)
theorem keep_path {l : List Int} (K : KeepW n Z l) (hZ : ∀ z ∈ Z, (0 ≤ firP z ∧ firP z < n) ∧ 0 ≤ laterP z ∧ laterP z < n) {x y : Int} (h : PathW Z x y) : x = y ∨ l.idxOf x < l.idxOf y := by
  induction h with
  | refl => exact .inl rfl
  | @step v w _ r ih =>
    obtain ⟨z, hz, e1, e2⟩ := r
    have b := K.2 z hz
    rw [bef_idx K.1 (hZ z hz).1 (hZ z hz).2, e1, e2] at b
    rcases ih with rfl | ih
    · exact .inr b
    · exact .inr (by omega)
/-- what is closed backwards may go first -/
theorem split_keep {l : List Int} (K : KeepW n Z l) (hZ : ∀ z ∈ Z, (0 ≤ firP z ∧ firP z < n) ∧ 0 ≤ laterP z ∧ laterP z < n) (A : Int → Prop) (hA : ∀ z ∈ Z, A (laterP z) → A (firP z)) : KeepW n Z (splitA A l) := by
  have pm := split_perm A l
  have O : OrdOk n (splitA A l) := ⟨pm.nodup_iff.mpr K.1.nd, by rw [pm.length_eq]; exact K.1.len, fun k hk => K.1.rng k (pm.mem_iff.mp hk)⟩
  refine ⟨O, fun z hz => ?_⟩
  have r := hZ z hz
  have b := K.2 z hz
  have mf := K.1.all r.1.1 r.1.2
  have ml := K.1.all r.2.1 r.2.2
  unfold bef at b ⊢
  rw [bef_sub K.1.nd ml] at b
  rw [bef_sub O.nd (O.all r.2.1 r.2.2)]
  by_cases h1 : A (firP z)
  · by_cases h2 : A (laterP z)
    · exact (split_sub ⟨fun _ => h2, fun _ => h1⟩).mpr b
    · exact (split_first mf ml h1 h2).1
  · have h2 : ¬ A (laterP z) := fun h => h1 (hA z hz h)
    exact (split_sub ⟨fun h => absurd h h1, fun h => absurd h h2⟩).mpr b
theorem split_idx {l : List Int} (O : OrdOk n l) (A : Int → Prop) {x y : Int} (hx : 0 ≤ x ∧ x < n) (hy : 0 ≤ y ∧ y < n) (ax : A x) (ay : ¬ A y) : (splitA A l).idxOf x < (splitA A l).idxOf y := by
  have pm := split_perm A l
  have O' : OrdOk n (splitA A l) := ⟨pm.nodup_iff.mpr O.nd, by rw [pm.length_eq]; exact O.len, fun k hk => O.rng k (pm.mem_iff.mp hk)⟩
  have := (split_first (O.all hx.1 hx.2) (O.all hy.1 hy.2) ax ay).1
  rw [← bef_sub O'.nd (O'.all hy.1 hy.2)] at this
  exact (bef_idx O' hx hy).mp this
noncomputable def ancN (n : Int) (Z : List (Edge × Int)) (p : Int) : Nat := ((plc n).filter fun x => dec (PathW Z x p)).length
noncomputable def desN (n : Int) (Z : List (Edge × Int)) (p : Int) : Nat := ((plc n).filter fun x => dec (PathW Z p x)).length
/-- places counted by where they stand -/
theorem idx_count {l : List Int} (O : OrdOk n l) {p : Int} (hp : 0 ≤ p ∧ p < n) : ((plc n).filter fun x => decide (l.idxOf x < l.idxOf p)).length = l.idxOf p := by
  have hi := List.idxOf_lt_length_of_mem (O.all hp.1 hp.2)
  have pm : (((plc n).filter fun x => decide (l.idxOf x < l.idxOf p))).Perm (l.take (l.idxOf p)) := by
    refine (List.perm_ext_iff_of_nodup ((plc_nd n).filter _) (O.nd.sublist (List.take_sublist _ _))).mpr fun x => ?_
    rw [List.mem_filter, mem_plc, decide_eq_true_iff]
    constructor
    · rintro ⟨hx, h⟩; exact (bef_idx O hx hp).mpr h
    · intro h
      have hx := O.rng x (List.mem_of_mem_take h)
      exact ⟨hx, (bef_idx O hx hp).mp h⟩
  rw [pm.length_eq, List.length_take]
  omega
theorem filt_le {P Q : Int → Bool} : ∀ {L : List Int}, (∀ x ∈ L, P x = true → Q x = true) → (L.filter P).length ≤ (L.filter Q).length
  | [], _ => Nat.le_refl _
  | x :: L, h => by
    have ih := filt_le (P := P) (Q := Q) (L := L) fun y hy => h y (List.mem_cons_of_mem _ hy)
    have hx := h x List.mem_cons_self
    rw [List.filter_cons, List.filter_cons]
    by_cases a : P x = true
    · rw [if_pos a, if_pos (hx a), List.length_cons, List.length_cons]; omega
    · rw [if_neg a]
      split
      · rw [List.length_cons]; omega
      · exact ih
theorem late {Kl : List (List Int)} (hZ : ∀ z ∈ Z, (0 ≤ firP z ∧ firP z < n) ∧ 0 ≤ laterP z ∧ laterP z < n) (hK : ∀ l, l ∈ Kl ↔ KeepW n Z l) {l0 : List Int} (h0 : KeepW n Z l0) {p : Int} (hp : 0 ≤ p ∧ p < n) :
    (∀ l ∈ Kl, l.idxOf p + desN n Z p ≤ n.toNat) ∧ ∃ l ∈ Kl, l.idxOf p + desN n Z p = n.toNat := by
  have both : ∀ P : Int → Bool, n.toNat = ((plc n).filter P).length + ((plc n).filter fun x => !P x).length := fun P => by
    have := filt_both P (plc n)
    rw [plc_len] at this
    exact this
  have eb := both fun x => dec (PathW Z p x)
  have up : ∀ l ∈ Kl, l.idxOf p + desN n Z p ≤ n.toNat := fun l hl => by
    have K := (hK l).mp hl
    unfold desN
    have : l.idxOf p ≤ ((plc n).filter fun x => !dec (PathW Z p x)).length := by
      conv => lhs; rw [← idx_count K.1 hp]
      refine filt_le fun x hx h => ?_
      have h := of_decide_eq_true h
      rw [dec_not (fun q => ?_)]; rfl
      rcases keep_path K hZ q with z | z
      · rw [z] at h; omega
      · omega
    omega
  refine ⟨up, ?_⟩
  have K1 := split_keep h0 hZ (fun x => ¬ PathW Z p x) fun z hz h q => h (.step q ⟨z, hz, rfl, rfl⟩)
  refine ⟨_, (hK _).mpr K1, ?_⟩
  have a := up _ ((hK _).mpr K1)
  have b : ((plc n).filter fun x => !dec (PathW Z p x)).length ≤ (splitA (fun x => ¬ PathW Z p x) l0).idxOf p := by
    conv => rhs; rw [← idx_count K1.1 hp]
    refine filt_le fun x hx h => ?_
    have hx' := mem_plc.mp hx
    rw [Bool.not_eq_true'] at h
    have hn : ¬ PathW Z p x := fun q => by rw [dec_iff.mpr q] at h; cases h
    exact decide_eq_true (split_idx h0.1 (fun x => ¬ PathW Z p x) hx' hp hn (fun q => q (.refl _)))
  unfold desN at a ⊢
  omega
end DL
/-! DL: longest ways by steps; ways without a ring have an order; who stands behind, by closure. -/
namespace DL
open PySem PySem.Spec PyProof.Rows L2
section
variable {n : Int} {Z : List (Edge × Int)}
/-- the longest way to a place with at most t edges, step by step -/
def gDep (Z : List (Edge × Int)) : Nat → Int → Nat
  | 0, _ => 0
  | t + 1, k => ((Z.filter fun z => decide (laterP z = k)).map fun z => gDep Z t (firP z) + 1).foldl max 0
/-- all ways are shorter than N -/
def Bnd (n : Int) (Z : List (Edge × Int)) (N : Nat) : Prop := ∀ m x y, (0 ≤ x ∧ x < n) → Pth Z m x y → m < N
/-! who stands behind -/
/-- lists that hold what stands ahead: at least by few edges, nothing else -/
structure Bef (n : Int) (Z : List (Edge × Int)) (t : Nat) (B : Nat → List Int) : Prop where
  up : ∀ k : Nat, (k : Int) < n → ∀ x ∈ B k, (0 ≤ x ∧ x < n) ∧ ∃ m, Pth Z (m + 1) x k
  lo : ∀ k : Nat, (k : Int) < n → ∀ m x, m ≤ t → Pth Z (m + 1) x k → x ∈ B k
end
end DL
/-! DL: math.comb; how many ways two rows mix. -/
namespace DL
open PySem PySem.Spec PyProof.Rows L2
/-- in how many ways a row of a things and a row of b things mix -/
def mixN : Nat → Nat → Nat
  | 0, _ => 1
  | _ + 1, 0 => 1
  | a + 1, b + 1 => mixN a (b + 1) + mixN (a + 1) b
theorem mixN_succ (a b : Nat) : mixN (a + 1) (b + 1) = mixN a (b + 1) + mixN (a + 1) b := by rw [mixN]
theorem mixN_zero (a : Nat) : mixN a 0 = 1 := by cases a <;> simp [mixN]
def facN : Nat → Nat
  | 0 => 1
  | n + 1 => (n + 1) * facN n
theorem facN_pos : ∀ n, 0 < facN n
  | 0 => Nat.one_pos
  | n + 1 => Nat.mul_pos (Nat.succ_pos n) (facN_pos n)
theorem mixN_fac : ∀ a b : Nat, mixN a b * facN a * facN b = facN (a + b)
  | 0, b => by simp [mixN, facN]
  | a + 1, 0 => by simp [mixN, facN]
  | a + 1, b + 1 => by
    have h1 := mixN_fac a (b + 1)
    have h2 := mixN_fac (a + 1) b
    have e1 : a + (b + 1) = a + b + 1 := by omega
    have e2 : a + 1 + b = a + b + 1 := by omega
    have e3 : a + 1 + (b + 1) = a + b + 1 + 1 := by omega
    rw [e1] at h1
    rw [e2] at h2
    rw [e3]
    have t1 : mixN a (b + 1) * facN (a + 1) * facN (b + 1) = (a + 1) * facN (a + b + 1) := by
      rw [← h1]
      show mixN a (b + 1) * ((a + 1) * facN a) * facN (b + 1) = _
      rw [Nat.mul_left_comm (mixN a (b + 1)), Nat.mul_assoc (a + 1)]
    have t2 : mixN (a + 1) b * facN (a + 1) * facN (b + 1) = (b + 1) * facN (a + b + 1) := by
      rw [← h2]
      show mixN (a + 1) b * facN (a + 1) * ((b + 1) * facN b) = _
      rw [Nat.mul_left_comm (mixN (a + 1) b * facN (a + 1))]
    show _ = (a + b + 1 + 1) * facN (a + b + 1)
    rw [mixN_succ, Nat.add_mul, Nat.add_mul, t1, t2, ← Nat.add_mul]
    exact congrArg (· * facN (a + b + 1)) (by omega)
theorem mixN_comm : ∀ a b : Nat, mixN a b = mixN b a
  | 0, b => by rw [mixN_zero]; simp [mixN]
  | a + 1, 0 => by simp [mixN]
  | a + 1, b + 1 => by
    rw [mixN_succ, mixN_succ, mixN_comm a (b + 1), mixN_comm (a + 1) b, Nat.add_comm]
theorem fp_fac (n : Nat) : ∀ k : Nat, k ≤ n → Builtin.Math.fallingProduct n k * (facN (n - k) : Nat) = (facN n : Nat)
  | 0, _ => by rw [PySem.W.mc_fp_zero]; simp
  | k + 1, h => by
    have ih := fp_fac n k (by omega)
    rw [PySem.W.mc_fp_succ, ← ih, Int.mul_assoc]
    congr 1
    have e : n - k = (n - (k + 1)) + 1 := by omega
    rw [e]
    show ((n : Int) - (k : Int)) * _ = ((((n - (k + 1)) + 1) * facN (n - (k + 1)) : Nat) : Int)
    rw [Int.natCast_mul]
    congr 1
    omega
theorem fp_mix {n k : Nat} (h : k ≤ n) : Builtin.Math.fallingProduct n k = ((mixN k (n - k) * facN k : Nat) : Int) := by
  have h1 := fp_fac n k h
  have h2 := mixN_fac k (n - k)
  rw [show k + (n - k) = n by omega] at h2
  have h3 : Builtin.Math.fallingProduct n k * (facN (n - k) : Nat) = ((mixN k (n - k) * facN k : Nat) : Int) * (facN (n - k) : Nat) := by
    rw [h1, ← Int.natCast_mul, h2]
  exact Int.eq_of_mul_eq_mul_right (by have := facN_pos (n - k); omega) h3
theorem fp_self (k : Nat) : Builtin.Math.fallingProduct k k = (facN k : Nat) := by
  rw [fp_mix (Nat.le_refl k), Nat.sub_self, mixN_zero, Nat.one_mul]
theorem fp_div {n k : Nat} (h : k ≤ n) : Builtin.Math.fallingProduct n k / Builtin.Math.fallingProduct k k = ((mixN k (n - k) : Nat) : Int) := by
  rw [fp_mix h, fp_self, Int.natCast_mul]
  exact Int.mul_ediv_cancel _ (by have := facN_pos k; omega)
theorem comb_mix {n k : Nat} (h : k ≤ n) : PySem.W.mcComb n k = ((mixN k (n - k) : Nat) : Int) := by
  by_cases e : k ≤ n - k
  · rw [PySem.W.mcComb_at (m := (k : Int)) (by omega) (by omega) (by omega), Int.toNat_natCast]
    exact fp_div h
  · rw [PySem.W.mcComb_at (m := ((n - k : Nat) : Int)) (by omega) (by omega) (by omega), Int.toNat_natCast, fp_div (by omega), mixN_comm]
    congr 2
    omega
/-- math.comb -/
def combN (n k : Nat) : Nat := if k ≤ n then mixN k (n - k) else 0
theorem combN_mc (n k : Nat) : PySem.W.mcComb n k = ((combN n k : Nat) : Int) := by
  unfold combN
  by_cases h : k ≤ n
  · rw [if_pos h, comb_mix h]
  · rw [if_neg h, PySem.W.mcComb_above (by omega)]
    rfl
def rComb : List V → Hp → VK → Prop := fun vs H Q => ∃ a b : Nat, vs = [.int a, .int b] ∧ a ≤ 18000 ∧ Q (.int ((combN a b : Nat) : Int)) H
theorem cr_comb {X : Cx} : CallR X (.builtin "math.comb") rComb := by
  intro pins s σ H vs us Q I r h
  obtain ⟨a, b, rfl, ha, q⟩ := h
  obtain ⟨t, u, rfl⟩ := Vals.int2 r
  rw [← combN_mc] at q
  exact PySem.W.mc_comb (by omega) (by omega) (by omega) (.inr (by omega)) fun _ => ⟨.int _, H, I.tok _, ⟨_, rfl⟩, q⟩
section
variable {X : Cx} {a b : Expr} {pos : Pos}
theorem de_comb {p : Pos} {ts : TDA} (hg : Gl X "comb") (hm : X.mg "comb" = some (.builtin "math.comb")) (ha : DA X [a, b] ts) (he : starEach [a, b] X.env = (false, eval a X.env) :: starEach [b] X.env := by rfl) (hpl : (backTo pos (starEach [b] X.env)).any (·.1) = false := by rfl) :
    DE X (.Call (.Name "comb" p) [a, b] [] pos) (fun ρ q => ts ρ fun ds ρ1 => match ds with
      | [.int i, .int j] => 0 ≤ i ∧ 0 ≤ j ∧ i ≤ 18000 ∧ q (.int (combN i.toNat j.toNat : Nat)) ρ1
      | _ => False) := by
  obtain ⟨te, hp, hq⟩ := ha.ex
  refine ⟨_, pe_callBfun cr_comb hg hm hp (by decide) he hpl, fun C σ H ρ q Q E h k => hq C σ H ρ _ _ E h fun vs H1 ds ρ1 E1 s1 D1 h1 => ?_⟩
  match ds, h1, D1 with
  | [.int i, .int j], ⟨hi, hj, hl, h1⟩, D1 =>
    cases D1 with
    | cons d1 d2 => cases d1; cases d2 with
      | cons d3 d4 => cases d3; cases d4; exact ⟨i.toNat, j.toNat, by rw [Int.toNat_of_nonneg hi, Int.toNat_of_nonneg hj], by omega, k _ H1 _ ρ1 E1 s1 (.int _) h1⟩
end
end DL
/-! DL: two rows mixed; where a member of the one stands. -/
namespace DL
open PySem PySem.Spec PyProof.Rows L2
def mixL : List Int → List Int → List (List Int)
  | [], b => [b]
  | a, [] => [a]
  | x :: a, y :: b => (mixL a (y :: b)).map (x :: ·) ++ (mixL (x :: a) b).map (y :: ·)
theorem mixL_nil (b : List Int) : mixL [] b = [b] := by rw [mixL]
theorem mixL_nil2 (a : List Int) : mixL a [] = [a] := by cases a <;> simp [mixL]
theorem mixL_cons (x : Int) (a : List Int) (y : Int) (b : List Int) : mixL (x :: a) (y :: b) = (mixL a (y :: b)).map (x :: ·) ++ (mixL (x :: a) b).map (y :: ·) := by rw [mixL]
theorem mixL_len : ∀ a b : List Int, (mixL a b).length = mixN a.length b.length
  | [], b => by rw [mixL_nil, List.length_singleton]; simp [mixN]
  | x :: a, [] => by rw [mixL_nil2, List.length_singleton, List.length_nil, mixN_zero]
  | x :: a, y :: b => by
    have h1 := mixL_len a (y :: b)
    have h2 := mixL_len (x :: a) b
    rw [mixL_cons, List.length_append, List.length_map, List.length_map, h1, h2]
    simp only [List.length_cons]
    rw [mixN_succ]
/-- a mix holds each of the two rows in its order -/
theorem mixL_mem (P : Int → Bool) : ∀ (a b o : List Int), (∀ x ∈ a, P x = true) → (∀ x ∈ b, P x = false) → (o ∈ mixL a b ↔ o.filter P = a ∧ o.filter (fun x => !P x) = b)
  | [], b, o, _, hb => by
    rw [mixL_nil, List.mem_singleton]
    constructor
    · rintro rfl
      exact ⟨List.filter_eq_nil_iff.mpr fun x hx => by rw [hb x hx]; simp, List.filter_eq_self.mpr fun x hx => by rw [hb x hx]; rfl⟩
    · rintro ⟨h1, h2⟩
      rw [← h2]
      exact (List.filter_eq_self.mpr fun x hx => by have := List.filter_eq_nil_iff.mp h1 x hx; simpa using this).symm
  | x :: a, [], o, ha, _ => by
    rw [mixL_nil2, List.mem_singleton]
    constructor
    · rintro rfl
      exact ⟨List.filter_eq_self.mpr ha, List.filter_eq_nil_iff.mpr fun x hx => by rw [ha x hx]; simp⟩
    · rintro ⟨h1, h2⟩
      rw [← h1]
      exact (List.filter_eq_self.mpr fun x hx => by have := List.filter_eq_nil_iff.mp h2 x hx; simpa using this).symm
  | x :: a, y :: b, o, ha, hb => by
    have hx := ha x (.head _)
    have hy := hb y (.head _)
    have i1 := fun o => mixL_mem P a (y :: b) o (fun z hz => ha z (.tail _ hz)) hb
    have i2 := fun o => mixL_mem P (x :: a) b o ha (fun z hz => hb z (.tail _ hz))
    rw [mixL_cons, List.mem_append, List.mem_map, List.mem_map]
    cases o with
    | nil => simp
    | cons z o =>
      by_cases hz : P z = true
      · rw [List.filter_cons_of_pos hz, List.filter_cons_of_neg (by rw [hz]; simp)]
        constructor
        · rintro (⟨w, hw, e⟩ | ⟨w, hw, e⟩)
          · obtain ⟨rfl, rfl⟩ := List.cons.inj e
            have := (i1 _).mp hw
            exact ⟨by rw [this.1], this.2⟩
          · obtain ⟨rfl, rfl⟩ := List.cons.inj e
            rw [hy] at hz
            cases hz
        · rintro ⟨h1, h2⟩
          obtain ⟨rfl, h3⟩ := List.cons.inj h1
          exact .inl ⟨o, (i1 _).mpr ⟨h3, h2⟩, rfl⟩
      · have hz := Bool.eq_false_iff.mpr hz
        rw [List.filter_cons_of_neg (by rw [hz]; simp), List.filter_cons_of_pos (by rw [hz]; rfl)]
        constructor
        · rintro (⟨w, hw, e⟩ | ⟨w, hw, e⟩)
          · obtain ⟨rfl, rfl⟩ := List.cons.inj e
            rw [hx] at hz
            cases hz
          · obtain ⟨rfl, rfl⟩ := List.cons.inj e
            have := (i2 _).mp hw
            exact ⟨this.1, by rw [this.2]⟩
        · rintro ⟨h1, h2⟩
          obtain ⟨rfl, h3⟩ := List.cons.inj h2
          exact .inr ⟨o, (i2 _).mpr ⟨h1, h3⟩, rfl⟩
theorem mixL_nd : ∀ a b : List Int, (∀ x ∈ a, x ∉ b) → (mixL a b).Nodup
  | [], b, _ => by rw [mixL_nil]; simp
  | x :: a, [], _ => by rw [mixL_nil2]; simp
  | x :: a, y :: b, h => by
    rw [mixL_cons, List.nodup_append]
    refine ⟨?_, ?_, ?_⟩
    · exact (List.pairwise_map.mpr ((mixL_nd a (y :: b) fun z hz => h z (.tail _ hz)).imp fun hab e => hab (List.cons.inj e).2))
    · exact (List.pairwise_map.mpr ((mixL_nd (x :: a) b fun z hz => fun q => h z hz (.tail _ q)).imp fun hab e => hab (List.cons.inj e).2))
    · intro u hu v hv e
      obtain ⟨u', _, rfl⟩ := List.mem_map.mp hu
      obtain ⟨v', _, rfl⟩ := List.mem_map.mp hv
      exact h x (.head _) (by rw [(List.cons.inj e).1]; exact .head _)
theorem idx_tail {x v : Int} (h : x ≠ v) (l : List Int) : (x :: l).idxOf v = l.idxOf v + 1 := by
  rw [List.idxOf_cons]
  have : (x == v) = false := by simp [h]
  rw [this]
  rfl
/-- where v of the one row and u of the other stand in a mix -/
theorem mixL_at {v u : Int} (huv : u ≠ v) : ∀ (a b o : List Int), o ∈ mixL a b → v ∈ a → v ∉ b → a.idxOf v ≤ o.idxOf v ∧ o.idxOf v ≤ a.idxOf v + b.length ∧ (u ∉ a → u ∈ b → (o.idxOf v < o.idxOf u ↔ o.idxOf v ≤ a.idxOf v + b.idxOf u))
  | [], b, o, ho, hv, _ => nomatch hv
  | x :: a, [], o, ho, hv, _ => by
    rw [mixL_nil2, List.mem_singleton] at ho
    subst ho
    exact ⟨Nat.le_refl _, Nat.le_add_right _ _, fun _ h => nomatch h⟩
  | x :: a, y :: b, o, ho, hv, hvb => by
    rw [mixL_cons, List.mem_append, List.mem_map, List.mem_map] at ho
    have hyv : y ≠ v := fun z => hvb (z ▸ .head _)
    rcases ho with ⟨w, hw, rfl⟩ | ⟨w, hw, rfl⟩
    · by_cases hx : x = v
      · subst hx
        rw [List.idxOf_cons_self, List.idxOf_cons_self]
        refine ⟨Nat.zero_le _, Nat.zero_le _, fun _ _ => ?_⟩
        rw [idx_tail (fun z => huv z.symm)]
        omega
      · have hva : v ∈ a := (List.mem_cons.mp hv).resolve_left fun z => hx z.symm
        obtain ⟨i1, i2, i3⟩ := mixL_at huv a (y :: b) w hw hva hvb
        rw [idx_tail hx, idx_tail hx]
        refine ⟨by omega, by omega, fun hua hub => ?_⟩
        have hxu : x ≠ u := fun z => hua (z ▸ .head _)
        rw [idx_tail hxu]
        have := i3 (fun z => hua (.tail _ z)) hub
        omega
    · obtain ⟨i1, i2, i3⟩ := mixL_at huv (x :: a) b w hw hv fun z => hvb (.tail _ z)
      rw [idx_tail hyv w, List.length_cons]
      refine ⟨by omega, by omega, fun hua hub => ?_⟩
      by_cases hy : y = u
      · subst hy
        rw [List.idxOf_cons_self, List.idxOf_cons_self]
        omega
      · rw [idx_tail hy, idx_tail hy]
        have := i3 hua ((List.mem_cons.mp hub).resolve_left fun z => hy z.symm)
        omega
/-- how many of some rows have v at the place t -/
def tmN (L : List (List Int)) (v : Int) (t : Nat) : Nat := (L.filter fun o => decide (o.idxOf v = t)).length
end DL
/-! DL: orders of two sets of places with one edge between them, counted by the time of a place. -/
namespace DL
open PySem PySem.Spec PyProof.Rows L2
theorem tmN_append (L M : List (List Int)) (v : Int) (t : Nat) : tmN (L ++ M) v t = tmN L v t + tmN M v t := by
  unfold tmN
  rw [List.filter_append, List.length_append]
theorem tmN_self (L : List (List Int)) (v : Int) (t : Nat) : tmN (L.map (v :: ·)) v t = if t = 0 then L.length else 0 := by
  unfold tmN
  by_cases h : t = 0
  · rw [if_pos h, List.filter_eq_self.mpr, List.length_map]
    intro o ho
    obtain ⟨w, _, rfl⟩ := List.mem_map.mp ho
    rw [List.idxOf_cons_self]
    exact decide_eq_true h.symm
  · rw [if_neg h, List.filter_eq_nil_iff.mpr]
    · rfl
    · intro o ho
      obtain ⟨w, _, rfl⟩ := List.mem_map.mp ho
      rw [List.idxOf_cons_self, decide_eq_true_eq]
      exact fun z => h z.symm
theorem tmN_cons {x v : Int} (h : x ≠ v) : ∀ (L : List (List Int)) (t : Nat), tmN (L.map (x :: ·)) v t = match t with | 0 => 0 | t + 1 => tmN L v t := by
  intro L t
  induction L with
  | nil => cases t <;> rfl
  | cons o L ih =>
    cases t with
    | zero =>
      show ((((x :: o) :: L.map (x :: ·)).filter fun o => decide (o.idxOf v = 0)).length) = 0
      rw [List.filter_cons_of_neg (by rw [idx_tail h]; simp)]
      exact ih
    | succ t =>
      show ((((x :: o) :: L.map (x :: ·)).filter fun o => decide (o.idxOf v = t + 1)).length) = ((o :: L).filter fun o => decide (o.idxOf v = t)).length
      have ih : ((L.map (x :: ·)).filter fun o => decide (o.idxOf v = t + 1)).length = (L.filter fun o => decide (o.idxOf v = t)).length := ih
      by_cases q : o.idxOf v = t
      · rw [List.filter_cons_of_pos (by rw [idx_tail h, q]; simp), List.filter_cons_of_pos (by rw [q]; simp), List.length_cons, List.length_cons, ih]
      · rw [List.filter_cons_of_neg (by rw [idx_tail h, decide_eq_true_eq]; omega), List.filter_cons_of_neg (by rw [decide_eq_true_eq]; exact q), ih]
/-- in how many mixes of a row of a with one of b the member t of the first stands at the place t + s -/
def spN (a b t s : Nat) : Nat := mixN t s * mixN (a - 1 - t) (b - s)
def atN (a b t p : Nat) : Nat := if t ≤ p ∧ p - t ≤ b then spN a b t (p - t) else 0
theorem tm_mix {v : Int} : ∀ (a b : List Int), v ∈ a → v ∉ b → ∀ p : Nat, tmN (mixL a b) v p = atN a.length b.length (a.idxOf v) p
  | [], b, hv, _, _ => nomatch hv
  | x :: a, [], hv, _, p => by
    rw [mixL_nil2]
    unfold atN tmN spN
    by_cases h : (x :: a).idxOf v = p
    · rw [List.filter_cons_of_pos (by rw [h]; simp), if_pos ⟨by omega, by rw [List.length_nil]; omega⟩, h, Nat.sub_self, mixN_zero, List.length_nil, mixN_zero]
      rfl
    · rw [List.filter_cons_of_neg (by rw [decide_eq_true_eq]; exact h), if_neg (by rw [List.length_nil]; omega)]
      rfl
  | x :: a, y :: b, hv, hvb, p => by
    have hyv : y ≠ v := fun z => hvb (z ▸ .head _)
    have i2 := tm_mix (x :: a) b hv fun z => hvb (.tail _ z)
    rw [mixL_cons, tmN_append, tmN_cons hyv]
    by_cases hx : x = v
    · subst hx
      rw [tmN_self, List.idxOf_cons_self, mixL_len]
      unfold atN spN at i2 ⊢
      rw [List.idxOf_cons_self] at i2
      cases p with
      | zero =>
        rw [if_pos rfl, if_pos ⟨Nat.le_refl _, Nat.zero_le _⟩]
        simp [mixN]
      | succ p =>
        rw [if_neg (by omega)]
        show 0 + tmN (mixL (x :: a) b) x p = _
        rw [i2]
        simp only [List.length_cons, Nat.zero_le, true_and, Nat.sub_zero, Nat.zero_add]
        by_cases h : p ≤ b.length
        · rw [if_pos h, if_pos (by omega)]
          simp only [mixN, Nat.one_mul, Nat.add_sub_cancel]
          rw [show b.length + 1 - (p + 1) = b.length - p by omega]
        · rw [if_neg h, if_neg (by omega)]
    · have hva : v ∈ a := (List.mem_cons.mp hv).resolve_left fun z => hx z.symm
      have i1 := tm_mix a (y :: b) hva hvb
      rw [tmN_cons hx, idx_tail hx]
      rw [idx_tail hx] at i2
      cases p with
      | zero =>
        unfold atN
        rw [if_neg (by omega)]
        rfl
      | succ p =>
        show tmN (mixL a (y :: b)) v p + tmN (mixL (x :: a) b) v p = _
        rw [i1, i2]
        unfold atN spN
        simp only [List.length_cons]
        generalize a.idxOf v = t
        by_cases h1 : p < t
        · rw [if_neg (by omega), if_neg (by omega), if_neg (by omega)]
        · by_cases h2 : p = t
          · subst h2
            rw [if_pos (by omega), if_neg (by omega), if_pos (by omega), Nat.sub_self, Nat.sub_self, mixN_zero, mixN_zero]
            rw [show a.length + 1 - 1 - (p + 1) = a.length - 1 - p by omega, Nat.add_zero]
          · obtain ⟨s, rfl⟩ : ∃ s, p = t + s + 1 := ⟨p - t - 1, by omega⟩
            rw [show t + s + 1 - t = s + 1 by omega, show t + s + 1 - (t + 1) = s by omega, show t + s + 1 + 1 - (t + 1) = s + 1 by omega, mixN_succ, show a.length + 1 - 1 - (t + 1) = a.length - 1 - t by omega, show b.length + 1 - (s + 1) = b.length - s by omega]
            by_cases h3 : s ≤ b.length
            · rw [if_pos (by omega), if_pos (by omega), if_pos (by omega), Nat.add_mul]
            · rw [if_neg (by omega), if_neg (by omega), if_neg (by omega)]
theorem sum_by {α : Type} (k : α → Nat) (f : Nat → Nat) (m : Nat) : ∀ L : List α, (∀ o ∈ L, k o < m) → (L.map fun o => f (k o)).sum = ((List.range m).map fun t => (L.filter fun o => decide (k o = t)).length * f t).sum
  | [], _ => by
    exact (sum_zero (fun t => (([] : List α).filter fun o => decide (k o = t)).length * f t) (List.range m) fun t _ => Nat.zero_mul _).symm
  | o :: L, h => by
    have ih := sum_by k f m L fun o ho => h o (.tail _ ho)
    have h1 : ∀ t, ((o :: L).filter fun o => decide (k o = t)).length * f t = (if t = k o then f (k o) else 0) + (L.filter fun o => decide (k o = t)).length * f t := fun t => by
      by_cases q : k o = t
      · rw [List.filter_cons_of_pos (by rw [q]; simp), List.length_cons, if_pos q.symm, Nat.succ_mul, q, Nat.add_comm]
      · rw [List.filter_cons_of_neg (by rw [decide_eq_true_eq]; exact q), if_neg (fun z => q z.symm), Nat.zero_add]
    rw [sum_congr _ _ _ fun t _ => h1 t, sum_add, ← ih, sum_one m (h o (.head _))]
    rfl
/-- an order keeps what must stand ahead -/
def Kp (K : Int → Int → Prop) (o : List Int) : Prop := ∀ x y, K x y → x ∈ o → y ∈ o → o.idxOf x < o.idxOf y
structure Ords (K : Int → Int → Prop) (S : List Int) (L : List (List Int)) : Prop where
  nd : L.Nodup
  mem : ∀ o, o ∈ L ↔ o.Perm S ∧ Kp K o
theorem idx_filter {P : Int → Bool} {x y : Int} (hx : P x = true) (hy : P y = true) : ∀ o : List Int, (o.filter P).idxOf x < (o.filter P).idxOf y ↔ o.idxOf x < o.idxOf y
  | [] => Iff.rfl
  | z :: o => by
    have ih := idx_filter hx hy o
    by_cases h1 : z = x
    · subst h1
      rw [List.filter_cons_of_pos hx, List.idxOf_cons_self, List.idxOf_cons_self]
      by_cases h2 : z = y
      · subst h2
        rw [List.idxOf_cons_self, List.idxOf_cons_self]
      · rw [idx_tail h2, idx_tail h2]
        omega
    · by_cases h2 : z = y
      · subst h2
        rw [List.filter_cons_of_pos hy, List.idxOf_cons_self, List.idxOf_cons_self]
        omega
      · rw [idx_tail h1, idx_tail h2]
        by_cases hz : P z = true
        · rw [List.filter_cons_of_pos hz, idx_tail h1, idx_tail h2]
          omega
        · rw [List.filter_cons_of_neg hz]
          omega
theorem Ords.perm {K : Int → Int → Prop} {S S' : List Int} {L : List (List Int)} (O : Ords K S L) (h : S.Perm S') : Ords K S' L :=
  ⟨O.nd, fun o => by
    rw [O.mem]
    exact and_congr_left fun _ => ⟨fun z => z.trans h, fun z => z.trans h.symm⟩⟩
theorem Ords.uniq {K : Int → Int → Prop} {S : List Int} {L M : List (List Int)} (A : Ords K S L) (B : Ords K S M) : L.Perm M :=
  (List.perm_ext_iff_of_nodup A.nd B.nd).mpr fun o => by rw [A.mem, B.mem]
/-- the orders of two sets, by a test of the mixes -/
def mrgL (f : List Int → Bool) (LA LB : List (List Int)) : List (List Int) := LA.flatMap fun a => LB.flatMap fun b => (mixL a b).filter f
theorem ords_mix {K : Int → Int → Prop} {A B : List Int} {LA LB : List (List Int)} {f : List Int → Bool} (hd : ∀ x ∈ A, x ∉ B) (OA : Ords K A LA) (OB : Ords K B LB)
    (hf : ∀ o : List Int, o.Perm (A ++ B) → (f o = true ↔ ∀ x y, K x y → (x ∈ A ∧ y ∈ B) ∨ (x ∈ B ∧ y ∈ A) → o.idxOf x < o.idxOf y)) : Ords K (A ++ B) (mrgL f LA LB) := by
  let P : Int → Bool := fun x => decide (x ∈ A)
  have pA : ∀ x ∈ A, P x = true := fun x hx => decide_eq_true hx
  have pB : ∀ x ∈ B, P x = false := fun x hx => decide_eq_false fun z => hd x z hx
  have aA : ∀ a ∈ LA, ∀ x ∈ a, P x = true := fun a ha x hx => pA x ((((OA.mem a).mp ha).1.mem_iff).mp hx)
  have bB : ∀ b ∈ LB, ∀ x ∈ b, P x = false := fun b hb x hx => pB x ((((OB.mem b).mp hb).1.mem_iff).mp hx)
  have key : ∀ o, o ∈ mrgL f LA LB ↔ (o.filter P ∈ LA ∧ o.filter (fun x => !P x) ∈ LB) ∧ f o = true := fun o => by
    unfold mrgL
    rw [List.mem_flatMap]
    constructor
    · rintro ⟨a, ha, h⟩
      obtain ⟨b, hb, h⟩ := List.mem_flatMap.mp h
      obtain ⟨h1, h2⟩ := List.mem_filter.mp h
      obtain ⟨e1, e2⟩ := (mixL_mem P a b o (aA a ha) (bB b hb)).mp h1
      exact ⟨⟨e1.symm ▸ ha, e2.symm ▸ hb⟩, h2⟩
    · rintro ⟨⟨h1, h2⟩, h3⟩
      exact ⟨_, h1, List.mem_flatMap.mpr ⟨_, h2, List.mem_filter.mpr ⟨(mixL_mem P _ _ o (aA _ h1) (bB _ h2)).mpr ⟨rfl, rfl⟩, h3⟩⟩⟩
  refine ⟨?_, fun o => ?_⟩
  · refine List.pairwise_flatMap.mpr ⟨fun a ha => List.pairwise_flatMap.mpr ⟨fun b hb => (mixL_nd a b fun x hx hxb => ?_).filter _, OB.nd.imp_of_mem fun {b b'} hb hb' hne x hx y hy e => ?_⟩, OA.nd.imp_of_mem fun {a a'} ha ha' hne x hx y hy e => ?_⟩
    · have h1 := aA a ha x hx
      rw [bB b hb x hxb] at h1
      cases h1
    · subst e
      have e1 := ((mixL_mem P a b x (aA a ha) (bB b hb)).mp (List.mem_filter.mp hx).1).2
      have e2 := ((mixL_mem P a b' x (aA a ha) (bB b' hb')).mp (List.mem_filter.mp hy).1).2
      exact hne (e1.symm.trans e2)
    · subst e
      obtain ⟨b, hb, h1⟩ := List.mem_flatMap.mp hx
      obtain ⟨b', hb', h2⟩ := List.mem_flatMap.mp hy
      have e1 := ((mixL_mem P a b x (aA a ha) (bB b hb)).mp (List.mem_filter.mp h1).1).1
      have e2 := ((mixL_mem P a' b' x (aA a' ha') (bB b' hb')).mp (List.mem_filter.mp h2).1).1
      exact hne (e1.symm.trans e2)
  · rw [key, OA.mem, OB.mem]
    constructor
    · rintro ⟨⟨⟨p1, k1⟩, p2, k2⟩, h3⟩
      have hp : o.Perm (A ++ B) := (List.filter_append_perm P o).symm.trans (p1.append p2)
      refine ⟨hp, fun x y hk hx hy => ?_⟩
      have mx := (hp.mem_iff (a := x)).mp hx
      have my := (hp.mem_iff (a := y)).mp hy
      rcases List.mem_append.mp mx with x1 | x1 <;> rcases List.mem_append.mp my with y1 | y1
      · exact (idx_filter (pA x x1) (pA y y1) o).mp (k1 x y hk (List.mem_filter.mpr ⟨hx, pA x x1⟩) (List.mem_filter.mpr ⟨hy, pA y y1⟩))
      · exact (hf o hp).mp h3 x y hk (.inl ⟨x1, y1⟩)
      · exact (hf o hp).mp h3 x y hk (.inr ⟨x1, y1⟩)
      · have qx : (fun x => !P x) x = true := by show (!P x) = true; rw [pB x x1]; rfl
        have qy : (fun x => !P x) y = true := by show (!P y) = true; rw [pB y y1]; rfl
        exact (idx_filter (P := fun x => !P x) qx qy o).mp (k2 x y hk (List.mem_filter.mpr ⟨hx, qx⟩) (List.mem_filter.mpr ⟨hy, qy⟩))
    · rintro ⟨hp, hk⟩
      have eA : (A ++ B).filter P = A := by
        rw [List.filter_append, List.filter_eq_self.mpr pA, List.filter_eq_nil_iff.mpr fun x hx => by rw [pB x hx]; simp, List.append_nil]
      have eB : (A ++ B).filter (fun x => !P x) = B := by
        rw [List.filter_append, List.filter_eq_nil_iff.mpr fun x hx => by rw [pA x hx]; simp, List.filter_eq_self.mpr fun x hx => by rw [pB x hx]; rfl, List.nil_append]
      have p1 := hp.filter P
      have p2 := hp.filter fun x => !P x
      rw [eA] at p1
      rw [eB] at p2
      refine ⟨⟨⟨p1, fun x y k hx hy => ?_⟩, p2, fun x y k hx hy => ?_⟩, (hf o hp).mpr fun x y k h => ?_⟩
      · obtain ⟨x1, x2⟩ := List.mem_filter.mp hx
        obtain ⟨y1, y2⟩ := List.mem_filter.mp hy
        exact (idx_filter x2 y2 o).mpr (hk x y k x1 y1)
      · obtain ⟨x1, x2⟩ := List.mem_filter.mp hx
        obtain ⟨y1, y2⟩ := List.mem_filter.mp hy
        exact (idx_filter (P := fun x => !P x) x2 y2 o).mpr (hk x y k x1 y1)
      · refine hk x y k (hp.mem_iff.mpr ?_) (hp.mem_iff.mpr ?_)
        · rcases h with ⟨a, b⟩ | ⟨a, b⟩
          · exact List.mem_append_left _ a
          · exact List.mem_append_right _ a
        · rcases h with ⟨a, b⟩ | ⟨a, b⟩
          · exact List.mem_append_right _ b
          · exact List.mem_append_left _ b
end DL
/-! DL: times of a place in the orders of a branch, branch by branch. -/
namespace DL
open PySem PySem.Spec PyProof.Rows L2
def fitN (b : List Nat) (ah : Bool) (s : Nat) : Nat := if ah = true then (b.drop s).sum else (b.take s).sum
def mrgAt (c b : List Nat) (ah : Bool) (p : Nat) : Nat := ((List.range c.length).map fun t => if t ≤ p ∧ p - t ≤ b.length then c.getD t 0 * fitN b ah (p - t) * spN c.length b.length t (p - t) else 0).sum
def mrgC (c b : List Nat) (ah : Bool) : List Nat := (List.range (c.length + b.length)).map (mrgAt c b ah)
theorem drop_sum (g : Nat → Nat) (s : Nat) : ∀ B : Nat, (((List.range B).map g).drop s).sum = ((List.range B).map fun r => if s ≤ r then g r else 0).sum
  | 0 => by simp
  | B + 1 => by
    have ih := drop_sum g s B
    rw [List.range_succ, List.map_append, List.map_append, List.drop_append, List.sum_append_nat, List.sum_append_nat, ih, List.length_map, List.length_range]
    congr 1
    by_cases h : s ≤ B
    · rw [show s - B = 0 by omega]
      simp [h]
    · obtain ⟨k, hk⟩ : ∃ k, s - B = k + 1 := ⟨s - B - 1, by omega⟩
      rw [hk]
      simp [h]
theorem take_sum (g : Nat → Nat) (s : Nat) : ∀ B : Nat, (((List.range B).map g).take s).sum = ((List.range B).map fun r => if r < s then g r else 0).sum
  | 0 => by simp
  | B + 1 => by
    have ih := take_sum g s B
    rw [List.range_succ, List.map_append, List.map_append, List.take_append, List.sum_append_nat, List.sum_append_nat, ih, List.length_map, List.length_range]
    congr 1
    by_cases h : B < s
    · obtain ⟨k, hk⟩ : ∃ k, s - B = k + 1 := ⟨s - B - 1, by omega⟩
      rw [hk]
      simp [h]
    · rw [show s - B = 0 by omega]
      simp [h]
theorem sum_mulR {α : Type} (f : α → Nat) (w : Nat) : ∀ l : List α, (l.map fun x => f x * w).sum = (l.map f).sum * w
  | [] => by simp
  | x :: l => by
    have ih := sum_mulR f w l
    simp only [List.map_cons, List.sum_cons, ih, Nat.add_mul]
theorem tm_flat {α : Type} (f : α → List (List Int)) (v : Int) (t : Nat) : ∀ l : List α, tmN (l.flatMap f) v t = (l.map fun x => tmN (f x) v t).sum
  | [] => rfl
  | x :: l => by
    have ih := tm_flat f v t l
    rw [List.flatMap_cons, tmN_append, ih]
    rfl
/-- the numbers of orders of some places in which v has the times 0, 1, .. -/
def TmOf (K : Int → Int → Prop) (S : List Int) (v : Int) (c : List Nat) : Prop := ∃ L, Ords K S L ∧ c = (List.range S.length).map (tmN L v)
theorem TmOf.perm {K : Int → Int → Prop} {S S' : List Int} {v : Int} {c : List Nat} (h : TmOf K S v c) (p : S.Perm S') : TmOf K S' v c := by
  obtain ⟨L, O, e⟩ := h
  exact ⟨L, O.perm p, by rw [e, p.length_eq]⟩
theorem TmOf.len {K : Int → Int → Prop} {S : List Int} {v : Int} {c : List Nat} (h : TmOf K S v c) : c.length = S.length := by
  obtain ⟨L, O, e⟩ := h
  rw [e, List.length_map, List.length_range]
theorem ord_idx {K : Int → Int → Prop} {S : List Int} {L : List (List Int)} (O : Ords K S L) {v : Int} (hv : v ∈ S) {o : List Int} (ho : o ∈ L) : v ∈ o ∧ o.length = S.length ∧ o.idxOf v < S.length := by
  have hp := ((O.mem o).mp ho).1
  have hm := hp.mem_iff.mpr hv
  have := List.idxOf_lt_length_of_mem hm
  exact ⟨hm, hp.length_eq, by have := hp.length_eq; omega⟩
theorem TmOf.sum {K : Int → Int → Prop} {S : List Int} {v : Int} {c : List Nat} {L : List (List Int)} (h : TmOf K S v c) (hv : v ∈ S) (O : Ords K S L) : c.sum = L.length := by
  obtain ⟨M, OM, e⟩ := h
  have h1 := sum_by (fun o : List Int => o.idxOf v) (fun _ => 1) S.length M fun o ho => (ord_idx OM hv ho).2.2
  rw [(O.uniq OM).length_eq, e]
  have h2 : ((List.range S.length).map (tmN M v)).sum = ((List.range S.length).map fun t => (M.filter fun o => decide (o.idxOf v = t)).length * 1).sum := by
    congr 1
    exact List.map_congr_left fun t _ => (Nat.mul_one _).symm
  rw [h2, ← h1, sum_const, Nat.one_mul]
theorem tm_one {K : Int → Int → Prop} {v : Int} (hk : ¬ K v v) : TmOf K [v] v [1] := by
  refine ⟨[[v]], ⟨by simp, fun o => ?_⟩, ?_⟩
  · rw [List.mem_singleton]
    constructor
    · rintro rfl
      refine ⟨.refl _, fun x y k hx hy => ?_⟩
      rw [List.mem_singleton] at hx hy
      subst hx; subst hy
      exact absurd k hk
    · intro h
      exact List.perm_singleton.mp h.1
  · show _ = [tmN [[v]] v 0]
    unfold tmN
    simp
theorem tm_mrg {K : Int → Int → Prop} {A B : List Int} {v u : Int} {c b : List Nat} {ah : Bool} (ndA : A.Nodup) (ndB : B.Nodup) (hd : ∀ x ∈ A, x ∉ B) (hv : v ∈ A) (hu : u ∈ B) (TA : TmOf K A v c) (TB : TmOf K B u b)
    (hx : ∀ x y, K x y → (x ∈ A ∧ y ∈ B → x = v ∧ y = u ∧ ah = true) ∧ (x ∈ B ∧ y ∈ A → x = u ∧ y = v ∧ ah = false)) (hk : if ah = true then K v u else K u v) : TmOf K (A ++ B) v (mrgC c b ah) := by
  have lc := TA.len
  have lb := TB.len
  obtain ⟨LA, OA, eA⟩ := TA
  obtain ⟨LB, OB, eB⟩ := TB
  have huv : u ≠ v := fun z => hd v hv (z ▸ hu)
  refine ⟨mrgL (fun o => decide (o.idxOf v < o.idxOf u) == ah) LA LB, ords_mix hd OA OB fun o hp => ?_, ?_⟩
  · have mv : v ∈ o := hp.mem_iff.mpr (List.mem_append_left _ hv)
    have mu : u ∈ o := hp.mem_iff.mpr (List.mem_append_right _ hu)
    have ne : o.idxOf v ≠ o.idxOf u := fun z => huv (by
      have i1 := List.idxOf_lt_length_of_mem mv
      have i2 := List.idxOf_lt_length_of_mem mu
      have g1 : o[o.idxOf v]'i1 = v := List.getElem_idxOf i1
      have g2 : o[o.idxOf u]'i2 = u := List.getElem_idxOf i2
      rw [← g1, ← g2]; simp only [z])
    constructor
    · intro h x y k hxy
      rcases hxy with hxy | hxy
      · obtain ⟨rfl, rfl, e⟩ := (hx x y k).1 hxy
        subst e
        simpa using h
      · obtain ⟨rfl, rfl, e⟩ := (hx x y k).2 hxy
        subst e
        have : ¬ o.idxOf y < o.idxOf x := by simpa using h
        omega
    · intro h
      cases ah with
      | true =>
        have := h v u hk (.inl ⟨hv, hu⟩)
        simpa using this
      | false =>
        have := h u v hk (.inr ⟨hu, hv⟩)
        have : ¬ o.idxOf v < o.idxOf u := by omega
        simpa using this
  · unfold mrgC
    rw [List.length_append, ← lc, ← lb]
    refine List.map_congr_left fun p _ => ?_
    unfold mrgL
    rw [tm_flat]
    have h1 : ∀ a ∈ LA, ∀ b' ∈ LB, tmN ((mixL a b').filter fun o => decide (o.idxOf v < o.idxOf u) == ah) v p = if (decide (p ≤ a.idxOf v + b'.idxOf u) == ah) = true then atN A.length B.length (a.idxOf v) p else 0 := by
      intro a ha b' hb
      obtain ⟨mva, la, _⟩ := ord_idx OA hv ha
      obtain ⟨mub, lb', _⟩ := ord_idx OB hu hb
      have pa := ((OA.mem a).mp ha).1
      have pb := ((OB.mem b').mp hb).1
      have nvb : v ∉ b' := fun z => hd v hv (pb.mem_iff.mp z)
      have nua : u ∉ a := fun z => hd u (pa.mem_iff.mp z) hu
      rw [← la, ← lb', ← tm_mix a b' mva nvb p]
      unfold tmN
      rw [List.filter_filter]
      have h2 : ∀ o ∈ mixL a b', (decide (o.idxOf v = p) && (decide (o.idxOf v < o.idxOf u) == ah)) = (decide (o.idxOf v = p) && (decide (p ≤ a.idxOf v + b'.idxOf u) == ah)) := by
        intro o ho
        by_cases e : o.idxOf v = p
        · have := (mixL_at huv a b' o ho mva nvb).2.2 nua mub
          rw [e] at this
          rw [e, show decide (p < o.idxOf u) = decide (p ≤ a.idxOf v + b'.idxOf u) from decide_eq_decide.mpr this]
        · rw [decide_eq_false e]
          rfl
      rw [List.filter_congr h2]
      by_cases q : (decide (p ≤ a.idxOf v + b'.idxOf u) == ah) = true
      · rw [if_pos q, q]
        simp only [Bool.and_true]
      · rw [if_neg q, Bool.eq_false_iff.mpr q]
        simp
    have h3 : ∀ a ∈ LA, tmN (LB.flatMap fun b' => (mixL a b').filter fun o => decide (o.idxOf v < o.idxOf u) == ah) v p = ((List.range B.length).map fun r => tmN LB u r * if (decide (p ≤ a.idxOf v + r) == ah) = true then atN A.length B.length (a.idxOf v) p else 0).sum := by
      intro a ha
      rw [tm_flat, sum_congr _ _ _ fun b' hb => h1 a ha b' hb]
      exact sum_by (fun o : List Int => o.idxOf u) (fun r => if (decide (p ≤ a.idxOf v + r) == ah) = true then atN A.length B.length (a.idxOf v) p else 0) B.length LB fun o ho => (ord_idx OB hu ho).2.2
    rw [sum_congr _ _ _ h3]
    rw [sum_by (fun o : List Int => o.idxOf v) (fun t => ((List.range B.length).map fun r => tmN LB u r * if (decide (p ≤ t + r) == ah) = true then atN A.length B.length t p else 0).sum) A.length LA fun o ho => (ord_idx OA hv ho).2.2]
    unfold mrgAt
    rw [lc, lb]
    refine congrArg List.sum (List.map_congr_left fun t ht => ?_)
    have htA := List.mem_range.mp ht
    have ec : c.getD t 0 = (LA.filter fun o => decide (o.idxOf v = t)).length := by
      rw [eA, List.getD_eq_getElem?_getD, List.getElem?_map, List.getElem?_range htA]
      rfl
    rw [ec]
    by_cases hc : t ≤ p ∧ p - t ≤ B.length
    · rw [if_pos hc, Nat.mul_assoc]
      congr 1
      unfold atN
      rw [if_pos hc]
      have h4 : ∀ r, (tmN LB u r * if (decide (p ≤ t + r) == ah) = true then spN A.length B.length t (p - t) else 0) = (if (decide (p ≤ t + r) == ah) = true then tmN LB u r else 0) * spN A.length B.length t (p - t) := fun r => by
        split
        · rfl
        · rw [Nat.mul_zero, Nat.zero_mul]
      rw [sum_congr _ _ _ fun r _ => h4 r, sum_mulR]
      congr 1
      unfold fitN
      rw [eB]
      cases ah with
      | true =>
        rw [if_pos rfl, drop_sum]
        refine sum_congr _ _ _ fun r _ => ?_
        by_cases q : p ≤ t + r
        · rw [if_pos (by omega), if_pos (by rw [decide_eq_true q]; rfl)]
        · rw [if_neg (by omega), if_neg (by rw [decide_eq_false q]; simp)]
      | false =>
        rw [if_neg (by simp), take_sum]
        refine sum_congr _ _ _ fun r _ => ?_
        by_cases q : p ≤ t + r
        · rw [if_neg (by omega), if_neg (by rw [decide_eq_true q]; simp)]
        · rw [if_pos (by omega), if_pos (by rw [decide_eq_false q]; rfl)]
    · rw [if_neg hc]
      have h4 : ∀ r, (tmN LB u r * if (decide (p ≤ t + r) == ah) = true then atN A.length B.length t p else 0) = 0 := fun r => by
        unfold atN
        rw [if_neg hc]
        split <;> exact Nat.mul_zero _
      rw [sum_zero _ _ fun r _ => h4 r, Nat.mul_zero]
end DL
/-! DL: branches of a web without rings. -/
namespace DL
open PySem PySem.Spec PyProof.Rows L2
/-- what is reached from v without r -/
def Br (es : List Edge) (r v : Int) : Int → Prop := Rch (fun a b => adj es a b = true ∧ b ≠ r) v
section
variable {n : Int} {es : List Edge}
/-- a direction of each edge -/
structure Dir (es : List Edge) (K : Int → Int → Prop) : Prop where
  ad : ∀ {x y}, K x y → adj es x y = true
  one : ∀ {x y}, adj es x y = true → K x y ∨ K y x
  no : ∀ {x y}, K x y → ¬ K y x
end
end DL
/-! DL: the counts of a place with one branch more, number by number. -/
namespace DL
open PySem PySem.Spec PyProof.Rows L2
def wgt (c b : List Nat) (ah : Bool) (t s : Nat) : Nat := c.getD t 0 * fitN b ah s * spN c.length b.length t s
def trm (c b : List Nat) (ah : Bool) (p t : Nat) : Nat := if t ≤ p ∧ p - t ≤ b.length then wgt c b ah t (p - t) else 0
def accM (c b : List Nat) (ah : Bool) (t s p : Nat) : Nat := ((List.range t).map (trm c b ah p)).sum + if t ≤ p ∧ p - t < s then wgt c b ah t (p - t) else 0
def accL (c b : List Nat) (ah : Bool) (t s : Nat) : List PyData := (List.range (c.length + b.length)).map fun p => .int ((accM c b ah t s p : Nat) : Int)
/-- who must stand ahead of whom -/
def KeyZ (Z : List (Edge × Int)) (x y : Int) : Prop := ∃ z ∈ Z, firP z = x ∧ laterP z = y
/-! ### few orders -/
def allS (S : List Int) : Nat → List (List Int)
  | 0 => [[]]
  | m + 1 => (allS S m).flatMap fun o => S.map (· :: o)
theorem allS_len (S : List Int) : ∀ m, (allS S m).length = S.length ^ m
  | 0 => rfl
  | m + 1 => by
    have ih := allS_len S m
    show ((allS S m).flatMap fun o => S.map (· :: o)).length = _
    rw [List.length_flatMap, sum_congr _ (fun _ => S.length) _ fun o _ => List.length_map _, sum_const, ih, Nat.pow_succ, Nat.mul_comm]
theorem allS_mem {S : List Int} : ∀ {m : Nat} {o : List Int}, o.length = m → (∀ x ∈ o, x ∈ S) → o ∈ allS S m
  | 0, o, h, _ => by rw [List.length_eq_zero_iff.mp h]; exact .head _
  | m + 1, o, h, hx => by
    cases o with
    | nil => cases h
    | cons x o =>
      refine List.mem_flatMap.mpr ⟨o, allS_mem (by rw [List.length_cons] at h; omega) fun y hy => hx y (.tail _ hy), List.mem_map.mpr ⟨x, hx x (.head _), rfl⟩⟩
theorem ordsK_few {K : Int → Int → Prop} {S : List Int} {L : List (List Int)} (O : Ords K S L) (h : S.length ≤ 9) : L.length ≤ 387420489 := by
  have h1 := List.Nodup.length_le_of_subset O.nd (l₂ := allS S S.length) fun o ho => allS_mem ((O.mem o).mp ho).1.length_eq fun x hx => ((O.mem o).mp ho).1.mem_iff.mp hx
  rw [allS_len] at h1
  have h2 : S.length ^ S.length ≤ 9 ^ 9 := Nat.le_trans (Nat.pow_le_pow_left h _) (Nat.pow_le_pow_right (by decide) h)
  exact Nat.le_trans h1 h2
theorem TmOf.few {K : Int → Int → Prop} {S : List Int} {v : Int} {c : List Nat} (T : TmOf K S v c) (h : S.length ≤ 9) (t : Nat) : c.getD t 0 ≤ 387420489 := by
  obtain ⟨L, O, rfl⟩ := T
  rw [List.getD_eq_getElem?_getD, List.getElem?_map]
  cases (List.range S.length)[t]? with
  | none => exact Nat.zero_le _
  | some x => exact Nat.le_trans (List.length_filter_le _ _) (ordsK_few O h)
end DL
/-! DL: orders of a web without rings, part by part. -/
namespace DL
open PySem PySem.Spec PyProof.Rows L2
section
variable {n : Int} {es : List Edge} {ls : List Int}
theorem ords_none {K : Int → Int → Prop} : Ords K [] [[]] :=
  ⟨by simp, fun o => by
    rw [List.mem_singleton]
    constructor
    · rintro rfl
      exact ⟨.refl _, fun x y _ h => nomatch h⟩
    · exact fun h => List.perm_nil.mp h.1⟩
end
end DL
/-! DL: a part of a web with its places named anew. -/
namespace DL
open PySem PySem.Spec PyProof.Rows L2
def fB (B : List Int) (x : Int) : Int := (B.idxOf x : Nat)
def gB (B : List Int) (i : Int) : Int := B.getD i.toNat 0
def subE (B : List Int) (es : List Edge) : List Edge := (es.filter fun e => decide (e.1 ∈ B)).map fun e => (fB B e.1, fB B e.2)
section
variable {B : List Int} (hB : B.Pairwise (· < ·))
include hB
variable {n : Int} {es : List Edge}
end
end DL
/-! DL: the order behind an order. -/
namespace DL
open PySem PySem.Spec PyProof.Rows L2
theorem allS_nd {S : List Int} (h : S.Nodup) : ∀ m, (allS S m).Nodup
  | 0 => by
    show ([[]] : List (List Int)).Nodup
    simp
  | m + 1 => by
    refine List.pairwise_flatMap.mpr ⟨fun o _ => List.pairwise_map.mpr (h.imp fun hab e => hab (List.cons.inj e).1), (allS_nd h m).imp fun hab x hx y hy e => ?_⟩
    obtain ⟨x', _, rfl⟩ := List.mem_map.mp hx
    obtain ⟨y', _, rfl⟩ := List.mem_map.mp hy
    exact hab (List.cons.inj e).2
theorem ords_ex {K : Int → Int → Prop} {S : List Int} (h : S.Nodup) : ∃ L, Ords K S L :=
  ⟨(allS S S.length).filter fun o => dec (o.Perm S ∧ Kp K o), (allS_nd h _).filter _, fun o => by
    rw [List.mem_filter, dec_iff]
    exact ⟨fun z => z.2, fun z => ⟨allS_mem z.1.length_eq fun x hx => z.1.mem_iff.mp hx, z⟩⟩⟩
end DL
/-! DL: max(d.values()), for v in d.values(), math.factorial. -/
namespace DL
open PySem PySem.Spec PyProof.Rows L2
/-- max(d.values()), d a dict that nobody changes any more, its values ints, one at least -/
def tMaxVals (td : TE) : TE := fun σ H Q => td σ H fun x H1 => ∃ a o kvs is, x = V.ref a ∧ H1 a = some (.frz o (.dK kvs)) ∧ kvs.map (·.2) = is.map V.int ∧ is ≠ [] ∧ ∀ m, m ∈ is → (∀ j ∈ is, j ≤ m) → Q (.int m) H1
section
variable {X : Cx} {o a : Expr} {p pos apos mpos : Pos} {td : TE} {ta : TDE}
/-- math.factorial -/
def rFact : List V → Hp → VK → Prop := fun vs H Q => ∃ a : Nat, vs = [.int a] ∧ a ≤ 20000 ∧ Q (.int ((facN a : Nat) : Int)) H
/-- for v in d.values(), the keys ints -/
def tiVals (t : TDE) : TDA := fun ρ q => t ρ fun d ρ1 => ∃ ks : List (Int × PyData), d = dK ks ∧ q (ks.map (·.2)) ρ1
end
end DL
/-! DN: all trees of few places; the most orders a laying has. -/
namespace DL
open PySem PySem.Spec PyProof.Rows L2
/-- the pairs of places, as they are made and in their order -/
def prF (n : Nat) : List Edge := (List.range n).flatMap fun (k : Nat) => (List.range k).map fun (j : Nat) => ((j : Int), (k : Int))
def srF (n : Nat) : List Edge := (List.range n).flatMap fun (j : Nat) => ((List.range n).filter fun (k : Nat) => decide (j < k)).map fun (k : Nat) => ((j : Int), (k : Int))
local instance lexLt_dec : DecidableRel lexLt := fun p q => inferInstanceAs (Decidable (p.1 < q.1 ∨ (p.1 = q.1 ∧ p.2 < q.2)))
local instance lexLe_dec : DecidableRel lexLe := fun p q => inferInstanceAs (Decidable (p.1 < q.1 ∨ (p.1 = q.1 ∧ p.2 ≤ q.2)))
theorem lexLe_anti {p q : Edge} (h : lexLe p q) (g : lexLe q p) : p = q := by
  obtain ⟨a, b⟩ := p
  obtain ⟨c, d⟩ := q
  have h : a < c ∨ (a = c ∧ b ≤ d) := h
  have g : c < a ∨ (c = a ∧ d ≤ b) := g
  have : a = c := by omega
  have : b = d := by omega
  simp [*]
theorem sorted_one {xs ys : List Edge} (p : xs.Perm ys) (h : xs.Pairwise lexLe) (g : ys.Pairwise lexLe) : xs = ys := by
  induction xs generalizing ys with
  | nil => exact (List.nil_perm.mp p).symm
  | cons x xs ih =>
    cases ys with
    | nil => have := p.length_eq; simp at this
    | cons y ys =>
      obtain ⟨h1, h2⟩ := List.pairwise_cons.mp h
      obtain ⟨g1, g2⟩ := List.pairwise_cons.mp g
      have e : x = y := by
        rcases List.mem_cons.mp (p.mem_iff.mp List.mem_cons_self) with e | e
        · exact e
        · rcases List.mem_cons.mp (p.mem_iff.mpr (List.mem_cons_self (a := y) (l := ys))) with e' | e'
          · exact e'.symm
          · exact lexLe_anti (h1 _ e') (g1 _ e)
      subst e
      rw [ih (List.perm_cons _ |>.mp p) h2 g2]
/-- the sets of few edges -/
def stepL (n : Nat) (L : List (List Edge)) (e : Edge) : List (List Edge) := L ++ (L.filter fun one => decide (one.length + 1 < n)).map fun one => one ++ [e]
def lotF (n : Nat) (ps : List Edge) : List (List Edge) := ps.foldl (stepL n) [[]]
/-! ### what hangs together with place 0 -/
def nx1 (S : List Int) (e : Edge) : List Int := if e.1 ∈ S ∧ e.2 ∉ S then e.2 :: S else if e.2 ∈ S ∧ e.1 ∉ S then e.1 :: S else S
def nxS (es : List Edge) (S : List Int) : List Int := es.foldl nx1 S
def rS (es : List Edge) : Nat → List Int
  | 0 => [0]
  | k + 1 => nxS es (rS es k)
def clB (es : List Edge) (S : List Int) : Bool := es.all fun e => decide (e.1 ∈ S ↔ e.2 ∈ S)
def trB (n : Nat) (es : List Edge) : Bool := (List.range n).all fun (k : Nat) => decide ((k : Int) ∈ rS es n)
/-- in how many orders a laying can be cleared at most -/
def mxC (n : Nat) (es : List Edge) : Nat := ((List.range (2 ^ n)).map (clrF es (n : Int) (2 ^ n - 1))).foldl max 0
def trF (n : Nat) : List (List Edge) := (lotF n (srF n)).filter fun es => decide (es.length + 1 = n) && trB n es
/-! ### the most orders, by the dict of counts -/
/-- a loop, by the number of the turn -/
theorem wFor_at {g : TDG} {body : TDS} {q : DEnds} (I : Nat → DEnv → Prop) (ds : List PyData) (h0 : ∀ ρ, I ds.length ρ → q.nx ρ)
    (hs' : ∀ i d ρ (k : DEnv → Prop), ds[i]? = some d → I i ρ → (∀ ρ', I (i + 1) ρ' → k ρ') → g d ρ fun ρ1 => body { q with nx := k, ct := k, bk := q.nx } ρ1) :
    ∀ ρ, I 0 ρ → wFor g body q ds ρ := by
  intro ρ h
  refine wFor_ind (fun rest ρ => ∃ i, rest = ds.drop i ∧ i ≤ ds.length ∧ I i ρ) ?_ ?_ _ _ ⟨0, by rw [List.drop_zero], Nat.zero_le _, h⟩
  · rintro ρ ⟨i, e, hi, hI⟩
    have : ds.length ≤ i := List.drop_eq_nil_iff.mp e.symm
    have e2 : i = ds.length := by omega
    subst e2
    exact h0 ρ hI
  · rintro d rest ρ k ⟨i, e, hi, hI⟩ hk
    have hlt : i < ds.length := by
      apply Classical.byContradiction
      intro z
      rw [List.drop_eq_nil_iff.mpr (by omega)] at e
      cases e
    rw [List.drop_eq_getElem_cons hlt] at e
    injection e with e1 e2
    exact hs' i d ρ k (by rw [e1]; exact List.getElem?_eq_getElem hlt) hI fun ρ' h' => hk ρ' ⟨i + 1, e2, hlt, h'⟩
theorem rangeD_get {lo : Int} {m i : Nat} {d : PyData} (h : (rangeD lo m)[i]? = some d) : i < m ∧ d = .int (lo + (i : Int)) := by
  unfold rangeD at h
  rw [List.getElem?_map] at h
  obtain ⟨j, hj, rfl⟩ := Option.map_eq_some_iff.mp h
  obtain ⟨h1, h2⟩ := List.getElem?_eq_some_iff.mp hj
  rw [List.length_range] at h1
  rw [List.getElem_range] at h2
  subst h2
  exact ⟨h1, rfl⟩
end DL
/-! DN: a list of lists of one's own: made by a comprehension, changed item by item in a loop, then let go. -/
namespace DL
open PySem PySem.Spec PyProof.Rows L2
def Ctx.withs (C : Ctx) (as : List Addr) : Ctx := { C with ex := as ++ C.ex }
section
variable {C : Ctx} {K : PySem.W.Frag} {H H' hH hH' : Hp} {σ : L2.St} {ρ ρ' : DEnv} {as es bs : List Addr}
/-- the lists within, each with its items -/
def NestR (K : PySem.W.Frag) (hH H : Hp) : List Addr → List (List PyData) → Prop
  | [], [] => True
  | b :: bs, r :: rs => (∃ vs, H b = some (.lst vs) ∧ DpAll K hH vs r) ∧ NestR K hH H bs rs
  | _, _ => False
theorem NestR.mono (l : Le hH hH') : ∀ {bs : List Addr} {rs : List (List PyData)}, (∀ b ∈ bs, ∀ o, H b = some o → H' b = some o) → NestR K hH H bs rs → NestR K hH' H' bs rs
  | [], [], _, _ => trivial
  | b :: bs, r :: rs, k, ⟨⟨vs, h1, h2⟩, h3⟩ => ⟨⟨vs, k b List.mem_cons_self _ h1, DpAll.le l h2⟩, NestR.mono l (fun b hb => k b (List.mem_cons_of_mem _ hb)) h3⟩
theorem NestR.len : ∀ {bs : List Addr} {rs : List (List PyData)}, NestR K hH H bs rs → bs.length = rs.length
  | [], [], _ => rfl
  | b :: bs, r :: rs, ⟨h1, h3⟩ => by rw [List.length_cons, List.length_cons, NestR.len h3]
theorem NestR.get : ∀ {bs : List Addr} {rs : List (List PyData)} {j : Nat} {r : List PyData}, NestR K hH H bs rs → rs[j]? = some r → ∃ b vs, bs[j]? = some b ∧ H b = some (.lst vs) ∧ DpAll K hH vs r
  | [], [], _, _, _, e => by simp at e
  | b :: bs, r :: rs, 0, r', ⟨⟨vs, h1, h2⟩, h3⟩, e => by simp at e; subst e; exact ⟨b, vs, rfl, h1, h2⟩
  | b :: bs, r :: rs, j + 1, r', ⟨h1, h3⟩, e => by
    obtain ⟨b', vs, a1, a2, a3⟩ := NestR.get h3 (show rs[j]? = some r' by simpa using e)
    exact ⟨b', vs, by simpa using a1, a2, a3⟩
theorem NestR.put {b : Addr} {ws : List V} {r' : List PyData} (D : DpAll K hH ws r') : ∀ {bs : List Addr} {rs : List (List PyData)} {j : Nat}, bs.Nodup → NestR K hH H bs rs → bs[j]? = some b → NestR K hH (upd H b (.lst ws)) bs (rs.set j r')
  | [], [], _, _, _, e => by simp at e
  | c :: bs, r :: rs, 0, nd, ⟨_, h3⟩, e => by
    simp at e
    subst e
    refine ⟨⟨ws, upd_same, D⟩, NestR.mono Le.rfl (fun b hb o z => ?_) h3⟩
    rw [upd_ne (fun q => (List.nodup_cons.mp nd).1 (by rw [← q]; exact hb))]; exact z
  | c :: bs, r :: rs, j + 1, nd, ⟨⟨vs, h1, h2⟩, h3⟩, e => by
    have e : bs[j]? = some b := by simpa using e
    refine ⟨⟨vs, ?_, h2⟩, NestR.put D (List.nodup_cons.mp nd).2 h3 e⟩
    rw [upd_ne (fun q => (List.nodup_cons.mp nd).1 (by rw [q]; exact List.mem_of_getElem? e))]; exact h1
theorem NestR.all {bs : List Addr} {rs : List (List PyData)} (hv : ∀ b ∈ bs, hH b = H b) : NestR K hH H bs rs → DpAll K hH (bs.map V.ref) (rs.map PyData.list) := by
  induction bs generalizing rs with
  | nil => intro h; cases rs with
    | nil => exact .nil
    | cons _ _ => exact h.elim
  | cons b bs ih => intro h; cases rs with
    | nil => exact h.elim
    | cons r rs =>
      obtain ⟨⟨vs, h1, h2⟩, h3⟩ := h
      exact .cons (.lst (SqL.of (by rw [hv b List.mem_cons_self]; exact h1)) h2) (ih (fun c hc => hv c (List.mem_cons_of_mem _ hc)) h3)
end
section
variable {X : Cx} {tg iter e : Expr}
def cF (K : PySem.W.Frag) (t : TDA) : TE := fun σ H Q => ∃ C ρ q, EnvD C K H σ ρ ∧ t ρ q ∧ ∀ a vs H' ds ρ', EnvD (C.with a) K H' σ ρ' → Step C ρ H ρ' H' → H a = none → H' a = some (.lst vs) → DpAll K (hide (hs (C.with a) ρ') H') vs ds → q ds ρ' → Q (.ref a) H'
theorem DF.pe {t : TDA} (h : DF X e t) : PE X e (cF X.K t) := by
  obtain ⟨te, hp, hq⟩ := h.ex
  exact ⟨fun pins s σ H Q I ⟨C, ρ, q, E, w, k⟩ => hp.run pins s σ H Q I (hq C σ H ρ q Q E w k)⟩
/-- the new lists, one by one -/
def wLcN (g : TDG) (te : TDA) (vs : List Nat) (q : List (List PyData) → Prop) (ρ0 : DEnv) : List PyData → List (List PyData) → Prop
  | [], acc => q acc
  | d :: ds, acc => g d ρ0 fun ρ1 => wipeD ρ1 vs = ρ0 ∧ te ρ1 fun y ρ3 => ρ3 = ρ1 ∧ acc.length < sizeLine ∧ wLcN g te vs q ρ0 ds (acc ++ [y])
def tdLcN (ti : TDA) (g : TDG) (te : TDA) (vs : List Nat) (ρ : DEnv) (q : List (List PyData) → DEnv → Prop) : Prop := ti ρ fun ds ρ1 => noOwn ρ1 vs = true ∧ wLcN g te vs (fun acc => q acc ρ1) (wipeD ρ1 vs) ds []
end
end DL
/-! DN: name = [[..] for ..]; for ..: name[k][j] += x. -/
namespace DL
open PySem PySem.Spec PyProof.Rows L2
section
variable {C : Ctx} {K : PySem.W.Frag} {H H' : Hp} {σ : L2.St} {ρ : DEnv} {as : List Addr}
end
section
variable {X : Cx} {tg iter e k1 k2 val : Expr}
def tdNestB (t1 t2 t3 : TDE) (rd : RD2) (q : List (List PyData) → DEnv → Prop) (rows : List (List PyData)) (ρ : DEnv) : Prop := t1 ρ fun d1 ρ1 => ∃ (p : Nat) (row : List PyData), d1 = .int p ∧ rows[p]? = some row ∧ t2 ρ1 fun d2 ρ2 => ∃ (k : Nat) (x : PyData), d2 = .int k ∧ row[k]? = some x ∧ t3 ρ2 fun d3 ρ3 => rd x d3 fun z => q (rows.set p (row.set k z)) ρ3
def wForN (g : TDG) (b : (List (List PyData) → DEnv → Prop) → List (List PyData) → DEnv → Prop) (q : List (List PyData) → DEnv → Prop) : List PyData → List (List PyData) → DEnv → Prop
  | [], rows, ρ => q rows ρ
  | d :: ds, rows, ρ => g d ρ fun ρ1 => b (wForN g b q ds) rows ρ1
def tdNest (i : Nat) (ti0 : TDA) (g0 : TDG) (te0 : TDA) (vs0 : List Nat) (ti : TDA) (g : TDG) (t1 t2 t3 : TDE) (rd : RD2) (v : TDS) : TDS := fun q ρ =>
  tdLcN ti0 g0 te0 vs0 ρ fun rows ρ1 => i < ρ1.length ∧ ti (ρ1.set i .un) fun ds ρ2 => wForN g (tdNestB t1 t2 t3 rd) (fun rows ρ3 => v q (ρ3.set i (.sh (.list (rows.map PyData.list))))) ds rows ρ2
theorem atI_nat' {α : Type} {xs : List α} {k : Nat} {x : α} (h : xs[k]? = some x) : atI xs (k : Int) = some x := by
  have hk := (List.getElem?_eq_some_iff.mp h).1
  unfold atI ixN
  rw [if_pos (by omega), if_pos (by omega)]
  simpa using h
theorem ixN_nat' {n k : Nat} (h : k < n) : ixN n (k : Int) = some k := by
  unfold ixN
  rw [if_pos (by omega), if_pos (by omega)]
  simp
end
end DL
/-! DN: when a place is taken, over all orders; costs by times; sums of ratios. -/
namespace DL
open PySem PySem.Spec PyProof.Rows L2
/-! ### tables of numbers -/
def tabN (N : Nat) (f : Nat → Nat → Nat) : List (List PyData) := (List.range N).map fun p => (List.range N).map fun t => .int ((f p t : Nat) : Int)
/-! ### in how many orders a place comes at a time -/
def tmC (L : List (List Int)) (p t : Nat) : Nat := (L.filter fun r => decide (r[t]? = some (p : Int))).length
def tmS (L : List (List Int)) (p : Nat) : Nat := (L.map fun r => r.idxOf (p : Int)).sum
def gI (p t : Nat) : Nat → Nat → Nat := fun s k => if k = p ∧ (bitsOf s).length = t then 1 else 0
/-! ### costs by times -/
/-! ### ratios -/
end DL
/-! DN: which place is taken ahead of which, over all orders; sums of times. -/
namespace DL
open PySem PySem.Spec PyProof.Rows L2
def gA (o q : Nat) : Nat → Nat → Nat := fun s k => if k = o ∧ s.testBit q = false then 1 else 0
def gO (o : Nat) : Nat → Nat → Nat := fun _ k => if k = o then 1 else 0
def ahdC (L : List (List Int)) (o q : Nat) : Nat := (L.filter fun r => decide (r.idxOf (o : Int) < r.idxOf (q : Int))).length
section
variable {n : Int} {es : List Edge} {ls : List Int} {to on : List Nat}
end
/-! ### sums over the places -/
end DL
/-! DN: *xs in a display. -/
namespace DL
open PySem PySem.Spec PyProof.Rows L2
section
variable {X : Cx} {e : Expr} {es : List Expr} {te : TDE}
def tdStar (te : TDE) (t : TDA) : TDA := fun ρ q => te ρ fun x ρ1 => match x with
  | .tuple ds => t ρ1 fun es ρ2 => q (ds ++ es) ρ2
  | .list ds => t ρ1 fun es ρ2 => q (ds ++ es) ρ2
  | _ => False
variable {a b : Expr} {ta tb : TDE}
/-- xs != [], xs == [], whatever the items -/
def rNeNil (K : PySem.W.Frag) : R2 := fun x y H Q => ∃ (a b : Addr) (xs : List V), x = .ref a ∧ y = .ref b ∧ SqL K H a xs ∧ SqL K H b [] ∧ Q (.bl (!xs.isEmpty)) H
def rEqNil (K : PySem.W.Frag) : R2 := fun x y H Q => ∃ (a b : Addr) (xs : List V), x = .ref a ∧ y = .ref b ∧ SqL K H a xs ∧ SqL K H b [] ∧ Q (.bl xs.isEmpty) H
theorem op_neNil (hu : X.A.units + 64 < cLine) : OpR X (compareOp .NotEq) (rNeNil X.K) := by
  intro pins s σ H x y v u Q I rx ry h
  obtain ⟨a, b, xs, rfl, rfl, ha, hb, q⟩ := h
  obtain ⟨its, r1, p1, _⟩ := I.list ha
  obtain ⟨its2, r2, p2, _⟩ := I.list hb
  cases xs with
  | nil => exact op_neD (X := X) hu pins s σ H _ _ v u Q I rx ry ⟨.list [], .list [], .lst ha .nil, .lst hb .nil, rfl, rfl, q⟩
  | cons z zs =>
    cases rx
    cases ry
    cases r2
    refine SeqAt.RcNeAt.lists_lengths p1.isList p2.isList ?_ (by omega) X.prog X.w X.xe _ ⟨.bl _, H, I, rfl, q⟩
    have := r1.length
    cases its with
    | nil => cases r1
    | cons _ _ => simp
theorem op_eqNil (hu : X.A.units + 64 < cLine) : OpR X (compareOp .Eq) (rEqNil X.K) := by
  intro pins s σ H x y v u Q I rx ry h
  obtain ⟨a, b, xs, rfl, rfl, ha, hb, q⟩ := h
  obtain ⟨its, r1, p1, _⟩ := I.list ha
  obtain ⟨its2, r2, p2, _⟩ := I.list hb
  cases xs with
  | nil => exact op_eqD (X := X) hu pins s σ H _ _ v u Q I rx ry ⟨.list [], .list [], .lst ha .nil, .lst hb .nil, rfl, rfl, q⟩
  | cons z zs =>
    cases rx
    cases ry
    cases r2
    refine SeqAt.eq_list_lengthsAt p1.isList p2.isList ?_ (by omega) ⟨.bl _, H, I, rfl, q⟩
    cases its with
    | nil => cases r1
    | cons _ _ => simp
theorem l_neNil (hu : X.A.units + 64 < cLine) : LOp X (compareOp .NotEq) (fun x y q => match x, y with
    | .list ds, .list [] => q (.bool (!ds.isEmpty))
    | _, _ => False) := by
  refine ⟨_, op_neNil hu, fun as H x y dx dy qd Q ex Dx Dy w k => ?_⟩
  dsimp only at w
  split at w
  · rename_i ds
    obtain ⟨a, vs, rfl, s, D⟩ := Dp.list_of Dx
    obtain ⟨b, ws, rfl, s', D'⟩ := Dp.list_of Dy
    cases D'
    exact ⟨a, b, vs, rfl, rfl, SqL.le hide_Le s, SqL.le hide_Le s', k _ H _ .rfl (by rw [DpAll.nil_iff D]; exact .bl _) w⟩
  · exact w.elim
theorem l_eqNil (hu : X.A.units + 64 < cLine) : LOp X (compareOp .Eq) (fun x y q => match x, y with
    | .list ds, .list [] => q (.bool ds.isEmpty)
    | _, _ => False) := by
  refine ⟨_, op_eqNil hu, fun as H x y dx dy qd Q ex Dx Dy w k => ?_⟩
  dsimp only at w
  split at w
  · rename_i ds
    obtain ⟨a, vs, rfl, s, D⟩ := Dp.list_of Dx
    obtain ⟨b, ws, rfl, s', D'⟩ := Dp.list_of Dy
    cases D'
    exact ⟨a, b, vs, rfl, rfl, SqL.le hide_Le s, SqL.le hide_Le s', k _ H _ .rfl (by rw [DpAll.nil_iff D]; exact .bl _) w⟩
  · exact w.elim
end
end DL
/-! DN: ratios with a sign; gaps between two places, over all orders. -/
namespace DL
open PySem PySem.Spec PyProof.Rows L2
/-! ### ratios with a sign -/
def sgI (a : Int) (k : Nat) : Int := if a < 0 then -(k : Int) else k
def nrmI (a : Int) (b : Nat) : Int × Nat := (sgI a (nrm a.natAbs b).1, (nrm a.natAbs b).2)
def rtI (p : Int × Nat) : PyData := .tuple [.int p.1, .int (p.2 : Nat)]
/-! ### gaps -/
def gapI (a b : Nat) (r : List Int) : Int := (r.idxOf (b : Int) : Int) - (r.idxOf (a : Int) : Int)
def gapC (L : List (List Int)) (a b : Nat) (g : Int) : Nat := (L.filter fun r => decide (gapI a b r = g)).length
theorem gapC_pos {L : List (List Int)} {a b : Nat} {g : Int} : 0 < gapC L a b g ↔ ∃ r ∈ L, gapI a b r = g := by
  unfold gapC
  rw [List.length_pos_iff_exists_mem]
  constructor
  · rintro ⟨r, hr⟩
    obtain ⟨h1, h2⟩ := List.mem_filter.mp hr
    exact ⟨r, h1, of_decide_eq_true h2⟩
  · rintro ⟨r, h1, h2⟩
    exact ⟨r, List.mem_filter.mpr ⟨h1, decide_eq_true h2⟩⟩
/-! ### a dict that counts -/
structure GD (ks : List (Int × PyData)) (f : Int → Nat) : Prop where
  nd : (ks.map (·.1)).Nodup
  val : ∀ g, (lk ks g).getD (.int 0) = .int (f g : Nat)
  mem : ∀ g, g ∈ ks.map (·.1) ↔ 0 < f g
theorem GD.nil : GD [] fun _ => 0 := ⟨List.nodup_nil, fun _ => rfl, fun g => by simp⟩
theorem GD.step {ks : List (Int × PyData)} {f : Int → Nat} (D : GD ks f) (g : Int) : GD (putD ks g (.int ((f g : Nat) + 1))) fun x => f x + if x = g then 1 else 0 := by
  refine ⟨?_, fun x => ?_, fun x => ?_⟩
  · rw [put_keys]
    split
    · exact D.nd
    · rename_i h
      exact List.nodup_append.mpr ⟨D.nd, by simp, fun a ha b hb => by
        rw [List.mem_singleton] at hb
        subst hb
        rintro rfl
        exact h ha⟩
  · rw [lk_put]
    by_cases e : x = g
    · subst e
      rw [if_pos rfl, if_pos rfl]
      show PyData.int _ = .int _
      rw [Int.natCast_add]
      rfl
    · rw [if_neg e, if_neg e]
      exact D.val x
  · rw [put_keys]
    split
    · rename_i h
      rw [D.mem]
      by_cases e : x = g
      · subst e
        have := (D.mem x).mp h
        rw [if_pos rfl]; omega
      · rw [if_neg e]; omega
    · rename_i h
      rw [List.mem_append, D.mem, List.mem_singleton]
      by_cases e : x = g
      · rw [if_pos e]; exact ⟨fun _ => by omega, fun _ => .inr e⟩
      · rw [if_neg e]; exact ⟨fun z => z.elim (fun z => by omega) (fun z => absurd z e), fun z => .inl (by omega)⟩
theorem GD.get {ks : List (Int × PyData)} {f : Int → Nat} (D : GD ks f) {g : Int} (h : 0 < f g) : lk ks g = some (.int (f g : Nat)) := by
  have h1 := D.val g
  cases e : lk ks g with
  | none => exact absurd ((D.mem g).mpr h) (lk_none.mp e)
  | some d => rw [e] at h1; exact congrArg some h1
theorem GD.len {ks : List (Int × PyData)} {L : List (List Int)} {a b : Nat} (D : GD ks (gapC L a b)) : ks.length ≤ L.length := by
  have := List.Nodup.length_le_of_subset D.nd (l₂ := L.map (gapI a b)) fun g hg => by
    obtain ⟨r, h1, h2⟩ := gapC_pos.mp ((D.mem g).mp hg)
    exact List.mem_map.mpr ⟨r, h1, h2⟩
  rw [List.length_map, List.length_map] at this
  exact this
/-! ### the mean gap of all pairs -/
def dN2 (i j : Nat) : Nat := (i - j) + (j - i)
def pgN (r : List Int) (n : Nat) : Nat := ((List.range n).map fun (k : Nat) => ((List.range k).map fun (j : Nat) => dN2 (r.idxOf (j : Int)) (r.idxOf (k : Int))).sum).sum
def pcN (n : Nat) : Nat := ((List.range n).map fun k => ((List.range k).map fun j => dN2 j k).sum).sum
/-- the sum of the gaps of some pairs, over all orders -/
def wN (L : List (List Int)) (ps : List Edge) : Nat := (ps.map fun e => (L.map fun r => dN2 (r.idxOf e.1) (r.idxOf e.2)).sum).sum
end DL
/-! itertools.accumulate over a tuple of ints, at the library's level. -/
namespace AC
open PySem PySem.Spec PyProof.Rows
open Sem (wp)
theorem mro_acc : mroOf (.type "itertools.accumulate") = pure [.type "itertools.accumulate", .type "object"] := by rw [mroOf_type]; kernel_rfl
theorem lookup_acc_new : typeLookup (.type "itertools.accumulate") "__new__" = pure (some (.builtin "itertools.accumulate.__new__")) := by rw [typeLookup_type, builtinLookup_eq_fast]; kernel_rfl
theorem sub_acc : isSubtype (.type "itertools.accumulate") (.type "itertools.accumulate") = pure true := by rw [isSubtype_type]; kernel_rfl
theorem slot_acc_init : Slot "itertools.accumulate" "__init__" "object.__init__" :=
  .of (owner := "object") (n := "__init__") (by rw [typeLookup_type, builtinLookup_eq_fast]; kernel_rfl) (by decide +kernel) (by decide +kernel) (by decide +kernel)
    (by first | exact .inl (by decide +kernel) | exact .inr (by decide +kernel)) (by rw [isSubtype_type]; kernel_rfl)
theorem called_acc : TypeCalled "itertools.accumulate" "itertools.accumulate.__new__" "object.__init__" :=
  ⟨by decide +kernel, by decide +kernel, ⟨_, _, mro_acc⟩, madeBy_type mro_acc lookup_acc_new (by decide +kernel), by decide +kernel, sub_acc, slot_acc_init⟩
theorem typeCall_acc_1 (a : Value) : checkTypeCall "itertools.accumulate" ⟨[a], []⟩ = pure () := by kernel_rfl
theorem newCall_acc_1 (a : Value) : checkBuiltinCall "itertools.accumulate.__new__" ⟨[.type "itertools.accumulate", a], []⟩ = pure () := by kernel_rfl
theorem entry_acc_new : entryFor table "itertools.accumulate.__new__" = some Builtin.«itertools.accumulate.__new__» := entryFor_of_tree (by kernel_rfl)
theorem plain_acc_new : plainId "itertools.accumulate.__new__" = true := by decide +kernel
theorem slot_acc_iter : Slot "itertools.accumulate" "__iter__" "itertools.accumulate.__iter__" :=
  .of (owner := "itertools.accumulate") (n := "__iter__") (by rw [typeLookup_type, builtinLookup_eq_fast]; kernel_rfl) (by decide +kernel) (by decide +kernel) (by decide +kernel)
    (by first | exact .inl (by decide +kernel) | exact .inr (by decide +kernel)) sub_acc
theorem slot_acc_next : Slot "itertools.accumulate" "__next__" "itertools.accumulate.__next__" :=
  .of (owner := "itertools.accumulate") (n := "__next__") (by rw [typeLookup_type, builtinLookup_eq_fast]; kernel_rfl) (by decide +kernel) (by decide +kernel) (by decide +kernel)
    (by first | exact .inl (by decide +kernel) | exact .inr (by decide +kernel)) sub_acc
theorem entry_acc_iter : entryFor table "itertools.accumulate.__iter__" = some Builtin.«dict_keyiterator.__iter__» :=
  entryFor_alias (id' := "dict_keyiterator.__iter__") (by kernel_rfl) (by first | rfl | decide +kernel | (unfold String.splitOn; simp +decide [String.splitOnAux])) (by decide +kernel) (by kernel_rfl)
theorem entry_acc_next : entryFor table "itertools.accumulate.__next__" = some Builtin.«itertools.accumulate.__next__» := entryFor_of_tree (by kernel_rfl)
theorem owner_acc : Manifest.owners.lookup (String.ofList ['e', 't', 'a', 'l', 'u', 'm', 'u', 'c', 'c', 'a', '.', 's', 'l', 'o', 'o', 't', 'r', 'e', 't', 'i'].reverse) = some Manifest.sig_itertools_accumulate := by kernel_rfl
theorem args_acc_iter (a : Value) : argsOk "itertools.accumulate.__iter__" ⟨[a], []⟩ := by
  unfold argsOk; rw [signature?_of (id := "itertools.accumulate.__iter__") (n := ['_', '_', 'r', 'e', 't', 'i', '_', '_']) (o := ['e', 't', 'a', 'l', 'u', 'm', 'u', 'c', 'c', 'a', '.', 's', 'l', 'o', 'o', 't', 'r', 'e', 't', 'i']) (by kernel_rfl) owner_acc]; kernel_rfl
theorem args_acc_next (a : Value) : argsOk "itertools.accumulate.__next__" ⟨[a], []⟩ := by
  unfold argsOk; rw [signature?_of (id := "itertools.accumulate.__next__") (n := ['_', '_', 't', 'x', 'e', 'n', '_', '_']) (o := ['e', 't', 'a', 'l', 'u', 'm', 'u', 'c', 'c', 'a', '.', 's', 'l', 'o', 'o', 't', 'r', 'e', 't', 'i']) (by kernel_rfl) owner_acc]; kernel_rfl
theorem noDict_acc : typeHasDict (.type "itertools.accumulate") = false := by decide +kernel
theorem nolen_acc : typeLookup (.type "itertools.accumulate") "__len__" = pure none := by rw [typeLookup_type, builtinLookup_eq_fast]; kernel_rfl
theorem nohint_acc : typeLookup (.type "itertools.accumulate") "__length_hint__" = pure none := by rw [typeLookup_type, builtinLookup_eq_fast]; kernel_rfl
/-- an accumulate object: its iterator, the sum so far -/
abbrev IsAcc (h : Heap) (it li : Addr) (v : Value) : Prop := h.get? it = some { cls := .type "itertools.accumulate", dict := none, data := .fields #[.ref li, .none, v, .none], slots := #[] }
section
variable {prog : Program} {w : World} {A : Around} {E : Value → Shared → Prop} {s : Shared}
set_option maxHeartbeats 3200000 in
theorem code_acc {t : Addr} {items : List Value} {Q₁ : Value → Shared → Prop} (ht : s.heap.IsTuple t items.toArray)
    (h : Q₁ (.ref (s.heap.push { cls := .type "tuple_iterator", data := .fields #[.ref t, .int 0 0] }).objs.size) { s with heap := (s.heap.push { cls := .type "tuple_iterator", data := .fields #[.ref t, .int 0 0] }).push { cls := .type "itertools.accumulate", data := .fields #[.ref s.heap.objs.size, .none, rawInt 0, .none] } }) :
    codeAny (model prog w) A (.call (.builtin "itertools.accumulate.__new__") ⟨[.type "itertools.accumulate", .ref t], []⟩) (wants Q₁ E) s := by
  refine codeAny_of_tree ?_
  show wpAny _ A.in1 (do checkBuiltinCall "itertools.accumulate.__new__" ⟨[.type "itertools.accumulate", .ref t], []⟩; again (.builtin "itertools.accumulate.__new__" ⟨[.type "itertools.accumulate", .ref t], []⟩)) _ _ s
  refine wpAny_bind (wpAny_of_eq (newCall_acc_1 _) (wpAny_pure ⟨plainId_quiet plain_acc_new _, codeAny_builtin entry_acc_new ?_⟩))
  rw [Around.under_plainId plain_acc_new _]
  have hsub := sub_acc
  have hd := noDict_acc
  have hsn : ("itertools." ++ "accumulate" : String) = "itertools.accumulate" := by decide +kernel
  unfold Builtin.«itertools.accumulate.__new__»
  repeat (first
      | (refine wpAny_pyIter_tuple ht ?_)
      | wp_step
      | (rw [hsn])
      | simp only [List.head?_cons, Option.some_or, List.getElem?_cons_succ, List.getElem?_cons_zero, List.length_cons, List.length_nil, List.forIn_nil])
  exact h
end
end AC
/-! the next sum of itertools.accumulate -/
namespace AC
open PySem PySem.Spec PyProof.Rows
open Sem (wp)
section
variable {prog : Program} {w : World} {A : Around} {E : Value → Shared → Prop} {s : Shared}
theorem iter_acc {it li : Addr} {v : Value} {Q : Value → Shared → Prop} (hit : IsAcc s.heap it li v) (h : Q (.ref it) s) : wpAny (model prog w) A (pyIter (.ref it)) Q E s := by
  have hT : s.TypeIs (.ref it) "itertools.accumulate" := ⟨_, hit, rfl⟩
  refine wpAny_pyIter_slot hT slot_acc_iter (wpAny_call_entry slot_acc_iter hT entry_acc_iter ?_ (args_acc_iter _))
  show wpAny _ _ (ret (.ref it)) _ _ s
  exact wpAny_pure ⟨_, rfl, "itertools.accumulate", _, hT, slot_acc_next.lookup, h⟩
/-- the tuple's iterator, asked by itself -/
theorem raw_item {it t : Addr} {i : Nat} {items} {x : Value} {Q : Option Value → Shared → Prop} (hit : s.heap.IsTupleIter it t i) (ht : s.heap.IsTuple t items) (hx : items[i]? = some x)
    (hQ : ∀ h', h'.IsTupleIter it t (i + 1) → Heap.SameBut it s.heap h' → Q (some x) { s with heap := h' }) : wpAny (model prog w) A (callSpecial? (.ref it) "__next__") Q E s := by
  obtain ⟨o, ho, hc, hd⟩ := id hit
  obtain ⟨ol, hol, _, nl, hdl⟩ := ht
  refine wpAny_callSpecial?_slot (name := Str.ofString "__next__") hit.typeIs F.slot_tuple_iterator_next
    (wpAny_call_entry F.slot_tuple_iterator_next hit.typeIs F.entry_tuple_iterator_next ?_ (F.args_tuple_iterator_next_1 _))
  show wpAny _ _ (field (.ref it) 0 >>= _) _ _ s
  refine wpAny_bind (wpAny_field ho hd (x := .ref t) rfl ?_)
  show wpAny _ _ (if (Value.ref t == Value.none) = true then _ else _) _ _ s
  rw [if_neg (show ¬ ((Value.ref t == Value.none) = true) from Bool.false_ne_true)]
  show wpAny _ _ (field (.ref it) 1 >>= _) _ _ s
  refine wpAny_bind (wpAny_field ho hd (x := .int i 0) rfl ?_)
  show wpAny _ _ (seqItems? (.ref t) >>= _) _ _ s
  refine wpAny_bind (wpAny_seqItems hol hdl ?_)
  simp only [Int.toNat_natCast, hx]
  refine wpAny_bind (wpAny_setField ho hd (by simp) (wpAny_pure ⟨x, rfl, hQ _ ?_ (Heap.SameBut.update ..)⟩))
  exact ⟨_, Heap.get?_update_self _ ho (Obj.isFreed_of_fields (Obj.data_mapFields hd _)), (Obj.cls_mapFields ..).trans hc, by
    rw [Obj.data_mapFields hd]; simp [rawInt]⟩
theorem raw_end {it t : Addr} {i : Nat} {items} {Q : Option Value → Shared → Prop} (hh : A.handled = none) (hit : s.heap.IsTupleIter it t i) (ht : s.heap.IsTuple t items) (hx : items[i]? = none)
    (hQ : ∀ e h', CpRep.StopE e h' → Heap.ExtBut it s.heap h' → E e { s with heap := h' }) : wpAny (model prog w) A (callSpecial? (.ref it) "__next__") Q E s := by
  obtain ⟨o, ho, hc, hd⟩ := id hit
  obtain ⟨ol, hol, _, nl, hdl⟩ := ht
  refine wpAny_callSpecial?_slot (name := Str.ofString "__next__") hit.typeIs F.slot_tuple_iterator_next
    (wpAny_call_entry F.slot_tuple_iterator_next hit.typeIs F.entry_tuple_iterator_next ?_ (F.args_tuple_iterator_next_1 _))
  show wpAny _ _ (field (.ref it) 0 >>= _) _ _ s
  refine wpAny_bind (wpAny_field ho hd (x := .ref t) rfl ?_)
  show wpAny _ _ (if (Value.ref t == Value.none) = true then _ else _) _ _ s
  rw [if_neg (show ¬ ((Value.ref t == Value.none) = true) from Bool.false_ne_true)]
  show wpAny _ _ (field (.ref it) 1 >>= _) _ _ s
  refine wpAny_bind (wpAny_field ho hd (x := .int i 0) rfl ?_)
  show wpAny _ _ (seqItems? (.ref t) >>= _) _ _ s
  refine wpAny_bind (wpAny_seqItems hol hdl ?_)
  simp only [Int.toNat_natCast, hx]
  refine wpAny_bind (wpAny_rule (wpAny_bind (wpAny_setField ho hd (by simp) ?_)))
  show wpAny _ _ (newExc (.type "StopIteration") [] >>= _) _ _ _
  refine wpAny_bind ?_
  simp only [newExc, newTuple]
  refine wpAny_bind (wpAny_newObj_type ?_ (by size_fits))
  refine wpAny_bind (m := firstArgMember _ _) (wpAny_of_eq (a := Value.none) (by first | rfl | (simp only [firstArgMember]; rfl)) ?_)
  refine wpAny_newObj_type ?_ (by size_fits)
  simp only [raiseNew]
  refine wpAny_bind (wpAny_handled ?_)
  first | rw [show A.in1.handled = none from hh] | rw [hh]
  refine wpAny_bind (wpAny_pure (wpAny_throw ?_))
  refine hQ _ _ ⟨_, _, _, rfl, Heap.get?_push_size _ rfl, rfl, rfl, rfl⟩ ?_
  refine ((?_ : Heap.ExtBut it s.heap _).push _).push _
  exact fun b ob hb e => (Heap.get?_update_other _ _ (Ne.symm hb)).trans e
/-- the next sum -/
theorem next_acc {it li t : Addr} {i : Nat} {items : Array Value} {a x : Int} {ta tx : Tok} {Q : Option Value → Shared → Prop} (hit : IsAcc s.heap it li (.int a ta)) (hli : s.heap.IsTupleIter li t i) (ht : s.heap.IsTuple t items) (hx : items[i]? = some (.int x tx)) (hne : it ≠ li) (h0 : (Value.int a ta == rawInt 0) = true → a = 0)
    (hQ : ∀ h' tk tr, IsAcc h' it li (.int (a + x) tr) → h'.IsTupleIter li t (i + 1) → (∀ b o, b ≠ it → b ≠ li → s.heap.get? b = some o → h'.get? b = some o) → Q (some (.int (a + x) tr)) { s with heap := h', toks := tk }) :
    wpAny (model prog w) A (pyNext (.ref it)) Q E s := by
  have hT : s.TypeIs (.ref it) "itertools.accumulate" := ⟨_, hit, rfl⟩
  unfold pyNext
  refine wpAny_bind (wpAny_attempt (wpAny_callSpecial?_slot (name := Str.ofString "__next__") hT slot_acc_next
    (wpAny_call_entry slot_acc_next hT entry_acc_next ?_ (args_acc_next _))))
  unfold Builtin.«itertools.accumulate.__next__»
  refine wpAny_bind (wpAny_of_eq (a := (Value.ref it, [])) rfl ?_)
  try dsimp only
  refine wpAny_bind (wpAny_field hit rfl (x := .none) rfl ?_)
  try dsimp only
  rw [if_neg (show ¬ ((Value.none != Value.none) = true) by decide)]
  refine wpAny_bind (wpAny_field hit rfl (x := .ref li) rfl ?_)
  try dsimp only
  unfold Builtin.Itertools.itRawNext
  refine wpAny_bind (wpAny_bind (raw_item hli ht hx fun h1 hli1 hs1 => ?_))
  have hit1 : IsAcc h1 it li (.int a ta) := hs1.extBut it _ hne hit
  refine wpAny_pure ?_
  refine wpAny_bind (wpAny_field (s := { s with heap := h1 }) hit1 rfl (x := .int a ta) rfl ?_)
  try dsimp only
  by_cases hz : (Value.int a ta == Builtin.Itertools.itNothing) = true
  · rw [if_pos hz]
    have ha := h0 hz
    subst ha
    refine wpAny_bind (wpAny_rule (wpAny_bind (wpAny_setField (s := { s with heap := h1 }) hit1 rfl (by simp) ?_)))
    have hit2 : IsAcc (h1.update it (Obj.mapFields fun y => y.setIfInBounds 2 (.int x tx))) it li (.int x tx) := Heap.get?_update_self _ hit1 rfl
    have hQ2 := hQ (h1.update it (Obj.mapFields fun y => y.setIfInBounds 2 (.int x tx))) s.toks tx (by rw [Int.zero_add]; exact hit2) (by
      obtain ⟨o, g1, g2, g3⟩ := hli1
      exact ⟨o, (Heap.get?_update_other _ _ hne).trans g1, g2, g3⟩) fun b o hb hb2 e => (Heap.get?_update_other _ _ (Ne.symm hb)).trans (hs1.extBut b o hb2 e)
    rw [Int.zero_add] at hQ2
    exact wpAny_pure ⟨_, rfl, wpAny_pure hQ2⟩
  · rw [if_neg hz]
    refine wpAny_bind (wpAny_field (s := { s with heap := h1 }) hit1 rfl (x := .none) rfl ?_)
    try dsimp only
    refine wpAny_bind (wpAny_holding ?_)
    rw [if_pos (show (Value.none == Value.none) = true by decide)]
    refine add_int ?_
    try dsimp only
    refine wpAny_bind (wpAny_setField (s := { s with heap := h1, toks := s.toks + 1 }) hit1 rfl (by simp) ?_)
    have hit2 : IsAcc (h1.update it (Obj.mapFields fun y => y.setIfInBounds 2 (.int (a + x) s.toks))) it li (.int (a + x) s.toks) := Heap.get?_update_self _ hit1 rfl
    refine wpAny_bind (wpAny_letGo ?_)
    exact wpAny_pure ⟨_, rfl, wpAny_pure (hQ _ (s.toks + 1) s.toks hit2 (by
      obtain ⟨o, g1, g2, g3⟩ := hli1
      exact ⟨o, (Heap.get?_update_other _ _ hne).trans g1, g2, g3⟩) fun b o hb hb2 e => (Heap.get?_update_other _ _ (Ne.symm hb)).trans (hs1.extBut b o hb2 e))⟩
theorem end_acc {it li t : Addr} {items : Array Value} {v : Value} {Q : Option Value → Shared → Prop} (hh : A.handled = none) (hit : IsAcc s.heap it li v) (hli : s.heap.IsTupleIter li t items.size) (ht : s.heap.IsTuple t items)
    (hQ : ∀ h', Heap.ExtBut li s.heap h' → Q none { s with heap := h' }) : wpAny (model prog w) A (pyNext (.ref it)) Q E s := by
  have hT : s.TypeIs (.ref it) "itertools.accumulate" := ⟨_, hit, rfl⟩
  unfold pyNext
  refine wpAny_bind (wpAny_attempt (wpAny_callSpecial?_slot (name := Str.ofString "__next__") hT slot_acc_next
    (wpAny_call_entry slot_acc_next hT entry_acc_next ?_ (args_acc_next _))))
  unfold Builtin.«itertools.accumulate.__next__»
  refine wpAny_bind (wpAny_of_eq (a := (Value.ref it, [])) rfl ?_)
  try dsimp only
  refine wpAny_bind (wpAny_field hit rfl (x := .none) rfl ?_)
  try dsimp only
  rw [if_neg (show ¬ ((Value.none != Value.none) = true) by decide)]
  refine wpAny_bind (wpAny_field hit rfl (x := .ref li) rfl ?_)
  try dsimp only
  unfold Builtin.Itertools.itRawNext
  refine wpAny_bind (wpAny_bind (raw_end (by first | exact hh | rfl) hli ht (by simp) fun e h' hs hx => ?_))
  obtain ⟨a, o, vs, rfl, ho, hc, hd, hv⟩ := hs
  refine wpAny_bind (wpAny_isInstance (T := "StopIteration") (b := true) ⟨_, ho, hc⟩ isSubtype_stop ?_)
  exact wpAny_pure (hQ _ hx)
end
end AC
/-! a walk over itertools.accumulate -/
namespace AC
open PySem PySem.Spec PyProof.Rows
section
variable {prog : Program} {w : World} {A : Around} {E : Value → Shared → Prop} {s : Shared}
def sumT (ns : List Int) (i : Nat) : Int := (ns.take i).sum
theorem sumT_succ {ns : List Int} {i : Nat} {x : Int} (h : ns[i]? = some x) : sumT ns (i + 1) = sumT ns i + x := by
  unfold sumT
  rw [List.take_succ, h, List.sum_append_int]
  simp
theorem int_raw {a : Int} {t : Tok} (h : (Value.int a t == rawInt 0) = true) : a = 0 := by
  have h2 := eq_of_beq h
  injection h2
theorem walks_acc (hh : A.handled = none) (it li t : Addr) (h1 : it ≠ li) (h2 : it ≠ t) (h3 : t ≠ li) (ns : List Int) (items : Array Value) (hl : items.size = ns.length) (hi : ∀ (i : Nat) (x : Int), ns[i]? = some x → ∃ tk, items[i]? = some (.int x tk)) :
    Walks prog w A it [it, li, t] [it, li] items.size (fun i v => ∃ tk, v = .int (sumT ns (i + 1)) tk) (fun i h => (∃ tk, IsAcc h it li (.int (sumT ns i) tk)) ∧ h.IsTupleIter li t i ∧ h.IsTuple t items) where
  sub := fun b hb => by
    rcases List.mem_cons.mp hb with h | h
    · exact h ▸ .head _
    · rw [List.mem_singleton.mp h]; exact .tail _ (.head _)
  frame := fun i h h' st hk => by
    obtain ⟨⟨tk, a⟩, ⟨o, b1, b2, b3⟩, ⟨o', c1, c2⟩⟩ := st
    exact ⟨⟨tk, hk it (.head _) _ a⟩, ⟨o, hk li (.tail _ (.head _)) _ b1, b2, b3⟩, ⟨o', hk t (.tail _ (.tail _ (.head _))) _ c1, c2⟩⟩
  item := fun i s Q E hn st hQ => by
    obtain ⟨⟨tk, a⟩, b, c⟩ := st
    have hil : i < ns.length := by omega
    obtain ⟨tx, hx⟩ := hi i ns[i] (List.getElem?_eq_getElem hil)
    refine next_acc a b c hx h1 int_raw fun h' tk' tr g1 g2 g3 => ?_
    have e := sumT_succ (List.getElem?_eq_getElem hil)
    rw [← e] at g1 ⊢
    obtain ⟨o', c1, c2⟩ := c
    exact hQ _ h' tk' ⟨tr, rfl⟩ ⟨⟨tr, g1⟩, g2, ⟨o', g3 t _ (fun z => h2 z.symm) h3 c1, c2⟩⟩ fun b o hb e => g3 b o (fun z => hb (z ▸ .head _)) (fun z => hb (z ▸ .tail _ (.head _))) e
  done := fun s Q E st hQ => by
    obtain ⟨⟨tk, a⟩, b, c⟩ := st
    exact end_acc hh a b c fun h' hx => hQ h' s.toks fun b o hb e => hx b o (fun z => hb (z ▸ .tail _ (.head _))) e
  self := fun i s Q E st h => by
    obtain ⟨⟨tk, a⟩, b, c⟩ := st
    exact iter_acc a h
end
end AC
/-! list(itertools.accumulate(t)) -/
namespace AC
open PySem PySem.Spec PyProof.Rows
section
variable {prog : Program} {w : World} {A : Around} {E : Value → Shared → Prop} {s : Shared}
variable {I : Addr} {fp wr : List Addr} {G : Array GenState → Array GenState → Prop} {n : Nat} {P : Nat → Value → Prop} {St : Nat → Shared → Prop}
theorem list_acc {Q : Value → Shared → Prop} (W : WalksS prog w A.in1.in1 I fp wr G n P St) (hT : ∀ i s, St i s → s.TypeIs (.ref I) "itertools.accumulate") (hst : St 0 s) (hfp : ∀ b ∈ fp, b < s.heap.objs.size) (hI : I ∈ fp) (hn : n ≤ sizeLine)
    (hQ : ∀ s' acc' c', Moved (s.heap.objs.size :: wr) G { s with heap := s.heap.push { cls := .type "list", data := .seq #[] } } s' →
      s'.heap.get? s.heap.objs.size = some { cls := .type "list", dict := none, data := .seq acc' c', slots := #[] } → ItemsOf P acc' n → Q (.ref s.heap.objs.size) s') :
    wpAny (model prog w) A (call (.type "list") [.ref I]) Q E s := by
  have hSf : s.heap.objs.size ∉ fp := fun hm => Nat.lt_irrefl _ (hfp _ hm)
  have hSI : s.heap.objs.size ≠ I := fun e => hSf (e ▸ hI)
  refine callType_codes (Q₁ := fun obj s₁ => obj = .ref s.heap.objs.size ∧ s₁ = { s with heap := s.heap.push { cls := .type "list", data := .seq #[] } }) F.called_list (F.typeCall_list_1 _) F.entry_list_init
    (code_list_new _ ⟨rfl, rfl⟩) fun obj s₁ h₁ => ?_
  obtain ⟨rfl, rfl⟩ := h₁
  generalize hSe : s.heap.objs.size = S at *
  have hS : (s.heap.push { cls := .type "list", data := .seq #[] }).get? S = some { cls := .type "list", data := .seq #[] } := by rw [← hSe]; exact Heap.get?_push_size _ rfl
  have hst1 : St 0 { s with heap := s.heap.push { cls := .type "list", data := .seq #[] } } := W.frame 0 s _ s.toks hst (Nat.le_refl _) fun b _ o e => Heap.get?_push_of_some _ e
  refine ⟨⟨_, hS, rfl⟩, F.args_list_init_2 _ _, ?_⟩
  generalize hs1 : ({ s with heap := s.heap.push { cls := .type "list", data := .seq #[] } } : Shared) = s1 at *
  have hS : s1.heap.get? S = some { cls := .type "list", data := .seq #[] } := by rw [← hs1]; exact hS
  unfold Builtin.«list.__init__»
  have mv : ∀ (h2 : Heap), (∀ b o, b ≠ S → s1.heap.get? b = some o → h2.get? b = some o) → Moved (S :: wr) G s1 { s1 with heap := h2 } := fun h2 oth =>
    (Moved.refl W.grefl).then_heap (Nat.le_refl _) fun b o hb e => oth b o (fun h => hb (h ▸ List.mem_cons_self)) e
  refine wpAny_bind ?_
  unfold Builtin.List.listItems
  refine wpAny_bind (wpAny_seqItems hS rfl (wpAny_pure ?_))
  refine wpAny_bind ?_
  show wpAny _ _ (updateSeq S (fun _ => #[])) _ _ _
  refine wpAny_updateSeq hS rfl ?_
  have hS2 := Heap.get?_update_self (Obj.mapSeq (fun _ => (#[] : Array Value))) hS rfl
  refine wpAny_bind (wpAny_letGo ?_)
  have oth2 : ∀ b o, b ≠ S → s1.heap.get? b = some o → (s1.heap.update S (Obj.mapSeq (fun _ => (#[] : Array Value)))).get? b = some o :=
    fun b o hb e => (Heap.get?_update_other _ _ (Ne.symm hb)).trans e
  have hst2 : St 0 { s1 with heap := s1.heap.update S (Obj.mapSeq (fun _ => (#[] : Array Value))) } := W.frame 0 s1 _ s1.toks hst1 (Nat.le_refl _) fun b hb o e => oth2 b o (fun h => hSf (h ▸ hb)) e
  generalize hh2 : s1.heap.update S (Obj.mapSeq (fun _ => (#[] : Array Value))) = h2 at *
  try dsimp only
  unfold Builtin.List.listExtendWith
  refine wpAny_bind (wpAny_typeOf (hT 0 _ hst2) ?_)
  have q1 : Builtin.List.listSameRef (.ref S) (.ref I) = false := by simp [Builtin.List.listSameRef, hSI]
  have q2 : (Value.type "itertools.accumulate" == Value.type "list") = false := by decide +kernel
  have q3 : (Value.type "itertools.accumulate" == Value.type "tuple") = false := by decide +kernel
  simp only [q1, q2, q3, Bool.or_false, Bool.false_eq_true, if_false]
  refine wpAny_bind (W.self 0 _ _ _ hst2 ?_)
  refine wpAny_bind (wpAny_holding ?_)
  unfold Builtin.List.listLengthHint
  refine wpAny_bind (wpAny_specialOf (hT 0 _ hst2) nolen_acc ?_)
  show wpAny _ _ (specialOf (Value.ref I) (Str.ofString "__length_hint__") >>= _) _ _ _
  refine wpAny_bind (wpAny_specialOf (hT 0 _ hst2) nohint_acc ?_)
  refine wpAny_pure ?_
  show wpAny _ _ (rule "list.extend.makes-room" >>= fun _ => Builtin.List.listTouch (.ref S) >>= fun _ => again (.builtin "list.extend.loop" ⟨[.ref S, .ref I, .none], []⟩)) _ _ _
  refine wpAny_bind (wpAny_rule ?_)
  refine wpAny_bind ?_
  show wpAny _ _ (updateSeq S (·.push .none) >>= fun _ => updateSeq S (·.pop)) _ _ _
  refine wpAny_bind (wpAny_updateSeq hS2 rfl ?_)
  have hS3 := Heap.get?_update_self (Obj.mapSeq (·.push Value.none)) hS2 rfl
  refine wpAny_updateSeq (hz := by seq_fits) hS3 rfl ?_
  have hS4 := Heap.get?_update_self (Obj.mapSeq (·.pop)) hS3 rfl
  have oth4 : ∀ b o, b ≠ S → h2.get? b = some o → ((h2.update S (Obj.mapSeq (·.push Value.none))).update S (Obj.mapSeq (·.pop))).get? b = some o :=
    fun b o hb e => (Heap.get?_update_other _ _ (Ne.symm hb)).trans ((Heap.get?_update_other _ _ (Ne.symm hb)).trans e)
  refine wpAny_pure ⟨plainId_quiet F.plain_extend_loop _, codeAny_extend_loopS W hn _ hSf _ n 0 _ _ _ rfl (Nat.zero_le _)
    (W.frame 0 { s1 with heap := h2 } _ s1.toks hst2 (Nat.le_refl _) fun b hb o e => oth4 b o (fun h => hSf (h ▸ hb)) e) hS4 (ItemsOf.nil P) fun s' acc' c' hm hS' hacc => ?_⟩
  exact ⟨rfl, hQ s' acc' c' (Moved.trans W.gtrans (mv _ fun b o hb e => oth4 b o hb (oth2 b o hb e)) hm) hS' hacc⟩
end
end AC
/-! DL: list(itertools.accumulate(t)), t a tuple of ints. -/
namespace AC
open PySem PySem.Spec PyProof.Rows
section
variable {prog : Program} {w : World} {A : Around} {E : Value → Shared → Prop} {s : Shared}
/-- accumulate(t), and the object is new -/
theorem call_accN {t : Addr} {items : List Value} {Q : Value → Shared → Prop} (ht : s.heap.IsTuple t items.toArray)
    (h : ∀ it h', IsAcc h' it s.heap.objs.size (rawInt 0) → h'.IsTupleIter s.heap.objs.size t 0 → h'.IsTuple t items.toArray → s.heap.objs.size < it → it ≠ t → t ≠ s.heap.objs.size → it < h'.objs.size → (∀ b o, s.heap.get? b = some o → h'.get? b = some o) → Q (.ref it) { s with heap := h' }) :
    wpAny (model prog w) A (call (.type "itertools.accumulate") [.ref t]) Q E s := by
  refine callType_codes (Q₁ := fun obj s₁ => s₁.TypeIs obj "itertools.accumulate" ∧ Q obj s₁) called_acc (typeCall_acc_1 _) F.entry_object_init
    (code_acc (A := A.in1) ht ?_) fun obj s₁ h₁ => ?_
  · obtain ⟨ol, hol, r⟩ := id ht
    have hlt : t < s.heap.objs.size := Heap.lt_size hol
    have hsz : (s.heap.push { cls := .type "tuple_iterator", data := .fields #[.ref t, .int 0 0] }).objs.size = s.heap.objs.size + 1 := Heap.size_push ..
    refine ⟨⟨_, Heap.get?_push_size _ rfl, rfl⟩, h _ _ (Heap.get?_push_size _ rfl) ⟨_, Heap.get?_push_of_some _ (Heap.get?_push_size _ rfl), rfl, rfl⟩ ⟨ol, Heap.get?_push_of_some _ (Heap.get?_push_of_some _ hol), r⟩ ?_ ?_ ?_ ?_ fun b o q => Heap.get?_push_of_some _ (Heap.get?_push_of_some _ q)⟩
    · rw [hsz]; exact Nat.lt_succ_self _
    · rw [hsz]; exact Nat.ne_of_gt (Nat.lt_succ_of_lt hlt)
    · exact Nat.ne_of_lt hlt
    · simp only [Heap.size_push]; exact Nat.lt_succ_self _
  · exact ⟨h₁.1, F.args_object_init_2 obj _, object_init_meets called_acc.init.lookup called_acc.made (by decide) prog w A.in1 _ s₁ ⟨h₁.1, rfl, h₁.2⟩⟩
end
end AC
namespace DL
open PySem PySem.Spec PyProof.Rows L2
/-- the sums of what begins a list -/
def accV (ns : List Int) : List Int := (List.range ns.length).map fun i => AC.sumT ns (i + 1)
section
variable {X : Cx} {a : Expr} {pos : Pos} {ta : TDE}
theorem df_listAcc {p p2 pos2 : Pos} (hc : X.calm = true) (hg : Gl X "list") (hm : X.mg "list" = none) (hg2 : Gl X "accumulate") (hm2 : X.mg "accumulate" = some (.type "itertools.accumulate")) (ha : DE X a ta) (na : starEach [a] X.env = (false, eval a X.env) :: starEach [] X.env := by rfl)
    (na2 : starEach [(.Call (.Name "accumulate" p2) [a] [] pos2)] X.env = (false, eval (.Call (.Name "accumulate" p2) [a] [] pos2) X.env) :: starEach [] X.env := by rfl) :
    DF X (.Call (.Name "list" p) [.Call (.Name "accumulate" p2) [a] [] pos2] [] pos) (fun ρ q => ta ρ fun d ρ1 => match d with
      | .tuple ds => ∃ ns : List Int, ds = ns.map PyData.int ∧ q ((accV ns).map PyData.int) ρ1
      | _ => False) := by
  obtain ⟨te, hp, hq⟩ := ha.ex
  refine ⟨fun σ H Q => te σ H fun x H1 => ∃ (l : Addr) (ns : List Int), x = V.ref l ∧ SqT X.K H1 l (ns.map V.int) ∧ ∀ r, H1 r = none → Q (.ref r) (upd H1 r (.lst ((accV ns).map V.int))), ⟨fun pins s σ H Q I h => ?_⟩, fun C σ H ρ q Q E h k => hq C σ H ρ _ _ E h fun v H1 d ρ1 E1 s1 D1 h1 => ?_⟩
  · refine Call_ (ld_blt I hg hm boot_list ?_)
    refine PyProof.Rows.callWith_type1 (PyProof.Rows.args_cons ?_ na2) na2 rfl
    refine Call_ (ld_glob I hg2 hm2 ?_ (by decide))
    refine PyProof.Rows.callWith_type1 (PyProof.Rows.args_cons (thn (hp.run pins s σ H _ I h) fun v s1 ⟨x, H1, I1, r1, q1⟩ => PyProof.Rows.args_nil ?_) na) na rfl
    obtain ⟨l, ns, rfl, hq', q1⟩ := q1
    cases r1
    obtain ⟨its, rv, pt, hz⟩ := I1.tuple hq'
    have hlen : its.length = ns.length := by rw [← rv.length, List.length_map]
    refine AC.call_accN (t := l) (items := its) pt fun it h' g1 g2 g3 n1 n2 n3 lt keep => ?_
    refine PyProof.Rows.args_nil ?_
    have hi : ∀ (i : Nat) (x : Int), ns[i]? = some x → ∃ tk, its.toArray[i]? = some (.int x tk) := fun i x hx => by
      obtain ⟨u, hu, tk, rfl⟩ := rv.get (i := i) (x := V.int x) (by rw [List.getElem?_map, hx]; rfl)
      exact ⟨tk, by rw [List.getElem?_toArray]; exact hu⟩
    have W := (AC.walks_acc (prog := X.prog) (w := X.w) (A := X.A.in1.in1) (I1.ok.hd hc) it s1.heap.objs.size l (Nat.ne_of_gt n1) n2 n3 ns its.toArray (by rw [List.size_toArray]; exact hlen) hi).toS
    obtain ⟨oli, hli, _⟩ := id g2
    obtain ⟨ot, hot, _⟩ := id g3
    refine AC.list_acc W (fun i s2 st => ⟨_, st.1.choose_spec, rfl⟩) ⟨⟨0, g1⟩, g2, g3⟩ (fun b hb => ?_) (.head _) (by rw [List.size_toArray]; rw [← rv.length]; exact hz) fun s' acc' c' mv hS hacc => ?_
    · rcases List.mem_cons.mp hb with rfl | hb
      · exact lt
      · rcases List.mem_cons.mp hb with rfl | hb
        · exact Heap.lt_size hli
        · rw [List.mem_singleton.mp hb]; exact Heap.lt_size hot
    · obtain ⟨hp', gens', drawn', toks', os'⟩ := s'
      obtain ⟨m1, m2, m3, m4, m5⟩ := mv
      dsimp only at m1 m2 m3 m4 hS
      subst m2 m3 m4
      have hk : ∀ b o, s1.heap.get? b = some o → hp'.get? b = some o := fun b o e => by
        have hb := Heap.lt_size e
        refine m1 b o (fun z => ?_) (Heap.get?_push_of_some _ (keep b o e))
        rcases List.mem_cons.mp z with rfl | z
        · exact absurd (Heap.lt_size (keep _ _ e)) (Nat.lt_irrefl _)
        · rcases List.mem_cons.mp z with rfl | z
          · exact absurd hb (Nat.not_lt.mpr (Nat.le_of_lt n1))
          · rw [List.mem_singleton.mp z] at hb; exact Nat.lt_irrefl _ hb
      have hle : s1.heap.objs.size ≤ h'.objs.size := Nat.le_of_lt (Heap.lt_size hli)
      refine ⟨.ref h'.objs.size, upd H1 h'.objs.size (.lst ((accV ns).map V.int)), I1.laid (t' := toks') hk hle (show ObjOk X.prog X.w _ _ _ (.lst ((accV ns).map V.int)) from ⟨?_, acc'.toList, c', ?_, ?_⟩), rfl, q1 _ (I1.hok.fresh hle)⟩
      · unfold accV
        rw [List.length_map, List.length_map, List.length_range, ← hlen, ← rv.length]; exact hz
      · refine vals_of_at ?_ fun j x u hx hu => ?_
        · unfold accV
          have e1 : acc'.toList.length = ns.length := by
            exact Array.length_toList.trans (hacc.1.trans (List.size_toArray.trans hlen))
          rw [e1, List.length_map, List.length_map, List.length_range]
        · rw [Array.getElem?_toList] at hu
          obtain ⟨tk, rfl⟩ := hacc.2 j u hu
          unfold accV at hx
          rw [List.getElem?_map, List.getElem?_map] at hx
          cases hr : (List.range ns.length)[j]? with
          | none => rw [hr] at hx; cases hx
          | some j2 =>
            obtain ⟨_, e2⟩ := List.getElem?_eq_some_iff.mp hr
            rw [List.getElem_range] at e2
            subst e2
            rw [hr] at hx
            cases hx
            exact ⟨tk, rfl⟩
      · rw [Array.toArray_toList]; exact hS
  · cases d with
    | tuple ds =>
      obtain ⟨ns, rfl, h3⟩ := h1
      obtain ⟨a, vs, rfl, s, D⟩ := Dp.tup_of D1
      cases DpAll.ints D
      exact ⟨a, ns, rfl, SqT.le hide_Le s, fun p hp => k p _ _ _ ρ1 (E1.with_fresh hp) (s1.trans (.le (.upd hp))) (s1.free hp) upd_same (DpAll.of_ints _) h3⟩
    | _ => exact h1.elim
end
end DL
/-! DL: xs[::2], xs a list. -/
namespace DL
open PySem PySem.Spec PyProof.Rows L2
/-- every other item -/
def evn {α : Type} : List α → List α
  | [] => []
  | [x] => [x]
  | x :: _ :: r => x :: evn r
theorem DpAll.evn {K : PySem.W.Frag} {H : Hp} : ∀ {vs : List V} {ds : List PyData}, DpAll K H vs ds → DpAll K H (evn vs) (evn ds)
  | _, _, .nil => .nil
  | _, _, .cons a .nil => .cons a .nil
  | _, _, .cons a (.cons b t) => .cons a (DpAll.evn t)
section
variable {X : Cx} {a e st : Expr} {pos p2 : Pos} {te ts : TE} {ta tb : TDE}
def tSkip (K : PySem.W.Frag) (te ts : TE) : TE := fun σ H Q => te σ H fun x H1 => ts σ H1 fun y H2 => y = .int 2 ∧ ∃ a xs, x = .ref a ∧ SqL K H2 a xs ∧ ∀ p, H2 p = none → Q (.ref p) (upd H2 p (.lst (evn xs)))
def tdSkip (ta tb : TDE) : TDE := fun ρ q => ta ρ fun d ρ1 => tb ρ1 fun z ρ2 => match d, z with
  | .list ds, .int i => i = 2 ∧ q (.list (evn ds)) ρ2
  | _, _ => False
end
end DL
/-! DL: rows of coins: a path's laying by its way, sums of what begins it. -/
namespace DL
open PySem PySem.Spec PyProof.Rows L2
def pathE (m : Nat) : List Edge := (List.range m).map fun (k : Nat) => ((k : Int), (k : Int) + 1)
theorem pathE_len (m : Nat) : (pathE m).length = m := by unfold pathE; simp
/-- the path's edges with the ways that w tells -/
def pathZ (m : Nat) (w : Nat → Int) : List (Edge × Int) := (List.range m).map fun (k : Nat) => (((k : Int), (k : Int) + 1), w k)
end DL
/-! DL: falls of rows, their first takes. -/
namespace DL
open PySem PySem.Spec PyProof.Rows L2
def pS (ls : List Int) (k : Nat) : Int := (ls.take k).sum
/-- the places whose sums are even -/
def evF (ls : List Int) : List Int := ((List.range ls.length).filter fun k => decide (pS ls (k + 1) % 2 = 0)).map fun (k : Nat) => (k : Int)
/-- the heads with an even number of heads before them -/
def rfL (ls : List Int) : List Int := ((List.range ls.length).filter fun (k : Nat) => decide (gl ls (k : Int) = 1 ∧ pS ls k % 2 = 0)).map fun (k : Nat) => (k : Int)
theorem mem_evF {ls : List Int} {x : Int} : x ∈ evF ls ↔ ∃ k : Nat, x = k ∧ k < ls.length ∧ pS ls (k + 1) % 2 = 0 := by
  unfold evF
  rw [List.mem_map]
  constructor
  · rintro ⟨k, hk, rfl⟩
    obtain ⟨h1, h2⟩ := List.mem_filter.mp hk
    exact ⟨k, rfl, List.mem_range.mp h1, of_decide_eq_true h2⟩
  · rintro ⟨k, rfl, h1, h2⟩
    exact ⟨k, List.mem_filter.mpr ⟨List.mem_range.mpr h1, decide_eq_true h2⟩, rfl⟩
/-- an order of a path's laying: its falls -/
def wK (r : List Int) (k : Nat) : Int := wvE r ((k : Int), (k : Int) + 1)
/-- a row by its falls -/
def rof (fs : List Int) (p : Nat) : Int := 1 - if (decide ((p : Int) ∈ fs) != (decide (0 < p) && decide (¬ (p : Int) - 1 ∈ fs))) = true then 1 else 0
def rofL (n : Nat) (fs : List Int) : List Int := (List.range n).map (rof fs)
theorem accV_last {ls : List Int} (h : 0 < ls.length) : atI ((accV ls).map PyData.int) (-1) = some (.int ls.sum) := by
  have hl : ((accV ls).map PyData.int).length = ls.length := by unfold accV; simp
  rw [atI_end _ (fun z => by rw [z] at hl; simp at hl; omega), hl]
  unfold accV
  rw [List.getElem?_map, List.getElem?_map, List.getElem?_range (by omega)]
  show some (PyData.int (AC.sumT ls (ls.length - 1 + 1))) = _
  unfold AC.sumT
  rw [show ls.length - 1 + 1 = ls.length by omega, List.take_length]
theorem enum_rng (m : Nat) (f : Nat → Int) : enumD ((List.range m).map fun (t : Nat) => PyData.int (f t)) = (List.range m).map fun (t : Nat) => PyData.tuple [.int (t : Int), .int (f t)] := by
  have hl : (enumD ((List.range m).map fun (t : Nat) => PyData.int (f t))).length = m := by rw [enumD_len]; simp
  apply List.ext_getElem?
  intro i
  by_cases h : i < m
  · rw [enumD_get (i := i) (d := .int (f i)) (by rw [List.getElem?_map, List.getElem?_range h]; rfl), List.getElem?_map, List.getElem?_range h]; rfl
  · rw [List.getElem?_eq_none (by omega), List.getElem?_eq_none (by simp; omega)]
theorem acc_rng (ls : List Int) : (accV ls).map PyData.int = (List.range ls.length).map fun (t : Nat) => PyData.int (pS ls (t + 1)) := by
  unfold accV
  rw [List.map_map]; rfl
end DL
/-! DL: sets of many tuples of which few differ. -/
namespace DL
open PySem PySem.Spec PyProof.Rows L2
section
variable {P : Program} {w : World} {A : Around} {E : Value → Shared → Prop} {s : Shared}
end
section
variable {X : Cx}
def rSetU (K : PySem.W.Frag) (P : Program) (w : World) : List V → Hp → VK → Prop := fun xs H Q => ∃ (l : Addr) (ks : List (Addr × List Int)) (U : List (List Int)), xs = [V.ref l] ∧ SqL K H l (ks.map fun p => V.ref p.1) ∧ (∀ p ∈ ks, SqT K H p.1 (p.2.map V.int)) ∧ (∀ p ∈ ks, p.2 ∈ U) ∧ U.length < 63 ∧
  ∀ a L, H a = none → (∀ p ∈ L, p ∈ ks) → (∀ p ∈ ks, p.2 ∈ L.map (·.2)) → (L.map (·.2)).Nodup → Q (.ref a) (upd H a (SetTO P w a L))
end
section
variable {P : Program} {w : World} {A : Around} {E : Value → Shared → Prop} {s : Shared}
end
section
variable {X : Cx}
def rSortOne (K : PySem.W.Frag) (P : Program) (w : World) : List V → Hp → VK → Prop := fun vs H Q => ∃ (a : Addr) (L : List (Addr × List Int)), vs = [V.ref a] ∧ H a = some (SetTO P w a L) ∧ (∀ p ∈ L, SqT K H p.1 (p.2.map V.int)) ∧ L.length ≤ 1 ∧
  ∀ (p : Addr), H p = none → Q (.ref p) (upd H p (.lst (L.map fun q => V.ref q.1)))
end
section
variable {X : Cx} {a : Expr} {pos : Pos} {ta : TDE}
/-- sorted(set(xs)), xs a list of equal tuples of ints -/
def tdSortSetC (ta : TDE) : TDA := fun ρ q => ta ρ fun d ρ1 => ∃ (ts : List (List Int)) (t0 : List Int), d = .list (ts.map tI) ∧ (∀ t ∈ ts, t = t0) ∧ q (if ts = [] then [] else [tI t0]) ρ1
end
end DL
/-! DL: for v in d.values(), the keys ints. -/
namespace DL
open PySem PySem.Spec PyProof.Rows L2
section
variable {X : Cx} {tg e : Expr} {t : TDE}
end
end DL
namespace DL
open PySem PySem.Spec PyProof.Rows L2
section
variable {X : Cx}
end
end DL
/-! DL: name = {k: v}, a dict of one's own, the key an int. -/
namespace DL
open PySem PySem.Spec PyProof.Rows L2
section
variable {X : Cx} {kx vx : Expr} {pos : Pos} {tk tv : TDE}
/-- .. a new dict of one's own, the key an int -/
structure DFK (X : Cx) (e : Expr) (t : DEnv → (List (Key × PyData) → DEnv → Prop) → Prop) : Prop where
  ex : ∃ te, PE X e te ∧ ∀ C σ H ρ q Q, EnvD C X.K H σ ρ → t ρ q → (∀ a kvV H' kvs ρ', EnvD (C.with a) X.K H' σ ρ' → Step C ρ H ρ' H' → H a = none → H' a = some (.dK kvV) → kvV.map (·.1) = kvs.map (·.1) → DpAll X.K (hide (hs (C.with a) ρ') H') (kvV.map (·.2)) (kvs.map (·.2)) → q kvs ρ' → Q (.ref a) H') → te σ H Q
def tdDisK (tk tv : TDE) : DEnv → (List (Key × PyData) → DEnv → Prop) → Prop := fun ρ q => tk ρ fun kd ρ1 => tv ρ1 fun d ρ2 => ∃ k : Int, kd = .int k ∧ q [(.inl k, d)] ρ2
/-- name = {k: v} -/
def tdNewK (i : Nat) (tb : DEnv → (List (Key × PyData) → DEnv → Prop) → Prop) : TDS := fun q ρ => tb ρ fun kvs ρ2 => ∀ m, m ∉ owns ρ2 → q.nx (ρ2.set i (.dic m (.K kvs)))
end
end DL
/-! DL: sorted(d.items()), d a dict of one's own, keys and values ints. -/
namespace DL
open PySem PySem.Spec PyProof.Rows L2
def entK (e : Int × Int) : Key × V := (.inl e.1, V.int e.2)
def adrV : Value → Addr
  | .ref a => a
  | _ => 0
section
variable {X : Cx}
def rItemsK : V → List V → Hp → VK → Prop := fun x xs H Q => ∃ (a : Addr) (kvs : List (Key × V)), x = .ref a ∧ xs = [] ∧ H a = some (.dK kvs) ∧ ∀ p, H p = none → Q (.ref p) (upd H p (L2.DX.itemsO p a))
def rSortItK : List V → Hp → VK → Prop := fun vs H Q => ∃ (p a : Addr) (ks : List (Int × Int)), vs = [.ref p] ∧ H p = some (L2.DX.itemsO p a) ∧ H a = some (.dK (ks.map entK)) ∧
  ∀ (H' : Hp) (l : Addr) (zs : List (Addr × Int × Int)), Le H H' → (zs.map (·.2)).Perm ks → (zs.map (·.2)).Pairwise lexLe → (∀ z ∈ zs, H z.1 = none ∧ H' z.1 = some (.tup [.int z.2.1, .int z.2.2])) → H' l = none → Q (.ref l) (upd H' l (.lst (zs.map fun z => V.ref z.1)))
end
section
variable {X : Cx} {pos : Pos}
def tdSortItems (i : Nat) : TDA := fun ρ q => match ρ[i]? with
  | some (.dic _ (.K kvs)) => ∃ ks : List (Int × Int), kvs = ks.map (fun e => (.inl e.1, .int e.2)) ∧ ∀ ys : List (Int × Int), ys.Perm ks → ys.Pairwise lexLe → q (ys.map pD) ρ
  | _ => False
end
end DL
/-! DP: numbers, each with how often it stands in a list, as a dict of one's own. -/
namespace DL
open PySem PySem.Spec PyProof.Rows L2
structure Tal (ns : List Int) (ks : List (Int × Int)) : Prop where
  nd : (ks.map (·.1)).Nodup
  mem : ∀ k, k ∈ ks.map (·.1) ↔ k ∈ ns
  val : ∀ p ∈ ks, p.2 = ((ns.count p.1 : Nat) : Int)
def tK (ks : List (Int × Int)) : List (Int × PyData) := ks.map fun p => (p.1, .int p.2)
theorem Tal.nil : Tal [] [] := ⟨by simp, fun k => by simp, fun p hp => by cases hp⟩
theorem Tal.one {m : Nat} (h : 0 < m) (c : Int) : Tal (List.replicate m c) [(c, (m : Int))] := by
  refine ⟨by simp, fun k => ?_, fun p hp => ?_⟩
  · rw [List.mem_replicate]
    simp only [List.map_cons, List.map_nil, List.mem_singleton]
    exact ⟨fun e => ⟨by omega, e⟩, fun e => e.2⟩
  · rw [List.mem_singleton.mp hp]
    show (m : Int) = _
    rw [List.count_replicate_self]
theorem tK_lk (ks : List (Int × Int)) (k : Int) : lk (tK ks) k = (ks.find? fun p => decide (p.1 = k)).map fun p => PyData.int p.2 := by
  induction ks with
  | nil => rfl
  | cons p ks ih =>
    show lk ((p.1, PyData.int p.2) :: tK ks) k = _
    rw [lk_cons]
    by_cases h : p.1 = k
    · rw [if_pos h, List.find?_cons_of_pos (by simpa using h)]; rfl
    · rw [if_neg h, List.find?_cons_of_neg (by simpa using h), ih]
theorem Tal.get {ns : List Int} {ks : List (Int × Int)} (T : Tal ns ks) (k : Int) : (lk (tK ks) k).getD (.int 0) = .int ((ns.count k : Nat) : Int) := by
  rw [tK_lk]
  cases h : ks.find? fun p => decide (p.1 = k) with
  | none =>
    have : k ∉ ns := fun hk => by
      obtain ⟨p, hp, e⟩ := List.mem_map.mp ((T.mem k).mpr hk)
      have := List.find?_eq_none.mp h p hp
      simp [e] at this
    rw [List.count_eq_zero.mpr this]; rfl
  | some p =>
    have h1 := List.mem_of_find?_eq_some h
    have h2 : p.1 = k := by have := List.find?_some h; simpa using this
    show PyData.int p.2 = _
    rw [T.val p h1, h2]
theorem Tal.put {ns : List Int} {ks : List (Int × Int)} (T : Tal ns ks) (k : Int) : ∃ ks', putD (tK ks) k (.int (((ns.count k : Nat) : Int) + 1)) = tK ks' ∧ Tal (ns ++ [k]) ks' := by
  have keys : (tK ks).any (fun kv => decide (kv.1 = k)) = decide (k ∈ ks.map (·.1)) := by
    clear T
    induction ks with
    | nil => simp [tK]
    | cons p ks ih =>
      show (decide (p.1 = k) || (tK ks).any _) = _
      rw [ih, List.map_cons]
      by_cases e : p.1 = k
      · rw [decide_eq_true e, decide_eq_true (show k ∈ p.1 :: ks.map (·.1) by rw [e]; exact List.mem_cons_self)]; rfl
      · rw [decide_eq_false e, Bool.false_or]
        congr 1
        rw [List.mem_cons]
        exact propext ⟨.inr, fun z => z.resolve_left fun q => e q.symm⟩
  have hc : ∀ j, (ns ++ [k]).count j = ns.count j + if j = k then 1 else 0 := fun j => by
    rw [List.count_append, List.count_singleton]
    by_cases e : j = k
    · rw [if_pos e, e]; simp
    · rw [if_neg e]
      have : (k == j) = false := by simpa using fun z => e z.symm
      rw [this]; rfl
  by_cases hin : k ∈ ks.map (·.1)
  · refine ⟨ks.map fun p => if p.1 = k then (p.1, ((ns.count k : Nat) : Int) + 1) else p, ?_, ?_, ?_, ?_⟩
    · unfold putD
      rw [keys, decide_eq_true hin, if_pos rfl]
      unfold tK
      rw [List.map_map, List.map_map]
      apply List.map_congr_left
      intro p _
      show (if p.1 = k then (p.1, PyData.int (((ns.count k : Nat) : Int) + 1)) else (p.1, PyData.int p.2)) = (fun p : Int × Int => (p.1, PyData.int p.2)) (if p.1 = k then (p.1, ((ns.count k : Nat) : Int) + 1) else p)
      by_cases e : p.1 = k
      · rw [if_pos e, if_pos e]
      · rw [if_neg e, if_neg e]
    · have : (ks.map fun p => if p.1 = k then (p.1, ((ns.count k : Nat) : Int) + 1) else p).map (·.1) = ks.map (·.1) := by
        rw [List.map_map]
        apply List.map_congr_left
        intro p _
        show (if p.1 = k then (p.1, ((ns.count k : Nat) : Int) + 1) else p).1 = p.1
        split <;> rfl
      rw [this]; exact T.nd
    · intro j
      have : (ks.map fun p => if p.1 = k then (p.1, ((ns.count k : Nat) : Int) + 1) else p).map (·.1) = ks.map (·.1) := by
        rw [List.map_map]
        apply List.map_congr_left
        intro p _
        show (if p.1 = k then (p.1, ((ns.count k : Nat) : Int) + 1) else p).1 = p.1
        split <;> rfl
      rw [this, T.mem, List.mem_append, List.mem_singleton]
      exact ⟨.inl, fun z => z.elim id fun e => by rw [e]; exact (T.mem k).mp hin⟩
    · intro p hp
      obtain ⟨p', hp', rfl⟩ := List.mem_map.mp hp
      by_cases e : p'.1 = k
      · rw [if_pos e]
        show _ = (((ns ++ [k]).count p'.1 : Nat) : Int)
        rw [hc, if_pos e, e]
        show ((ns.count k : Nat) : Int) + 1 = _
        omega
      · rw [if_neg e, hc, if_neg e, T.val p' hp']
        rfl
  · have hn : k ∉ ns := fun z => hin ((T.mem k).mpr z)
    refine ⟨ks ++ [(k, ((ns.count k : Nat) : Int) + 1)], ?_, ?_, ?_, ?_⟩
    · unfold putD
      rw [keys, decide_eq_false hin, if_neg (by decide)]
      unfold tK
      rw [List.map_append]; rfl
    · rw [List.map_append, List.nodup_append]
      exact ⟨T.nd, by simp, fun a ha b hb => by
        rw [List.map_cons, List.map_nil, List.mem_singleton] at hb
        subst hb
        intro e
        exact hin (by rw [← e]; exact ha)⟩
    · intro j
      rw [List.map_append, List.mem_append, T.mem, List.mem_append]
      simp
    · intro p hp
      rcases List.mem_append.mp hp with hp | hp
      · have hne : p.1 ≠ k := fun e => hin (by rw [← e]; exact List.mem_map.mpr ⟨p, hp, rfl⟩)
        rw [hc, if_neg hne, T.val p hp]
        rfl
      · rw [List.mem_singleton.mp hp]
        show _ = (((ns ++ [k]).count k : Nat) : Int)
        rw [hc, if_pos rfl]
        show ((ns.count k : Nat) : Int) + 1 = _
        omega
theorem asc_lexLe (f : Int → Int) : ∀ {m : List Int}, m.Pairwise (· < ·) → (m.map fun c => (c, f c)).Pairwise lexLe := by
  intro m h
  rw [List.pairwise_map]
  exact h.imp fun {a b} z => .inl z
theorem Tal.sorted {ns : List Int} {ks : List (Int × Int)} (T : Tal ns ks) {ys : List (Int × Int)} (p : ys.Perm ks) (s : ys.Pairwise lexLe) {m ns' : List Int} (hm : m.Pairwise (· < ·)) (hk : ∀ k, k ∈ m ↔ k ∈ ns') (hp : ns'.Perm ns) :
    ys = m.map fun c => (c, ((ns'.count c : Nat) : Int)) := by
  refine sorted_one (p.trans ?_) s (asc_lexLe _ hm)
  have n1 : ks.Nodup := by
    have h := T.nd
    rw [List.nodup_iff_pairwise_ne, List.pairwise_map] at h
    exact List.nodup_iff_pairwise_ne.mpr (h.imp fun {a b} z e => z (by rw [e]))
  have n2 : (m.map fun c => (c, ((ns'.count c : Nat) : Int))).Nodup := by
    rw [List.nodup_iff_pairwise_ne, List.pairwise_map]
    exact hm.imp fun {a b} z e => by
      have := congrArg Prod.fst e
      simp only at this
      omega
  refine (List.perm_ext_iff_of_nodup n1 n2).mpr fun q => ?_
  rw [List.mem_map]
  constructor
  · intro h
    refine ⟨q.1, (hk _).mpr (hp.mem_iff.mpr ((T.mem _).mp (List.mem_map.mpr ⟨q, h, rfl⟩))), ?_⟩
    rw [hp.count_eq, ← T.val q h]
  · rintro ⟨c, hc, rfl⟩
    obtain ⟨p', hp', e⟩ := List.mem_map.mp ((T.mem c).mpr (hp.mem_iff.mp ((hk c).mp hc)))
    have := T.val p' hp'
    rw [hp.count_eq, ← e, ← this]
    exact hp'
theorem Tal.len {ns : List Int} {ks : List (Int × Int)} (T : Tal ns ks) : ks.length ≤ ns.length := by
  have := List.Nodup.length_le_of_subset T.nd (l₂ := ns) fun x hx => (T.mem x).mp hx
  rwa [List.length_map] at this
end DL
/-! DP: counts of layings. -/
namespace DL
open PySem PySem.Spec PyProof.Rows L2
section
variable {n : Int} {es : List Edge}
def cntI (n : Int) (es : List Edge) (l : List Int) : Int := ((cnt es n.toNat l : Nat) : Int)
end
end DL
/-! DP: how many orders of a row have given falls. -/
namespace DL
open PySem PySem.Spec PyProof.Rows L2
def rwS (F : Nat → Bool) : Nat → List Nat
  | 0 => [1]
  | m + 1 => (List.range (m + 2)).map fun p => if F m = true then ((rwS F m).drop p).sum else ((rwS F m).take p).sum
theorem rwS_len (F : Nat → Bool) : ∀ m, (rwS F m).length = m + 1
  | 0 => rfl
  | m + 1 => by rw [rwS, List.length_map, List.length_range]
/-- who must stand ahead in a row with these falls -/
def fK (F : Nat → Bool) (x y : Int) : Prop := ∃ k : Nat, (F k = false ∧ x = (k : Int) ∧ y = (k : Int) + 1) ∨ (F k = true ∧ x = (k : Int) + 1 ∧ y = (k : Int))
def sN (n : Nat) : List Int := (List.range n).map fun (k : Nat) => (k : Int)
theorem mem_sN {n : Nat} {x : Int} : x ∈ sN n ↔ 0 ≤ x ∧ x < n := by
  unfold sN
  rw [List.mem_map]
  constructor
  · rintro ⟨k, hk, rfl⟩
    have := List.mem_range.mp hk
    omega
  · rintro ⟨h0, h1⟩
    exact ⟨x.toNat, List.mem_range.mpr (by omega), by omega⟩
theorem sN_nd (n : Nat) : (sN n).Nodup := by
  unfold sN
  rw [List.nodup_iff_pairwise_ne, List.pairwise_map]
  exact (List.nodup_iff_pairwise_ne.mp List.nodup_range).imp fun {a b} h e => h (by omega)
theorem sN_succ (n : Nat) : sN (n + 1) = sN n ++ [(n : Int)] := by
  unfold sN
  rw [List.range_succ, List.map_append]; rfl
theorem mixN_zero' (a : Nat) : mixN 0 a = 1 := by rw [mixN_comm, mixN_zero]
theorem mrg_one (b : List Nat) (ah : Bool) : mrgC [1] b ah = (List.range (b.length + 1)).map fun p => if ah = true then (b.drop p).sum else (b.take p).sum := by
  unfold mrgC
  rw [show ([1] : List Nat).length + b.length = b.length + 1 by rw [Nat.add_comm]; rfl]
  refine List.map_congr_left fun p hp => ?_
  have hp := List.mem_range.mp hp
  unfold mrgAt
  show ((List.range 1).map _).sum = _
  rw [show List.range 1 = [0] from rfl, List.map_cons, List.map_nil, List.sum_cons, List.sum_nil]
  rw [if_pos ⟨Nat.zero_le _, by omega⟩]
  show 1 * fitN b ah (p - 0) * (mixN 0 (p - 0) * mixN (1 - 1 - 0) (b.length - (p - 0))) + 0 = _
  rw [mixN_zero', mixN_zero']
  unfold fitN
  simp
theorem rwS_tm (F : Nat → Bool) : ∀ m, TmOf (fK F) (sN (m + 1)) (m : Int) (rwS F m)
  | 0 => by
    have h : TmOf (fK F) [(0 : Int)] 0 [1] := tm_one (by rintro ⟨k, ⟨_, h1, h2⟩ | ⟨_, h1, h2⟩⟩ <;> omega)
    exact h
  | m + 1 => by
    have ih := rwS_tm F m
    have h0 : TmOf (fK F) [((m + 1 : Nat) : Int)] ((m + 1 : Nat) : Int) [1] := tm_one (by rintro ⟨k, ⟨_, h1, h2⟩ | ⟨_, h1, h2⟩⟩ <;> omega)
    have := tm_mrg (ah := F m) (by simp) (sN_nd (m + 1)) (by
      intro x hx hx2
      rw [List.mem_singleton] at hx
      have := mem_sN.mp hx2
      omega) (List.mem_singleton.mpr rfl) (mem_sN.mpr ⟨by omega, by omega⟩) h0 ih (by
      rintro x y ⟨k, ⟨hf, rfl, rfl⟩ | ⟨hf, rfl, rfl⟩⟩
      · refine ⟨?_, ?_⟩
        · rintro ⟨h1, h2⟩
          rw [List.mem_singleton] at h1
          have := mem_sN.mp h2
          omega
        · rintro ⟨h1, h2⟩
          rw [List.mem_singleton] at h2
          have e : k = m := by omega
          subst e
          exact ⟨rfl, h2, hf⟩
      · refine ⟨?_, ?_⟩
        · rintro ⟨h1, h2⟩
          rw [List.mem_singleton] at h1
          have e : k = m := by omega
          subst e
          exact ⟨h1, rfl, hf⟩
        · rintro ⟨h1, h2⟩
          rw [List.mem_singleton] at h2
          have := mem_sN.mp h1
          omega) (by
      cases hf : F m with
      | true => exact ⟨m, .inr ⟨hf, by omega, rfl⟩⟩
      | false => exact ⟨m, .inl ⟨hf, rfl, by omega⟩⟩)
    rw [mrg_one, rwS_len] at this
    refine TmOf.perm this ?_
    rw [sN_succ (m + 1)]
    exact List.perm_append_comm
def rowN (F : Nat → Bool) : Nat → Nat
  | 0 => 1
  | m + 1 => (rwS F m).sum
theorem rowN_ords {F : Nat → Bool} : ∀ {n : Nat} {L : List (List Int)}, Ords (fK F) (sN n) L → L.length = rowN F n
  | 0, L, O => by
    have h0 : Ords (fK F) (sN 0) [[]] := ords_none
    rw [(O.uniq h0).length_eq]; rfl
  | m + 1, L, O => ((rwS_tm F m).sum (mem_sN.mpr ⟨by omega, by omega⟩) O).symm
theorem Ords.congr {K K' : Int → Int → Prop} {S : List Int} {L : List (List Int)} (h : ∀ x ∈ S, ∀ y ∈ S, K x y ↔ K' x y) (O : Ords K S L) : Ords K' S L := by
  refine ⟨O.nd, fun o => (O.mem o).trans ⟨fun q => ⟨q.1, fun x y k hx hy => q.2 x y ((h x (q.1.mem_iff.mp hx) y (q.1.mem_iff.mp hy)).mpr k) hx hy⟩, fun q => ⟨q.1, fun x y k hx hy => q.2 x y ((h x (q.1.mem_iff.mp hx) y (q.1.mem_iff.mp hy)).mp k) hx hy⟩⟩⟩
theorem idx_map {f g : Int → Int} {x : Int} : ∀ {o : List Int}, (∀ y ∈ o, g (f y) = y) → g (f x) = x → (o.map f).idxOf (f x) = o.idxOf x
  | [], _, _ => rfl
  | y :: o, h, hx => by
    have ih := idx_map (f := f) (g := g) (x := x) (o := o) (fun z hz => h z (List.mem_cons_of_mem _ hz)) hx
    rw [List.map_cons, List.idxOf_cons, List.idxOf_cons, ih]
    have e : (f y == f x) = (y == x) := by
      apply Bool.eq_iff_iff.mpr
      rw [beq_iff_eq, beq_iff_eq]
      exact ⟨fun e => by rw [← h y List.mem_cons_self, e, hx], fun e => by rw [e]⟩
    rw [e]
theorem Ords.map {K K' : Int → Int → Prop} {S : List Int} {L : List (List Int)} {f g : Int → Int} (hg : ∀ x ∈ S, g (f x) = x) (h : ∀ x ∈ S, ∀ y ∈ S, K x y ↔ K' (f x) (f y)) (O : Ords K S L) : Ords K' (S.map f) (L.map (List.map f)) := by
  have back : ∀ o ∈ L, (o.map f).map g = o := fun o ho => by
    rw [List.map_map]
    have : o.map (g ∘ f) = o.map id := List.map_congr_left fun x hx => hg x (((O.mem o).mp ho).1.mem_iff.mp hx)
    rw [this, List.map_id]
  refine ⟨?_, fun o' => ?_⟩
  · rw [List.nodup_iff_pairwise_ne, List.pairwise_map]
    exact (List.nodup_iff_pairwise_ne.mp O.nd).imp_of_mem fun {a b} ha hb hne e => hne (by rw [← back a ha, ← back b hb, e])
  · rw [List.mem_map]
    constructor
    · rintro ⟨o, ho, rfl⟩
      obtain ⟨p, kp⟩ := (O.mem o).mp ho
      refine ⟨p.map f, fun x' y' k gx gy => ?_⟩
      obtain ⟨x, hx, rfl⟩ := List.mem_map.mp gx
      obtain ⟨y, hy, rfl⟩ := List.mem_map.mp gy
      have hgo : ∀ z ∈ o, g (f z) = z := fun z hz => hg z (p.mem_iff.mp hz)
      rw [idx_map hgo (hgo x hx), idx_map hgo (hgo y hy)]
      exact kp x y ((h x (p.mem_iff.mp hx) y (p.mem_iff.mp hy)).mpr k) hx hy
    · rintro ⟨p, kp⟩
      have e2 : (o'.map g).map f = o' := by
        rw [List.map_map]
        have : o'.map (f ∘ g) = o'.map id := List.map_congr_left fun x' hx' => by
          obtain ⟨x, hx, rfl⟩ := List.mem_map.mp (p.mem_iff.mp hx')
          show f (g (f x)) = f x
          rw [hg x hx]
        rw [this, List.map_id]
      have p2 : (o'.map g).Perm S := by
        have := p.map g
        rw [List.map_map] at this
        have e : S.map (g ∘ f) = S.map id := List.map_congr_left fun x hx => hg x hx
        rwa [e, List.map_id] at this
      have hgo : ∀ z ∈ o'.map g, g (f z) = z := fun z hz => hg z (p2.mem_iff.mp hz)
      refine ⟨o'.map g, (O.mem _).mpr ⟨p2, fun x y k hx hy => ?_⟩, e2⟩
      rw [← idx_map hgo (hgo x hx), ← idx_map hgo (hgo y hy), e2]
      refine kp _ _ ((h x (p2.mem_iff.mp hx) y (p2.mem_iff.mp hy)).mp k) ?_ ?_
      · rw [← e2]; exact List.mem_map.mpr ⟨x, hx, rfl⟩
      · rw [← e2]; exact List.mem_map.mpr ⟨y, hy, rfl⟩
/-- the row from the other end -/
theorem rowN_rev (F G : Nat → Bool) (n : Nat) (h : ∀ k, k + 1 < n → G k = !F (n - 2 - k)) : rowN G n = rowN F n := by
  obtain ⟨L, O⟩ := ords_ex (K := fK F) (sN_nd n)
  have O2 := O.map (K' := fK G) (f := fun x => (n : Int) - 1 - x) (g := fun x => (n : Int) - 1 - x) (fun x _ => by omega) (fun x hx y hy => by
    have hx := mem_sN.mp hx
    have hy := mem_sN.mp hy
    constructor
    · rintro ⟨k, ⟨hf, rfl, rfl⟩ | ⟨hf, rfl, rfl⟩⟩
      · refine ⟨n - 2 - k, .inr ⟨?_, by omega, by omega⟩⟩
        rw [h _ (by omega), show n - 2 - (n - 2 - k) = k by omega, hf]; rfl
      · refine ⟨n - 2 - k, .inl ⟨?_, by omega, by omega⟩⟩
        rw [h _ (by omega), show n - 2 - (n - 2 - k) = k by omega, hf]; rfl
    · rintro ⟨k, ⟨hf, e1, e2⟩ | ⟨hf, e1, e2⟩⟩
      · refine ⟨n - 2 - k, .inr ⟨?_, by omega, by omega⟩⟩
        rw [h _ (by omega)] at hf
        simpa using hf
      · refine ⟨n - 2 - k, .inl ⟨?_, by omega, by omega⟩⟩
        rw [h _ (by omega)] at hf
        simpa using hf)
  have p : ((sN n).map fun x => (n : Int) - 1 - x).Perm (sN n) := by
    refine (List.perm_ext_iff_of_nodup ?_ (sN_nd n)).mpr fun x => ?_
    · rw [List.nodup_iff_pairwise_ne, List.pairwise_map]
      exact (List.nodup_iff_pairwise_ne.mp (sN_nd n)).imp fun {a b} h e => h (by omega)
    · rw [List.mem_map, mem_sN]
      constructor
      · rintro ⟨y, hy, rfl⟩
        have := mem_sN.mp hy
        omega
      · intro q
        exact ⟨(n : Int) - 1 - x, mem_sN.mpr (by omega), by omega⟩
  have := rowN_ords (O2.perm p)
  rw [List.length_map, rowN_ords O] at this
  exact this.symm
/-- a place that may go first -/
def fstN (F : Nat → Bool) (n k : Nat) : Bool := (decide (k = 0) || F (k - 1)) && (decide (k + 1 = n) || !F k)
def shF (F : Nat → Bool) (k : Nat) : Nat → Bool := fun j => F (k + 1 + j)
end DL
/-! DL: list(itertools.accumulate(xs)), xs a list of ints. -/
namespace AC
open PySem PySem.Spec PyProof.Rows
open Sem (wp)
section
variable {prog : Program} {w : World} {A : Around} {E : Value → Shared → Prop} {s : Shared}
set_option maxHeartbeats 3200000 in
theorem code_accL {t : Addr} {items : List Value} {Q₁ : Value → Shared → Prop} (ht : s.heap.IsList t items.toArray)
    (h : Q₁ (.ref (s.heap.push { cls := .type "list_iterator", data := .fields #[.ref t, .int 0 0] }).objs.size) { s with heap := (s.heap.push { cls := .type "list_iterator", data := .fields #[.ref t, .int 0 0] }).push { cls := .type "itertools.accumulate", data := .fields #[.ref s.heap.objs.size, .none, rawInt 0, .none] } }) :
    codeAny (model prog w) A (.call (.builtin "itertools.accumulate.__new__") ⟨[.type "itertools.accumulate", .ref t], []⟩) (wants Q₁ E) s := by
  refine codeAny_of_tree ?_
  show wpAny _ A.in1 (do checkBuiltinCall "itertools.accumulate.__new__" ⟨[.type "itertools.accumulate", .ref t], []⟩; again (.builtin "itertools.accumulate.__new__" ⟨[.type "itertools.accumulate", .ref t], []⟩)) _ _ s
  refine wpAny_bind (wpAny_of_eq (newCall_acc_1 _) (wpAny_pure ⟨plainId_quiet plain_acc_new _, codeAny_builtin entry_acc_new ?_⟩))
  rw [Around.under_plainId plain_acc_new _]
  have hsub := sub_acc
  have hd := noDict_acc
  have hsn : ("itertools." ++ "accumulate" : String) = "itertools.accumulate" := by decide +kernel
  unfold Builtin.«itertools.accumulate.__new__»
  repeat (first
      | (refine wpAny_pyIter_list ht ?_)
      | wp_step
      | (rw [hsn])
      | simp only [List.head?_cons, Option.some_or, List.getElem?_cons_succ, List.getElem?_cons_zero, List.length_cons, List.length_nil, List.forIn_nil])
  exact h
/-- the tuple's iterator, asked by itself -/
theorem raw_itemL {it t : Addr} {i : Nat} {items} {x : Value} {Q : Option Value → Shared → Prop} (hit : s.heap.IsListIter it t i) (ht : s.heap.IsList t items) (hx : items[i]? = some x)
    (hQ : ∀ h', h'.IsListIter it t (i + 1) → Heap.SameBut it s.heap h' → Q (some x) { s with heap := h' }) : wpAny (model prog w) A (callSpecial? (.ref it) "__next__") Q E s := by
  obtain ⟨o, ho, hc, hd⟩ := id hit
  obtain ⟨ol, hol, _, nl, hdl⟩ := ht
  refine wpAny_callSpecial?_slot (name := Str.ofString "__next__") hit.typeIs slot_listiter_next
    (wpAny_call_entry slot_listiter_next hit.typeIs entry_listiter_next ?_ (args_listiter_next _))
  show wpAny _ _ (field (.ref it) 0 >>= _) _ _ s
  refine wpAny_bind (wpAny_field ho hd (x := .ref t) rfl ?_)
  show wpAny _ _ (if (Value.ref t == Value.none) = true then _ else _) _ _ s
  rw [if_neg (show ¬ ((Value.ref t == Value.none) = true) from Bool.false_ne_true)]
  show wpAny _ _ (field (.ref it) 1 >>= _) _ _ s
  refine wpAny_bind (wpAny_field ho hd (x := .int i 0) rfl ?_)
  show wpAny _ _ (seqItems? (.ref t) >>= _) _ _ s
  refine wpAny_bind (wpAny_seqItems hol hdl ?_)
  simp only [Int.toNat_natCast, hx]
  refine wpAny_bind (wpAny_setField ho hd (by simp) (wpAny_pure ⟨x, rfl, hQ _ ?_ (Heap.SameBut.update ..)⟩))
  exact ⟨_, Heap.get?_update_self _ ho (Obj.isFreed_of_fields (Obj.data_mapFields hd _)), (Obj.cls_mapFields ..).trans hc, by
    rw [Obj.data_mapFields hd]; simp [rawInt]⟩
theorem raw_endL {it t : Addr} {i : Nat} {items} {Q : Option Value → Shared → Prop} (hh : A.handled = none) (hit : s.heap.IsListIter it t i) (ht : s.heap.IsList t items) (hx : items[i]? = none)
    (hQ : ∀ e h', CpRep.StopE e h' → Heap.ExtBut it s.heap h' → E e { s with heap := h' }) : wpAny (model prog w) A (callSpecial? (.ref it) "__next__") Q E s := by
  obtain ⟨o, ho, hc, hd⟩ := id hit
  obtain ⟨ol, hol, _, nl, hdl⟩ := ht
  refine wpAny_callSpecial?_slot (name := Str.ofString "__next__") hit.typeIs slot_listiter_next
    (wpAny_call_entry slot_listiter_next hit.typeIs entry_listiter_next ?_ (args_listiter_next _))
  show wpAny _ _ (field (.ref it) 0 >>= _) _ _ s
  refine wpAny_bind (wpAny_field ho hd (x := .ref t) rfl ?_)
  show wpAny _ _ (if (Value.ref t == Value.none) = true then _ else _) _ _ s
  rw [if_neg (show ¬ ((Value.ref t == Value.none) = true) from Bool.false_ne_true)]
  show wpAny _ _ (field (.ref it) 1 >>= _) _ _ s
  refine wpAny_bind (wpAny_field ho hd (x := .int i 0) rfl ?_)
  show wpAny _ _ (seqItems? (.ref t) >>= _) _ _ s
  refine wpAny_bind (wpAny_seqItems hol hdl ?_)
  simp only [Int.toNat_natCast, hx]
  refine wpAny_bind (wpAny_rule (wpAny_bind (wpAny_setField ho hd (by simp) ?_)))
  show wpAny _ _ (newExc (.type "StopIteration") [] >>= _) _ _ _
  refine wpAny_bind ?_
  simp only [newExc, newTuple]
  refine wpAny_bind (wpAny_newObj_type ?_ (by size_fits))
  refine wpAny_bind (m := firstArgMember _ _) (wpAny_of_eq (a := Value.none) (by first | rfl | (simp only [firstArgMember]; rfl)) ?_)
  refine wpAny_newObj_type ?_ (by size_fits)
  simp only [raiseNew]
  refine wpAny_bind (wpAny_handled ?_)
  first | rw [show A.in1.handled = none from hh] | rw [hh]
  refine wpAny_bind (wpAny_pure (wpAny_throw ?_))
  refine hQ _ _ ⟨_, _, _, rfl, Heap.get?_push_size _ rfl, rfl, rfl, rfl⟩ ?_
  refine ((?_ : Heap.ExtBut it s.heap _).push _).push _
  exact fun b ob hb e => (Heap.get?_update_other _ _ (Ne.symm hb)).trans e
/-- the next sum -/
theorem next_accL {it li t : Addr} {i : Nat} {items : Array Value} {a x : Int} {ta tx : Tok} {Q : Option Value → Shared → Prop} (hit : IsAcc s.heap it li (.int a ta)) (hli : s.heap.IsListIter li t i) (ht : s.heap.IsList t items) (hx : items[i]? = some (.int x tx)) (hne : it ≠ li) (h0 : (Value.int a ta == rawInt 0) = true → a = 0)
    (hQ : ∀ h' tk tr, IsAcc h' it li (.int (a + x) tr) → h'.IsListIter li t (i + 1) → (∀ b o, b ≠ it → b ≠ li → s.heap.get? b = some o → h'.get? b = some o) → Q (some (.int (a + x) tr)) { s with heap := h', toks := tk }) :
    wpAny (model prog w) A (pyNext (.ref it)) Q E s := by
  have hT : s.TypeIs (.ref it) "itertools.accumulate" := ⟨_, hit, rfl⟩
  unfold pyNext
  refine wpAny_bind (wpAny_attempt (wpAny_callSpecial?_slot (name := Str.ofString "__next__") hT slot_acc_next
    (wpAny_call_entry slot_acc_next hT entry_acc_next ?_ (args_acc_next _))))
  unfold Builtin.«itertools.accumulate.__next__»
  refine wpAny_bind (wpAny_of_eq (a := (Value.ref it, [])) rfl ?_)
  try dsimp only
  refine wpAny_bind (wpAny_field hit rfl (x := .none) rfl ?_)
  try dsimp only
  rw [if_neg (show ¬ ((Value.none != Value.none) = true) by decide)]
  refine wpAny_bind (wpAny_field hit rfl (x := .ref li) rfl ?_)
  try dsimp only
  unfold Builtin.Itertools.itRawNext
  refine wpAny_bind (wpAny_bind (raw_itemL hli ht hx fun h1 hli1 hs1 => ?_))
  have hit1 : IsAcc h1 it li (.int a ta) := hs1.extBut it _ hne hit
  refine wpAny_pure ?_
  refine wpAny_bind (wpAny_field (s := { s with heap := h1 }) hit1 rfl (x := .int a ta) rfl ?_)
  try dsimp only
  by_cases hz : (Value.int a ta == Builtin.Itertools.itNothing) = true
  · rw [if_pos hz]
    have ha := h0 hz
    subst ha
    refine wpAny_bind (wpAny_rule (wpAny_bind (wpAny_setField (s := { s with heap := h1 }) hit1 rfl (by simp) ?_)))
    have hit2 : IsAcc (h1.update it (Obj.mapFields fun y => y.setIfInBounds 2 (.int x tx))) it li (.int x tx) := Heap.get?_update_self _ hit1 rfl
    have hQ2 := hQ (h1.update it (Obj.mapFields fun y => y.setIfInBounds 2 (.int x tx))) s.toks tx (by rw [Int.zero_add]; exact hit2) (by
      obtain ⟨o, g1, g2, g3⟩ := hli1
      exact ⟨o, (Heap.get?_update_other _ _ hne).trans g1, g2, g3⟩) fun b o hb hb2 e => (Heap.get?_update_other _ _ (Ne.symm hb)).trans (hs1.extBut b o hb2 e)
    rw [Int.zero_add] at hQ2
    exact wpAny_pure ⟨_, rfl, wpAny_pure hQ2⟩
  · rw [if_neg hz]
    refine wpAny_bind (wpAny_field (s := { s with heap := h1 }) hit1 rfl (x := .none) rfl ?_)
    try dsimp only
    refine wpAny_bind (wpAny_holding ?_)
    rw [if_pos (show (Value.none == Value.none) = true by decide)]
    refine add_int ?_
    try dsimp only
    refine wpAny_bind (wpAny_setField (s := { s with heap := h1, toks := s.toks + 1 }) hit1 rfl (by simp) ?_)
    have hit2 : IsAcc (h1.update it (Obj.mapFields fun y => y.setIfInBounds 2 (.int (a + x) s.toks))) it li (.int (a + x) s.toks) := Heap.get?_update_self _ hit1 rfl
    refine wpAny_bind (wpAny_letGo ?_)
    exact wpAny_pure ⟨_, rfl, wpAny_pure (hQ _ (s.toks + 1) s.toks hit2 (by
      obtain ⟨o, g1, g2, g3⟩ := hli1
      exact ⟨o, (Heap.get?_update_other _ _ hne).trans g1, g2, g3⟩) fun b o hb hb2 e => (Heap.get?_update_other _ _ (Ne.symm hb)).trans (hs1.extBut b o hb2 e))⟩
theorem end_accL {it li t : Addr} {items : Array Value} {v : Value} {Q : Option Value → Shared → Prop} (hh : A.handled = none) (hit : IsAcc s.heap it li v) (hli : s.heap.IsListIter li t items.size) (ht : s.heap.IsList t items)
    (hQ : ∀ h', Heap.ExtBut li s.heap h' → Q none { s with heap := h' }) : wpAny (model prog w) A (pyNext (.ref it)) Q E s := by
  have hT : s.TypeIs (.ref it) "itertools.accumulate" := ⟨_, hit, rfl⟩
  unfold pyNext
  refine wpAny_bind (wpAny_attempt (wpAny_callSpecial?_slot (name := Str.ofString "__next__") hT slot_acc_next
    (wpAny_call_entry slot_acc_next hT entry_acc_next ?_ (args_acc_next _))))
  unfold Builtin.«itertools.accumulate.__next__»
  refine wpAny_bind (wpAny_of_eq (a := (Value.ref it, [])) rfl ?_)
  try dsimp only
  refine wpAny_bind (wpAny_field hit rfl (x := .none) rfl ?_)
  try dsimp only
  rw [if_neg (show ¬ ((Value.none != Value.none) = true) by decide)]
  refine wpAny_bind (wpAny_field hit rfl (x := .ref li) rfl ?_)
  try dsimp only
  unfold Builtin.Itertools.itRawNext
  refine wpAny_bind (wpAny_bind (raw_endL (by first | exact hh | rfl) hli ht (by simp) fun e h' hs hx => ?_))
  obtain ⟨a, o, vs, rfl, ho, hc, hd, hv⟩ := hs
  refine wpAny_bind (wpAny_isInstance (T := "StopIteration") (b := true) ⟨_, ho, hc⟩ isSubtype_stop ?_)
  exact wpAny_pure (hQ _ hx)
theorem walks_accL (hh : A.handled = none) (it li t : Addr) (h1 : it ≠ li) (h2 : it ≠ t) (h3 : t ≠ li) (ns : List Int) (items : Array Value) (hl : items.size = ns.length) (hi : ∀ (i : Nat) (x : Int), ns[i]? = some x → ∃ tk, items[i]? = some (.int x tk)) :
    Walks prog w A it [it, li, t] [it, li] items.size (fun i v => ∃ tk, v = .int (sumT ns (i + 1)) tk) (fun i h => (∃ tk, IsAcc h it li (.int (sumT ns i) tk)) ∧ h.IsListIter li t i ∧ h.IsList t items) where
  sub := fun b hb => by
    rcases List.mem_cons.mp hb with h | h
    · exact h ▸ .head _
    · rw [List.mem_singleton.mp h]; exact .tail _ (.head _)
  frame := fun i h h' st hk => by
    obtain ⟨⟨tk, a⟩, ⟨o, b1, b2, b3⟩, ⟨o', c1, c2⟩⟩ := st
    exact ⟨⟨tk, hk it (.head _) _ a⟩, ⟨o, hk li (.tail _ (.head _)) _ b1, b2, b3⟩, ⟨o', hk t (.tail _ (.tail _ (.head _))) _ c1, c2⟩⟩
  item := fun i s Q E hn st hQ => by
    obtain ⟨⟨tk, a⟩, b, c⟩ := st
    have hil : i < ns.length := by omega
    obtain ⟨tx, hx⟩ := hi i ns[i] (List.getElem?_eq_getElem hil)
    refine next_accL a b c hx h1 int_raw fun h' tk' tr g1 g2 g3 => ?_
    have e := sumT_succ (List.getElem?_eq_getElem hil)
    rw [← e] at g1 ⊢
    obtain ⟨o', c1, c2⟩ := c
    exact hQ _ h' tk' ⟨tr, rfl⟩ ⟨⟨tr, g1⟩, g2, ⟨o', g3 t _ (fun z => h2 z.symm) h3 c1, c2⟩⟩ fun b o hb e => g3 b o (fun z => hb (z ▸ .head _)) (fun z => hb (z ▸ .tail _ (.head _))) e
  done := fun s Q E st hQ => by
    obtain ⟨⟨tk, a⟩, b, c⟩ := st
    exact end_accL hh a b c fun h' hx => hQ h' s.toks fun b o hb e => hx b o (fun z => hb (z ▸ .tail _ (.head _))) e
  self := fun i s Q E st h => by
    obtain ⟨⟨tk, a⟩, b, c⟩ := st
    exact iter_acc a h
/-- accumulate(t), and the object is new -/
theorem call_accNL {t : Addr} {items : List Value} {Q : Value → Shared → Prop} (ht : s.heap.IsList t items.toArray)
    (h : ∀ it h', IsAcc h' it s.heap.objs.size (rawInt 0) → h'.IsListIter s.heap.objs.size t 0 → h'.IsList t items.toArray → s.heap.objs.size < it → it ≠ t → t ≠ s.heap.objs.size → it < h'.objs.size → (∀ b o, s.heap.get? b = some o → h'.get? b = some o) → Q (.ref it) { s with heap := h' }) :
    wpAny (model prog w) A (call (.type "itertools.accumulate") [.ref t]) Q E s := by
  refine callType_codes (Q₁ := fun obj s₁ => s₁.TypeIs obj "itertools.accumulate" ∧ Q obj s₁) called_acc (typeCall_acc_1 _) F.entry_object_init
    (code_accL (A := A.in1) ht ?_) fun obj s₁ h₁ => ?_
  · obtain ⟨ol, hol, r⟩ := id ht
    have hlt : t < s.heap.objs.size := Heap.lt_size hol
    have hsz : (s.heap.push { cls := .type "list_iterator", data := .fields #[.ref t, .int 0 0] }).objs.size = s.heap.objs.size + 1 := Heap.size_push ..
    refine ⟨⟨_, Heap.get?_push_size _ rfl, rfl⟩, h _ _ (Heap.get?_push_size _ rfl) ⟨_, Heap.get?_push_of_some _ (Heap.get?_push_size _ rfl), rfl, rfl⟩ ⟨ol, Heap.get?_push_of_some _ (Heap.get?_push_of_some _ hol), r⟩ ?_ ?_ ?_ ?_ fun b o q => Heap.get?_push_of_some _ (Heap.get?_push_of_some _ q)⟩
    · rw [hsz]; exact Nat.lt_succ_self _
    · rw [hsz]; exact Nat.ne_of_gt (Nat.lt_succ_of_lt hlt)
    · exact Nat.ne_of_lt hlt
    · simp only [Heap.size_push]; exact Nat.lt_succ_self _
  · exact ⟨h₁.1, F.args_object_init_2 obj _, object_init_meets called_acc.init.lookup called_acc.made (by decide) prog w A.in1 _ s₁ ⟨h₁.1, rfl, h₁.2⟩⟩
end
end AC
namespace DL
open PySem PySem.Spec PyProof.Rows L2
section
variable {X : Cx} {a : Expr} {pos : Pos} {ta : TDE}
theorem df_listAccL {p p2 pos2 : Pos} (hc : X.calm = true) (hg : Gl X "list") (hm : X.mg "list" = none) (hg2 : Gl X "accumulate") (hm2 : X.mg "accumulate" = some (.type "itertools.accumulate")) (ha : DE X a ta) (na : starEach [a] X.env = (false, eval a X.env) :: starEach [] X.env := by rfl)
    (na2 : starEach [(.Call (.Name "accumulate" p2) [a] [] pos2)] X.env = (false, eval (.Call (.Name "accumulate" p2) [a] [] pos2) X.env) :: starEach [] X.env := by rfl) :
    DF X (.Call (.Name "list" p) [.Call (.Name "accumulate" p2) [a] [] pos2] [] pos) (fun ρ q => ta ρ fun d ρ1 => match d with
      | .list ds => ∃ ns : List Int, ds = ns.map PyData.int ∧ q ((accV ns).map PyData.int) ρ1
      | _ => False) := by
  obtain ⟨te, hp, hq⟩ := ha.ex
  refine ⟨fun σ H Q => te σ H fun x H1 => ∃ (l : Addr) (ns : List Int), x = V.ref l ∧ SqL X.K H1 l (ns.map V.int) ∧ ∀ r, H1 r = none → Q (.ref r) (upd H1 r (.lst ((accV ns).map V.int))), ⟨fun pins s σ H Q I h => ?_⟩, fun C σ H ρ q Q E h k => hq C σ H ρ _ _ E h fun v H1 d ρ1 E1 s1 D1 h1 => ?_⟩
  · refine Call_ (ld_blt I hg hm boot_list ?_)
    refine PyProof.Rows.callWith_type1 (PyProof.Rows.args_cons ?_ na2) na2 rfl
    refine Call_ (ld_glob I hg2 hm2 ?_ (by decide))
    refine PyProof.Rows.callWith_type1 (PyProof.Rows.args_cons (thn (hp.run pins s σ H _ I h) fun v s1 ⟨x, H1, I1, r1, q1⟩ => PyProof.Rows.args_nil ?_) na) na rfl
    obtain ⟨l, ns, rfl, hq', q1⟩ := q1
    cases r1
    obtain ⟨its, rv, pt, hz⟩ := I1.list hq'
    have hlen : its.length = ns.length := by rw [← rv.length, List.length_map]
    refine AC.call_accNL (t := l) (items := its) pt.isList fun it h' g1 g2 g3 n1 n2 n3 lt keep => ?_
    refine PyProof.Rows.args_nil ?_
    have hi : ∀ (i : Nat) (x : Int), ns[i]? = some x → ∃ tk, its.toArray[i]? = some (.int x tk) := fun i x hx => by
      obtain ⟨u, hu, tk, rfl⟩ := rv.get (i := i) (x := V.int x) (by rw [List.getElem?_map, hx]; rfl)
      exact ⟨tk, by rw [List.getElem?_toArray]; exact hu⟩
    have W := (AC.walks_accL (prog := X.prog) (w := X.w) (A := X.A.in1.in1) (I1.ok.hd hc) it s1.heap.objs.size l (Nat.ne_of_gt n1) n2 n3 ns its.toArray (by rw [List.size_toArray]; exact hlen) hi).toS
    obtain ⟨oli, hli, _⟩ := id g2
    obtain ⟨ot, hot, _⟩ := id g3
    refine AC.list_acc W (fun i s2 st => ⟨_, st.1.choose_spec, rfl⟩) ⟨⟨0, g1⟩, g2, g3⟩ (fun b hb => ?_) (.head _) (by rw [List.size_toArray]; rw [← rv.length]; exact hz) fun s' acc' c' mv hS hacc => ?_
    · rcases List.mem_cons.mp hb with rfl | hb
      · exact lt
      · rcases List.mem_cons.mp hb with rfl | hb
        · exact Heap.lt_size hli
        · rw [List.mem_singleton.mp hb]; exact Heap.lt_size hot
    · obtain ⟨hp', gens', drawn', toks', os'⟩ := s'
      obtain ⟨m1, m2, m3, m4, m5⟩ := mv
      dsimp only at m1 m2 m3 m4 hS
      subst m2 m3 m4
      have hk : ∀ b o, s1.heap.get? b = some o → hp'.get? b = some o := fun b o e => by
        have hb := Heap.lt_size e
        refine m1 b o (fun z => ?_) (Heap.get?_push_of_some _ (keep b o e))
        rcases List.mem_cons.mp z with rfl | z
        · exact absurd (Heap.lt_size (keep _ _ e)) (Nat.lt_irrefl _)
        · rcases List.mem_cons.mp z with rfl | z
          · exact absurd hb (Nat.not_lt.mpr (Nat.le_of_lt n1))
          · rw [List.mem_singleton.mp z] at hb; exact Nat.lt_irrefl _ hb
      have hle : s1.heap.objs.size ≤ h'.objs.size := Nat.le_of_lt (Heap.lt_size hli)
      refine ⟨.ref h'.objs.size, upd H1 h'.objs.size (.lst ((accV ns).map V.int)), I1.laid (t' := toks') hk hle (show ObjOk X.prog X.w _ _ _ (.lst ((accV ns).map V.int)) from ⟨?_, acc'.toList, c', ?_, ?_⟩), rfl, q1 _ (I1.hok.fresh hle)⟩
      · unfold accV
        rw [List.length_map, List.length_map, List.length_range, ← hlen, ← rv.length]; exact hz
      · refine vals_of_at ?_ fun j x u hx hu => ?_
        · unfold accV
          have e1 : acc'.toList.length = ns.length := by
            exact Array.length_toList.trans (hacc.1.trans (List.size_toArray.trans hlen))
          rw [e1, List.length_map, List.length_map, List.length_range]
        · rw [Array.getElem?_toList] at hu
          obtain ⟨tk, rfl⟩ := hacc.2 j u hu
          unfold accV at hx
          rw [List.getElem?_map, List.getElem?_map] at hx
          cases hr : (List.range ns.length)[j]? with
          | none => rw [hr] at hx; cases hx
          | some j2 =>
            obtain ⟨_, e2⟩ := List.getElem?_eq_some_iff.mp hr
            rw [List.getElem_range] at e2
            subst e2
            rw [hr] at hx
            cases hx
            exact ⟨tk, rfl⟩
      · rw [Array.toArray_toList]; exact hS
  · cases d with
    | list ds =>
      obtain ⟨ns, rfl, h3⟩ := h1
      obtain ⟨a, vs, rfl, s, D⟩ := Dp.list_of D1
      cases DpAll.ints D
      exact ⟨a, ns, rfl, SqL.le hide_Le s, fun p hp => k p _ _ _ ρ1 (E1.with_fresh hp) (s1.trans (.le (.upd hp))) (s1.free hp) upd_same (DpAll.of_ints _) h3⟩
    | _ => exact h1.elim
end
end DL
/-! DP: tuple(range(a, b, c)); the program's count of a row. -/
namespace DL
open PySem PySem.Spec PyProof.Rows L2
section
variable {X : Cx} {a b c : Expr} {pos : Pos} {ts : TDA}
end
/-! ### the count of a row -/
def evB (ls : List Int) (k : Nat) : Bool := decide ((k : Int) ∈ evF ls)
def rcL (ls : List Int) : Nat := if ls.sum % 2 = 0 then 0 else rowN (evB ls) ls.length
theorem evB_iff {ls : List Int} {k : Nat} : evB ls k = true ↔ k < ls.length ∧ pS ls (k + 1) % 2 = 0 := by
  unfold evB
  rw [decide_eq_true_eq, mem_evF]
  constructor
  · rintro ⟨j, e, h1, h2⟩
    have : j = k := by omega
    subst this
    exact ⟨h1, h2⟩
  · rintro ⟨h1, h2⟩
    exact ⟨k, rfl, h1, h2⟩
def nI (c : List Nat) : List Int := c.map fun (x : Nat) => (x : Int)
theorem nI_sum (c : List Nat) : (nI c).sum = ((c.sum : Nat) : Int) := by
  induction c with
  | nil => rfl
  | cons x c ih =>
    show (x : Int) + (nI c).sum = _
    rw [ih, List.sum_cons]; omega
theorem accV_pre (c : List Nat) : accV (0 :: nI c) = (List.range (c.length + 1)).map fun p => (((c.take p).sum : Nat) : Int) := by
  unfold accV
  have e : ((0 : Int) :: nI c).length = c.length + 1 := by unfold nI; simp
  rw [e]
  refine List.map_congr_left fun p hp => ?_
  unfold AC.sumT
  rw [List.take_succ_cons, List.sum_cons, Int.zero_add]
  have : (nI c).take p = nI (c.take p) := by unfold nI; rw [List.map_take]
  rw [this, nI_sum]
theorem take_drop_sum (c : List Nat) (p : Nat) : (c.take p).sum + (c.drop p).sum = c.sum := by
  rw [← List.sum_append_nat, List.take_append_drop]
theorem rwS_step (F : Nat → Bool) (m : Nat) : nI (rwS F (m + 1)) = if F m = true then (accV (0 :: nI (rwS F m))).map (fun x => (((rwS F m).sum : Nat) : Int) - x) else accV (0 :: nI (rwS F m)) := by
  rw [accV_pre, rwS, rwS_len]
  unfold nI
  by_cases h : F m = true
  · rw [if_pos h, List.map_map, List.map_map]
    refine List.map_congr_left fun p _ => ?_
    show ((((if F m = true then ((rwS F m).drop p).sum else ((rwS F m).take p).sum) : Nat)) : Int) = (((rwS F m).sum : Nat) : Int) - ((((rwS F m).take p).sum : Nat) : Int)
    rw [if_pos h]
    have := take_drop_sum (rwS F m) p
    omega
  · rw [if_neg h, List.map_map]
    refine List.map_congr_left fun p _ => ?_
    show ((((if F m = true then ((rwS F m).drop p).sum else ((rwS F m).take p).sum) : Nat)) : Int) = _
    rw [if_neg h]
theorem accV_end (c : List Nat) : atI ((accV (0 :: nI c)).map PyData.int) (-1) = some (.int ((c.sum : Nat) : Int)) := by
  have := accV_last (ls := 0 :: nI c) (by simp)
  rw [this, List.sum_cons, Int.zero_add, nI_sum]
end DL
/-! DP: least pairs, counters; the greatest row. -/
namespace DL
open PySem PySem.Spec PyProof.Rows L2
/-! ### the greatest row -/
def altF (n : Nat) : List Int := (List.range (n / 2)).map fun (k : Nat) => (0 + (k : Int) * 2)
def altL (n : Nat) : List Int := rofL n (altF n)
def lnN : Nat → List Nat
  | 0 => [1]
  | m + 1 => (List.range (m + 2)).map fun p => ((lnN m).reverse.take p).sum
def bestB (m : Nat) : Bool := (lays m).all fun l => decide (rcL l < rcL (altL m)) || (decide (rcL l = rcL (altL m)) && decide (altL m ≤ l))
end DL
/-! DL: xs[::-1], xs a list (any layer). -/
namespace DL
open PySem PySem.Spec PyProof.Rows L2
section
variable {X : Cx} {o e i st a : Expr} {pos p2 : Pos} {t to ti ta tb : TDE}
/-! xs[::-1], xs a list -/
def tBackM (K : PySem.W.Frag) (te ts : TE) : TE := fun σ H Q => te σ H fun x H1 => ts σ H1 fun y H2 => y = .int (-1) ∧ ∃ a xs, x = .ref a ∧ SqL K H2 a xs ∧ ∀ p, H2 p = none → Q (.ref p) (upd H2 p (.lst xs.reverse))
def tdBackM (ta tb : TDE) : TDE := fun ρ q => ta ρ fun d ρ1 => tb ρ1 fun z ρ2 => match d, z with
  | .list ds, .int i => i = -1 ∧ q (.list ds.reverse) ρ2
  | _, _ => False
end
end DL
/-! DP: rows of coins by their first takes, from the other end; wide products. -/
namespace DL
open PySem PySem.Spec PyProof.Rows L2
section
variable {X : Cx}
end
/-! ### a row of few coins -/
/-! ### cut at a first take -/
def lfL (ls : List Int) (k : Nat) : List Int := (ls.take k).set (k - 1) (1 - (ls.take k).getD (k - 1) 0)
def rtL (ls : List Int) (k : Nat) : List Int := (ls.drop (k + 1)).set 0 (1 - (ls.drop (k + 1)).getD 0 0)
section
variable {n : Nat} {ls : List Int} {k : Nat}
/-- the ways through one first take -/
def wayN (ls : List Int) (n k : Nat) : Nat := rowN (evB ls) k * rowN (shF (evB ls) k) (n - 1 - k) * mixN k (n - 1 - k)
/-- the row from the other end -/
theorem row_rev (F : Full (n : Int) ls) : rcL ls.reverse = rcL ls := by
  have hl := F.len
  have hs : ls.reverse.sum = ls.sum := by
    clear F hl
    induction ls with
    | nil => rfl
    | cons x l ih => rw [List.reverse_cons, List.sum_append_int, ih, List.sum_cons]; simp; omega
  have hr : ∀ (l : List Int), l.reverse.sum = l.sum := by
    intro l
    induction l with
    | nil => rfl
    | cons x l ih => rw [List.reverse_cons, List.sum_append_int, ih, List.sum_cons]; simp; omega
  unfold rcL
  rw [hs, List.length_reverse]
  by_cases he : ls.sum % 2 = 0
  · rw [if_pos he, if_pos he]
  · rw [if_neg he, if_neg he]
    refine rowN_rev _ _ _ fun k hk => ?_
    have e1 : pS ls.reverse (k + 1) = ls.sum - pS ls (ls.length - (k + 1)) := by
      unfold pS
      rw [List.take_reverse, hr]
      have := congrArg List.sum (List.take_append_drop (ls.length - (k + 1)) ls)
      rw [List.sum_append_int] at this
      omega
    have h1 : evB ls.reverse k = true ↔ pS ls (ls.length - (k + 1)) % 2 = 1 := by
      rw [evB_iff, e1, List.length_reverse]
      constructor
      · rintro ⟨_, h⟩; omega
      · intro h; exact ⟨by omega, by omega⟩
    have h2 : evB ls (ls.length - 2 - k) = true ↔ pS ls (ls.length - (k + 1)) % 2 = 0 := by
      rw [evB_iff, show ls.length - 2 - k + 1 = ls.length - (k + 1) by omega]
      exact ⟨fun h => h.2, fun h => ⟨by omega, h⟩⟩
    apply Bool.eq_iff_iff.mpr
    rw [h1, Bool.not_eq_true', ← Bool.not_eq_true, h2]
    omega
end
end DL
/-! DP: sums over counts; the greatest rows to nine coins; orders by falls. -/
namespace DL
open PySem PySem.Spec PyProof.Rows L2
/-! ### sums over counts -/
theorem one_in {K : List Int} (nd : K.Nodup) {x : Int} (hx : x ∈ K) (f : Int → Int) : (K.map fun k => if x = k then f k else 0).sum = f x := by
  induction K with
  | nil => cases hx
  | cons k K ih =>
    rw [List.nodup_cons] at nd
    rw [List.map_cons, List.sum_cons]
    by_cases e : x = k
    · rw [if_pos e]
      have : ∀ L : List Int, x ∉ L → (L.map fun k => if x = k then f k else 0).sum = 0 := by
        intro L
        induction L with
        | nil => intro _; rfl
        | cons y L ihL =>
          intro hL
          rw [List.map_cons, List.sum_cons, if_neg (fun z => hL (by rw [z]; exact List.mem_cons_self)), ihL fun z => hL (List.mem_cons_of_mem _ z)]
          rfl
      rw [this K (by rw [e]; exact nd.1), e]
      omega
    · rw [if_neg e, ih nd.2 ((List.mem_cons.mp hx).resolve_left e)]
      omega
theorem sum_by_cnt {K : List Int} (nd : K.Nodup) (f : Int → Int) : ∀ {ns : List Int}, (∀ x ∈ ns, x ∈ K) → (K.map fun k => f k * ((ns.count k : Nat) : Int)).sum = (ns.map f).sum
  | [], _ => by
    have : ∀ L : List Int, (L.map fun k => f k * ((([] : List Int).count k : Nat) : Int)).sum = 0 := by
      intro L
      induction L with
      | nil => rfl
      | cons y L ih => rw [List.map_cons, List.sum_cons, ih]; simp
    rw [this]; rfl
  | x :: ns, h => by
    have ih := sum_by_cnt nd f (ns := ns) fun y hy => h y (List.mem_cons_of_mem _ hy)
    have h1 := one_in nd (h x List.mem_cons_self) f
    rw [List.map_cons, List.sum_cons, ← ih, ← h1]
    clear ih h1 nd h
    induction K with
    | nil => rfl
    | cons k K ihK =>
      rw [List.map_cons, List.sum_cons, List.map_cons, List.sum_cons, List.map_cons, List.sum_cons, ihK, List.count_cons]
      by_cases e : x = k
      · subst e
        rw [if_pos rfl]
        simp only [beq_self_eq_true, if_true]
        rw [Int.natCast_add, Int.mul_add]
        have : f x * ((1 : Nat) : Int) = f x := by simp
        rw [this]
        omega
      · rw [if_neg e]
        have : (x == k) = false := by simpa using e
        rw [this]
        simp only [Bool.false_eq_true, if_false, Nat.add_zero]
        omega
theorem Tal.sums {ns : List Int} {ks ys : List (Int × Int)} (T : Tal ns ks) (p : ys.Perm ks) : (ys.map fun q => q.1 * q.2).sum = ns.sum ∧ (ys.map fun q => q.2).sum = (ns.length : Int) := by
  have h : ∀ x ∈ ns, x ∈ ks.map (·.1) := fun x hx => (T.mem x).mpr hx
  have e1 : (ks.map fun q => q.1 * q.2) = (ks.map (·.1)).map fun k => id k * ((ns.count k : Nat) : Int) := by
    rw [List.map_map]
    exact List.map_congr_left fun q hq => by show q.1 * q.2 = q.1 * _; rw [T.val q hq]
  have e2 : (ks.map fun q => q.2) = (ks.map (·.1)).map fun k => (fun _ => (1 : Int)) k * ((ns.count k : Nat) : Int) := by
    rw [List.map_map]
    exact List.map_congr_left fun q hq => by show q.2 = 1 * _; rw [T.val q hq, Int.one_mul]
  have hp : ∀ {a b : List Int}, a.Perm b → a.sum = b.sum := fun h => by
    induction h with
    | nil => rfl
    | cons x _ ih => rw [List.sum_cons, List.sum_cons, ih]
    | swap x y l => rw [List.sum_cons, List.sum_cons, List.sum_cons, List.sum_cons]; omega
    | trans _ _ h1 h2 => exact h1.trans h2
  constructor
  · rw [hp (p.map _), e1, sum_by_cnt T.nd id h, List.map_id]
  · rw [hp (p.map _), e2, sum_by_cnt T.nd _ h]
    clear e1 e2 h p T
    induction ns with
    | nil => rfl
    | cons x ns ih => rw [List.map_cons, List.sum_cons, ih, List.length_cons]; omega
theorem Tal.last {ns : List Int} {ks ys : List (Int × Int)} (T : Tal ns ks) (p : ys.Perm ks) (s : ys.Pairwise lexLe) (hn : ns ≠ []) : ∃ q : Int × Int, ys ≠ [] ∧ ys[ys.length - 1]? = some q ∧ q.1 ∈ ns ∧ ∀ k ∈ ns, k ≤ q.1 := by
  have hy : ys ≠ [] := fun z => by
    cases ns with
    | nil => exact hn rfl
    | cons x ns =>
      have := (T.mem x).mpr List.mem_cons_self
      rw [z] at p
      rw [List.nil_perm.mp p] at this
      cases this
  rcases List.eq_nil_or_concat ys with rfl | ⟨zs, q, rfl⟩
  · exact absurd rfl hy
  · rw [List.concat_eq_append] at *
    refine ⟨q, hy, by simp, (T.mem _).mp (List.mem_map.mpr ⟨q, p.mem_iff.mp (by simp), rfl⟩), fun k hk => ?_⟩
    obtain ⟨r, hr, rfl⟩ := List.mem_map.mp ((T.mem k).mpr hk)
    have hr2 := p.mem_iff.mpr hr
    rcases List.mem_append.mp hr2 with h | h
    · have := (List.pairwise_append.mp s).2.2 r h q (by simp)
      unfold lexLe at this
      omega
    · rw [List.mem_singleton.mp h]; exact Int.le_refl _
/-! ### the greatest rows to nine coins -/
def rUp (c : List Nat) : List Nat := (List.range (c.length + 1)).map fun p => (c.take p).sum
def rDn (c : List Nat) : List Nat := (List.range (c.length + 1)).map fun p => (c.drop p).sum
def okT : Nat → List Nat → Nat → Bool
  | 0, c, B => decide (c.sum ≤ B)
  | k + 1, c, B => okT k (rUp c) B && okT k (rDn c) B
/-! ### orders by falls -/
def eulN : Nat → List Nat
  | 0 => [1]
  | m + 1 => List.zipWith (· + ·) (((List.range (m + 1)).map fun f => (f + 1) * (eulN m).getD f 0) ++ [0]) (0 :: (List.range (m + 1)).map fun f => (m + 1 - f) * (eulN m).getD f 0)
theorem eulN_len : ∀ m, (eulN m).length = m + 1
  | 0 => rfl
  | m + 1 => by rw [eulN, List.length_zipWith]; simp
theorem sum_zip : ∀ (a b : List Nat), a.length = b.length → (List.zipWith (· + ·) a b).sum = a.sum + b.sum
  | [], [], _ => rfl
  | [], _ :: _, h => by simp at h
  | _ :: _, [], h => by simp at h
  | x :: a, y :: b, h => by
    rw [List.zipWith_cons_cons, List.sum_cons, List.sum_cons, List.sum_cons, sum_zip a b (by simpa using h)]
    omega
theorem range_getN (c : List Nat) : (List.range c.length).map (fun f => c.getD f 0) = c := by
  refine List.ext_getElem? fun j => ?_
  rw [List.getElem?_map]
  by_cases h : j < c.length
  · rw [List.getElem?_range h, List.getElem?_eq_getElem h]
    show some (c.getD j 0) = _
    rw [List.getD_eq_getElem?_getD, List.getElem?_eq_getElem h]; rfl
  · rw [List.getElem?_eq_none_iff.mpr (by rw [List.length_range]; omega), List.getElem?_eq_none_iff.mpr (by omega)]; rfl
theorem eulN_sum : ∀ m, (eulN m).sum = fac (m + 1)
  | 0 => rfl
  | m + 1 => by
    have ih := eulN_sum m
    have hl := eulN_len m
    rw [eulN, sum_zip _ _ (by simp), List.sum_append_nat, List.sum_cons]
    have go : ∀ L : List Nat, (∀ f ∈ L, f ≤ m) → (L.map fun f => (f + 1) * (eulN m).getD f 0).sum + (L.map fun f => (m + 1 - f) * (eulN m).getD f 0).sum = (m + 2) * (L.map fun f => (eulN m).getD f 0).sum := by
      intro L
      induction L with
      | nil => intro _; simp
      | cons f L ihL =>
        intro h
        have h1 := ihL fun g hg => h g (List.mem_cons_of_mem _ hg)
        have h2 := h f List.mem_cons_self
        rw [List.map_cons, List.sum_cons, List.map_cons, List.sum_cons, List.map_cons, List.sum_cons, Nat.mul_add, ← h1]
        have h3 : (f + 1) * (eulN m).getD f 0 + (m + 1 - f) * (eulN m).getD f 0 = (m + 2) * (eulN m).getD f 0 := by
          rw [← Nat.add_mul]; congr 1; omega
        omega
    have h1 := go (List.range (m + 1)) fun f hf => by have := List.mem_range.mp hf; omega
    have h2 : (List.range (m + 1)).map (fun f => (eulN m).getD f 0) = eulN m := by
      have := range_getN (eulN m)
      rwa [hl] at this
    rw [h2, ih] at h1
    have h3 : fac (m + 1 + 1) = (m + 2) * fac (m + 1) := rfl
    rw [h3, ← h1]
    simp
def cmbL (n : Nat) : List Nat := (List.range n).map fun f => combN (n - 1) f
end DL
/-! DP: counts over all layings of a web. -/
namespace DL
open PySem PySem.Spec PyProof.Rows L2
section
variable {n : Int} {es : List Edge}
def hdC (n : Int) (es : List Edge) (k : Nat) : Nat := ((clrM es n).filter fun h => decide ((bitsOf h).length = k)).length
theorem Tal.few {cs : List Int} {ks ys : List (Int × Int)} (T : Tal cs ks) (p2 : ys.Perm ks) : ys.length ≤ cs.length ∧ ∀ q ∈ ys, 0 ≤ q.2 ∧ q.2 ≤ (cs.length : Int) := by
  refine ⟨by rw [p2.length_eq]; exact T.len, fun q hq => ?_⟩
  rw [T.val q (p2.mem_iff.mp hq)]
  have := List.count_le_length (a := q.1) (l := cs)
  omega
end
end DL
/-! DP: orders by falls from both ends; a long row with one coin taken. -/
namespace DL
open PySem PySem.Spec PyProof.Rows L2
theorem zw_get (a b : List Nat) (i : Nat) : (List.zipWith (· + ·) a b).getD i 0 = if i < a.length ∧ i < b.length then a.getD i 0 + b.getD i 0 else 0 := by
  rw [List.getD_eq_getElem?_getD, List.getElem?_zipWith]
  by_cases h1 : i < a.length
  · by_cases h2 : i < b.length
    · rw [if_pos ⟨h1, h2⟩, List.getElem?_eq_getElem h1, List.getElem?_eq_getElem h2, List.getD_eq_getElem?_getD, List.getD_eq_getElem?_getD, List.getElem?_eq_getElem h1, List.getElem?_eq_getElem h2]
      rfl
    · rw [if_neg (fun z => h2 z.2), List.getElem?_eq_getElem h1, List.getElem?_eq_none_iff.mpr (by omega)]; rfl
  · rw [if_neg (fun z => h1 z.1), List.getElem?_eq_none_iff.mpr (show a.length ≤ i by omega)]; rfl
theorem mapr_get (f : Nat → Nat) (m i : Nat) : ((List.range m).map f).getD i 0 = if i < m then f i else 0 := by
  rw [List.getD_eq_getElem?_getD, List.getElem?_map]
  by_cases h : i < m
  · rw [if_pos h, List.getElem?_range h]; rfl
  · rw [if_neg h, List.getElem?_eq_none_iff.mpr (by rw [List.length_range]; omega)]; rfl
theorem eul_get (m i : Nat) (h : i ≤ m + 1) : (eulN (m + 1)).getD i 0 = (if i ≤ m then (i + 1) * (eulN m).getD i 0 else 0) + (if 0 < i then (m + 2 - i) * (eulN m).getD (i - 1) 0 else 0) := by
  rw [eulN, zw_get, if_pos ⟨by simp; omega, by simp; omega⟩]
  congr 1
  · rw [List.getD_eq_getElem?_getD]
    by_cases q : i ≤ m
    · rw [if_pos q, List.getElem?_append_left (by simp; omega), ← List.getD_eq_getElem?_getD, mapr_get, if_pos (by omega)]
    · rw [if_neg q, List.getElem?_append_right (by simp; omega)]
      have : i - ((List.range (m + 1)).map fun f => (f + 1) * (eulN m).getD f 0).length = 0 := by simp; omega
      rw [this]; rfl
  · cases i with
    | zero => simp
    | succ i =>
      rw [List.getD_cons_succ, mapr_get, if_pos (by omega), if_pos (by omega), Nat.add_sub_cancel]
      congr 1
      omega
theorem eul_sym : ∀ m i, i ≤ m → (eulN m).getD (m - i) 0 = (eulN m).getD i 0
  | 0, i, h => by
    have : i = 0 := by omega
    subst this; rfl
  | m + 1, i, h => by
    have ih := eul_sym m
    rw [eul_get m i h, eul_get m (m + 1 - i) (by omega)]
    by_cases h0 : 0 < i
    · by_cases h1 : i ≤ m
      · rw [if_pos (by omega), if_pos (by omega), if_pos h1, if_pos h0]
        have e1 := ih (i - 1) (by omega)
        have e2 := ih i h1
        rw [show m - (i - 1) = m + 1 - i by omega] at e1
        rw [e1, show m + 1 - i - 1 = m - i by omega, e2, show m + 1 - i + 1 = m + 2 - i by omega, show m + 2 - (m + 1 - i) = i + 1 by omega, Nat.add_comm]
      · have : i = m + 1 := by omega
        subst this
        rw [if_pos (by omega), if_neg (by omega), if_neg (by omega), if_pos (by omega), Nat.sub_self]
        have e1 := ih m (Nat.le_refl m)
        rw [Nat.sub_self] at e1
        rw [e1, Nat.add_sub_cancel]
        simp
    · have : i = 0 := by omega
      subst this
      rw [if_neg (by omega), if_pos (by omega), if_pos (by omega), if_neg (by omega)]
      have e1 := ih 0 (Nat.zero_le m)
      rw [Nat.sub_zero] at e1
      rw [Nat.sub_zero, Nat.add_sub_cancel, e1]
      simp
theorem pal {c : List Nat} (h : ∀ i, i < c.length → c.getD (c.length - 1 - i) 0 = c.getD i 0) : c.reverse = c := by
  refine List.ext_getElem? fun i => ?_
  by_cases hi : i < c.length
  · rw [List.getElem?_reverse hi, List.getElem?_eq_getElem (by omega), List.getElem?_eq_getElem hi]
    have := h i hi
    rw [List.getD_eq_getElem?_getD, List.getD_eq_getElem?_getD, List.getElem?_eq_getElem (by omega), List.getElem?_eq_getElem hi] at this
    exact congrArg some this
  · rw [List.getElem?_eq_none_iff.mpr (by rw [List.length_reverse]; omega), List.getElem?_eq_none_iff.mpr (by omega)]
theorem eul_pal (m : Nat) : (eulN m).reverse = eulN m := pal fun i hi => by
  rw [eulN_len] at hi ⊢
  rw [Nat.add_sub_cancel]
  exact eul_sym m i (by omega)
theorem eul_zero : ∀ m, (eulN m).getD 0 0 = 1
  | 0 => rfl
  | m + 1 => by rw [eul_get m 0 (Nat.zero_le _), eul_zero m]; simp
theorem cmb_pal (n : Nat) : (cmbL n).reverse = cmbL n := pal fun i hi => by
  have hl : (cmbL n).length = n := by unfold cmbL; simp
  rw [hl] at hi ⊢
  unfold cmbL
  rw [mapr_get, mapr_get, if_pos (by omega), if_pos hi]
  unfold combN
  rw [if_pos (by omega), if_pos (by omega), mixN_comm]
  congr 1
  omega
/-! ### falls of all small rows -/
def chs : Nat → Nat → Nat
  | _, 0 => 1
  | 0, _ + 1 => 0
  | n + 1, k + 1 => chs n k + chs n (k + 1)
theorem comb_chs : ∀ n k, combN n k = chs n k
  | n, 0 => by
    unfold combN
    rw [if_pos (Nat.zero_le _), mixN_zero']
    cases n <;> rfl
  | 0, k + 1 => by
    unfold combN
    rw [if_neg (by omega)]; rfl
  | n + 1, k + 1 => by
    rw [chs, ← comb_chs n k, ← comb_chs n (k + 1)]
    unfold combN
    by_cases h : k + 1 ≤ n + 1
    · rw [if_pos h, if_pos (by omega)]
      by_cases h2 : k + 1 ≤ n
      · rw [if_pos h2]
        have := mixN_succ k (n - k - 1)
        rw [show n - k - 1 + 1 = n - k by omega] at this
        rw [show n + 1 - (k + 1) = n - k by omega, this, show n - (k + 1) = n - k - 1 by omega]
      · rw [if_neg h2]
        have : k = n := by omega
        subst this
        rw [Nat.sub_self, Nat.sub_self, mixN_zero, mixN_zero]
    · rw [if_neg h, if_neg (by omega), if_neg (by omega)]
def fallB (f : Nat) (l : List Int) : Bool := decide (l.sum % 2 = 1) && decide ((evF l).length = f)
def ordF (L : List (List Int)) (f : Nat) : Nat := ((L.filter (fallB f)).map rcL).sum
def cntF (L : List (List Int)) (f : Nat) : Nat := (L.filter (fallB f)).length
theorem falls_all : ∀ m : Fin 8, m.val = 0 ∨ ((List.range m.val).map (ordF (lays m.val)) = eulN (m.val - 1) ∧ (List.range m.val).map (cntF (lays m.val)) = (List.range m.val).map (chs (m.val - 1)) ∧ (lays m.val).all (fun l => decide (l.sum % 2 = 0) || decide ((evF l).length < m.val)) = true) := by decide +kernel
theorem falls_small {m : Nat} (h1 : 1 ≤ m) (h7 : m ≤ 7) : (List.range m).map (ordF (lays m)) = eulN (m - 1) ∧ (List.range m).map (cntF (lays m)) = cmbL m ∧ ∀ l ∈ lays m, l.sum % 2 = 1 → (evF l).length < m := by
  obtain ⟨a, b, c⟩ := (falls_all ⟨m, by omega⟩).resolve_left (by show m ≠ 0; omega)
  refine ⟨a, ?_, fun l hl ho => ?_⟩
  · rw [show (List.range m).map (cntF (lays m)) = (List.range m).map (chs (m - 1)) from b]
    unfold cmbL
    exact List.map_congr_left fun k _ => (comb_chs _ _).symm
  · have := List.all_eq_true.mp c l hl
    rw [Bool.or_eq_true, decide_eq_true_eq, decide_eq_true_eq] at this
    rcases this with h | h
    · omega
    · exact h
/-! ### a long row with one coin taken -/
def mkP (t j : Nat) : Nat := (if 0 < j ∧ j ≤ t then 2 ^ (j - 1) else 0) ||| (if j < t then 2 ^ (j + 1) else 0)
theorem mkP_zero (j : Nat) : mkP 0 j = 0 := by
  unfold mkP
  rw [if_neg (by omega), if_neg (by omega)]; rfl
theorem mkP_low (t : Nat) : mkP t t ||| 2 ^ (t + 1) = mkP (t + 1) t := by
  unfold mkP
  rw [if_neg (show ¬ t < t by omega), if_pos (show t < t + 1 by omega)]
  by_cases h : 0 < t
  · rw [if_pos ⟨h, Nat.le_refl t⟩, if_pos ⟨h, by omega⟩, Nat.or_zero]
  · rw [if_neg (fun z => h z.1), if_neg (fun z => h z.1), Nat.or_zero]
theorem mkP_high (t : Nat) : mkP t (t + 1) ||| 2 ^ t = mkP (t + 1) (t + 1) := by
  unfold mkP
  rw [if_neg (show ¬ (0 < t + 1 ∧ t + 1 ≤ t) by omega), if_neg (show ¬ t + 1 < t by omega), if_pos ⟨by omega, Nat.le_refl _⟩, if_neg (show ¬ t + 1 < t + 1 by omega), Nat.or_zero, Nat.zero_or, Nat.or_zero, Nat.add_sub_cancel]
theorem mkP_other {t j : Nat} (h1 : j ≠ t) (h2 : j ≠ t + 1) : mkP (t + 1) j = mkP t j := by
  unfold mkP
  by_cases a : 0 < j ∧ j ≤ t
  · rw [if_pos a, if_pos ⟨a.1, by omega⟩, if_pos (show j < t + 1 by omega), if_pos (show j < t by omega)]
  · rw [if_neg a, if_neg (show ¬ (0 < j ∧ j ≤ t + 1) by omega)]
    by_cases b : j < t
    · rw [if_pos b, if_pos (by omega)]
    · rw [if_neg b, if_neg (by omega)]
theorem mkP_lt {m j : Nat} (hj : j ≤ m) (hm : m ≤ 39) : mkP m j < 2 ^ 41 := by
  unfold mkP
  refine Nat.or_lt_two_pow ?_ ?_
  · split
    · exact Nat.pow_lt_pow_right (by decide) (by omega)
    · decide
  · split
    · exact Nat.pow_lt_pow_right (by decide) (by omega)
    · decide
theorem mem_mkP {m j : Nat} (hj : j ≤ m) {x : Int} : x ∈ bitsOf (mkP m j) ↔ (0 < j ∧ x = (j : Int) - 1) ∨ (j < m ∧ x = (j : Int) + 1) := by
  rw [mem_bitsOf]
  unfold mkP
  rw [Nat.testBit_or, Bool.or_eq_true]
  have a : (if 0 < j ∧ j ≤ m then 2 ^ (j - 1) else 0 : Nat).testBit x.toNat = true ↔ 0 < j ∧ x.toNat = j - 1 := by
    by_cases h : 0 < j
    · rw [if_pos ⟨h, hj⟩, Nat.testBit_two_pow, decide_eq_true_eq]
      exact ⟨fun e => ⟨h, e.symm⟩, fun e => e.2.symm⟩
    · rw [if_neg (fun z => h z.1), Nat.zero_testBit]
      exact ⟨fun z => (nomatch z), fun z => absurd z.1 h⟩
  have b : (if j < m then 2 ^ (j + 1) else 0 : Nat).testBit x.toNat = true ↔ j < m ∧ x.toNat = j + 1 := by
    by_cases h : j < m
    · rw [if_pos h, Nat.testBit_two_pow, decide_eq_true_eq]
      exact ⟨fun e => ⟨h, e.symm⟩, fun e => e.2.symm⟩
    · rw [if_neg h, Nat.zero_testBit]
      exact ⟨fun z => (nomatch z), fun z => absurd z.1 h⟩
  rw [a, b]
  omega
def behD (ls : List Int) (k : Nat) (D : List Int) : List PyData := (List.range ls.length).map fun i => if i = k then .none else .int (if (i : Int) ∈ D then 1 - ls.getD i 0 else ls.getD i 0)
theorem behD_start {ls : List Int} {k : Nat} (hk : k < ls.length) : (ls.map PyData.int).set k .none = behD ls k [] := by
  unfold behD
  refine List.ext_getElem? fun i => ?_
  rw [List.getElem?_set, List.length_map, List.getElem?_map, List.getElem?_map]
  by_cases hi : i < ls.length
  · rw [List.getElem?_range hi, List.getElem?_eq_getElem hi]
    by_cases e : k = i
    · subst e
      rw [if_pos rfl, if_pos hi]
      show _ = some (if k = k then PyData.none else _)
      rw [if_pos rfl]
    · rw [if_neg e]
      show some (PyData.int ls[i]) = some (if i = k then PyData.none else PyData.int (if (i : Int) ∈ ([] : List Int) then 1 - ls.getD i 0 else ls.getD i 0))
      rw [if_neg (fun z => e z.symm), if_neg (by simp), List.getD_eq_getElem?_getD, List.getElem?_eq_getElem hi]; rfl
  · rw [List.getElem?_eq_none_iff.mpr (show (List.range ls.length).length ≤ i by rw [List.length_range]; omega), List.getElem?_eq_none_iff.mpr (show ls.length ≤ i by omega)]
    by_cases e : k = i
    · omega
    · rw [if_neg e]; rfl
theorem behD_len (ls : List Int) (k : Nat) (D : List Int) : (behD ls k D).length = ls.length := by unfold behD; simp
theorem behD_get {ls : List Int} {k : Nat} {D : List Int} {i : Nat} (hi : i < ls.length) : (behD ls k D)[i]? = some (if i = k then .none else .int (if (i : Int) ∈ D then 1 - ls.getD i 0 else ls.getD i 0)) := by
  unfold behD
  rw [List.getElem?_map, List.getElem?_range hi]; rfl
theorem behD_step {ls : List Int} {k x : Nat} {D : List Int} (hx : x < ls.length) (hxk : x ≠ k) : (behD ls k D).set x (.int (1 - ls.getD x 0)) = behD ls k (D ++ [(x : Int)]) := by
  refine List.ext_getElem? fun i => ?_
  rw [List.getElem?_set, behD_len]
  by_cases hi : i < ls.length
  · rw [behD_get hi, behD_get hi]
    by_cases e : x = i
    · subst e
      rw [if_pos rfl, if_pos hi, if_neg hxk, if_pos (by simp)]
    · rw [if_neg e]
      have : ((i : Int) ∈ D ++ [(x : Int)]) ↔ (i : Int) ∈ D := by
        rw [List.mem_append, List.mem_singleton]
        exact ⟨fun z => z.resolve_right (by omega), .inl⟩
      by_cases q : (i : Int) ∈ D
      · rw [if_pos q, if_pos (this.mpr q)]
      · rw [if_neg q, if_neg (fun z => q (this.mp z))]
  · rw [List.getElem?_eq_none_iff.mpr (by rw [behD_len]; omega), List.getElem?_eq_none_iff.mpr (by rw [behD_len]; omega)]
    by_cases e : x = i
    · omega
    · rw [if_neg e]
theorem behD_left {ls : List Int} {k : Nat} (hk : k < ls.length) : (behD ls k (bitsOf (mkP (ls.length - 1) k))).take k = (lfL ls k).map .int := by
  refine List.ext_getElem? fun i => ?_
  rw [List.getElem?_take, List.getElem?_map]
  by_cases hi : i < k
  · rw [if_pos hi, behD_get (by omega), if_neg (by omega)]
    unfold lfL
    rw [List.getElem?_set, List.length_take, List.getElem?_take, if_pos hi]
    by_cases e : k - 1 = i
    · rw [if_pos ((mem_mkP (show k ≤ ls.length - 1 by omega)).mpr (.inl ⟨by omega, by omega⟩)), if_pos e, if_pos (by omega)]
      have : (ls.take k).getD (k - 1) 0 = ls.getD i 0 := by
        rw [List.getD_eq_getElem?_getD, List.getElem?_take, if_pos (by omega), e, ← List.getD_eq_getElem?_getD]
      rw [this]; rfl
    · rw [if_neg (show ¬ (i : Int) ∈ bitsOf (mkP (ls.length - 1) k) from fun z => by rcases (mem_mkP (show k ≤ ls.length - 1 by omega)).mp z with ⟨_, z⟩ | ⟨_, z⟩ <;> omega), if_neg e, List.getElem?_eq_getElem (show i < ls.length by omega), List.getD_eq_getElem?_getD, List.getElem?_eq_getElem (show i < ls.length by omega)]
      rfl
  · rw [if_neg hi, List.getElem?_eq_none_iff.mpr (by unfold lfL; rw [List.length_set, List.length_take]; omega)]; rfl
theorem behD_right {ls : List Int} {k : Nat} (hk : k < ls.length) : (behD ls k (bitsOf (mkP (ls.length - 1) k))).drop (k + 1) = (rtL ls k).map .int := by
  refine List.ext_getElem? fun i => ?_
  rw [List.getElem?_drop, List.getElem?_map]
  by_cases hi : k + 1 + i < ls.length
  · rw [behD_get hi, if_neg (by omega)]
    unfold rtL
    rw [List.getElem?_set, List.length_drop, List.getElem?_drop]
    by_cases e : 0 = i
    · subst e
      rw [if_pos ((mem_mkP (show k ≤ ls.length - 1 by omega)).mpr (.inr ⟨by omega, by omega⟩)), if_pos rfl, if_pos (by omega)]
      have : (ls.drop (k + 1)).getD 0 0 = ls.getD (k + 1 + 0) 0 := by
        rw [List.getD_eq_getElem?_getD, List.getElem?_drop, ← List.getD_eq_getElem?_getD]
      rw [this]; rfl
    · rw [if_neg (show ¬ ((k + 1 + i : Nat) : Int) ∈ bitsOf (mkP (ls.length - 1) k) from fun z => by rcases (mem_mkP (show k ≤ ls.length - 1 by omega)).mp z with ⟨_, z⟩ | ⟨_, z⟩ <;> omega), if_neg e, List.getElem?_eq_getElem hi, List.getD_eq_getElem?_getD, List.getElem?_eq_getElem hi]
      rfl
  · rw [List.getElem?_eq_none_iff.mpr (by rw [behD_len]; omega), List.getElem?_eq_none_iff.mpr (by unfold rtL; rw [List.length_set, List.length_drop]; omega)]; rfl
end DL
/-! DP: rings of coins. -/
namespace DL
open PySem PySem.Spec PyProof.Rows L2
/-! ### counts do not see names -/
/-! ### the ring's web -/
def ringE (n : Nat) : List Edge := (0, 1) :: (0, (n : Int) - 1) :: (pathE (n - 1)).drop 1
def okRing (n : Nat) : Bool := (ringE n).all (fun p => decide (0 ≤ p.1 ∧ p.1 < p.2 ∧ p.2 < (n : Int))) && decide ((ringE n).Pairwise fun a b => a.1 < b.1 ∨ (a.1 = b.1 ∧ a.2 < b.2)) && (List.range n).all (fun k => (List.range (n - 1)).all fun i => adj (ringE n) (k : Int) (((k + 1 + i) % n : Nat) : Int) == (decide (i = 0) || decide (i = n - 2)) && (List.range (n - 1)).all fun j => adj (ringE n) (((k + 1 + i) % n : Nat) : Int) (((k + 1 + j) % n : Nat) : Int) == adj (pathE (n - 2)) (i : Int) (j : Int))
/-- a ring opened at a head -/
def opF (n : Nat) (g : Nat → Int) (k : Nat) : List Int := (List.range (n - 1)).map fun i => if i = 0 ∨ i = n - 2 then 1 - g ((k + 1 + i) % n) else g ((k + 1 + i) % n)
def rgF (r : List Int) (i : Nat) : Int := r.getD i 0
def ringN (r : List Int) : Nat := (((List.range r.length).filter fun k => decide (rgF r k = 1)).map fun k => rcL (opF r.length (rgF r) k)).sum
theorem heads_rg {n : Int} {r : List Int} (F : Full n r) : headsL r = ((List.range r.length).filter fun k => decide (rgF r k = 1)).map fun (k : Nat) => (k : Int) := by
  unfold headsL
  congr 1
  refine List.filter_congr fun k hk => ?_
  have := List.mem_range.mp hk
  refine decide_eq_decide.mpr ?_
  unfold rgF
  rw [List.getD_eq_getElem?_getD, List.getElem?_eq_getElem this]
  simp
end DL
/-! DP: rings turned, from the other side, opened by hand. -/
namespace DL
open PySem PySem.Spec PyProof.Rows L2
section
variable {n : Nat} {r : List Int} {k : Nat}
def bsL (r : List Int) (k : Nat) : List Int := r.drop (k + 1) ++ r.take k
theorem rgF_at {i : Nat} (h : i < r.length) : r[i]? = some (rgF r i) := by
  unfold rgF
  rw [List.getD_eq_getElem?_getD, List.getElem?_eq_getElem h]; rfl
end
end DL
namespace DL
open PySem PySem.Spec PyProof.Rows L2
def topS (i : Nat) : Stmt := PySem.Challenge.pw_cointakes_k63_whole_orders_by_falls.main.body.getD i (.Pass ⟨0, 0, 0, 0⟩)
abbrev s_is_integer : Stmt := topS 9
theorem sc_is_integer : FnScope ["value"] ["value"] (defScope s_is_integer) := ⟨rfl, rfl, rfl, by decide +kernel, rfl, by decide +kernel, by decide +kernel⟩
abbrev s_is_between : Stmt := topS 10
theorem sc_is_between : FnScope ["value", "low", "high"] ["value", "low", "high"] (defScope s_is_between) := ⟨rfl, rfl, rfl, by decide +kernel, rfl, by decide +kernel, by decide +kernel⟩
abbrev s_is_tuple_of : Stmt := topS 11
theorem sc_is_tuple_of : FnScope ["value", "many"] ["value", "many"] (defScope s_is_tuple_of) := ⟨rfl, rfl, rfl, by decide +kernel, rfl, by decide +kernel, by decide +kernel⟩
abbrev s_is_bits : Stmt := topS 12
theorem sc_is_bits : FnScope ["value", "many", "item"] ["value", "many"] (defScope s_is_bits) := ⟨rfl, rfl, rfl, by decide +kernel, rfl, by decide +kernel, by decide +kernel⟩
abbrev s_is_coins : Stmt := topS 13
theorem sc_is_coins : FnScope ["value", "low", "high"] ["value", "low", "high"] (defScope s_is_coins) := ⟨rfl, rfl, rfl, by decide +kernel, rfl, by decide +kernel, by decide +kernel⟩
abbrev s_check_row : Stmt := topS 14
theorem sc_check_row : FnScope ["row"] ["row"] (defScope s_check_row) := ⟨rfl, rfl, rfl, by decide +kernel, rfl, by decide +kernel, by decide +kernel⟩
abbrev s_check_head : Stmt := topS 15
theorem sc_check_head : FnScope ["coins", "place"] ["coins", "place"] (defScope s_check_head) := ⟨rfl, rfl, rfl, by decide +kernel, rfl, by decide +kernel, by decide +kernel⟩
abbrev s_check_count : Stmt := topS 16
theorem sc_check_count : FnScope ["many", "most"] ["many", "most"] (defScope s_check_count) := ⟨rfl, rfl, rfl, by decide +kernel, rfl, by decide +kernel, by decide +kernel⟩
abbrev s_places_in : Stmt := topS 18
theorem sc_places_in : FnScope ["mask", "place"] ["mask"] (defScope s_places_in) := ⟨rfl, rfl, rfl, by decide +kernel, rfl, by decide +kernel, by decide +kernel⟩
abbrev s_near_masks : Stmt := topS 19
theorem sc_near_masks : FnScope ["web", "many", "edges", "near", "low", "high"] ["web"] (defScope s_near_masks) := ⟨rfl, rfl, rfl, by decide +kernel, rfl, by decide +kernel, by decide +kernel⟩
abbrev s_lying_behind : Stmt := topS 21
theorem sc_lying_behind : FnScope ["near", "laying", "place", "coins", "other"] ["near", "laying", "place"] (defScope s_lying_behind) := ⟨rfl, rfl, rfl, by decide +kernel, rfl, by decide +kernel, by decide +kernel⟩
abbrev s_line_of : Stmt := topS 23
theorem sc_line_of : FnScope ["many", "place"] ["many"] (defScope s_line_of) := ⟨rfl, rfl, rfl, by decide +kernel, rfl, by decide +kernel, by decide +kernel⟩
abbrev s_row_falls : Stmt := topS 24
theorem sc_row_falls : FnScope ["row", "sums", "place", "many"] ["row"] (defScope s_row_falls) := ⟨rfl, rfl, rfl, by decide +kernel, rfl, by decide +kernel, by decide +kernel⟩
abbrev s_row_count : Stmt := topS 25
theorem sc_row_count : FnScope ["row", "falls", "counts", "place", "before", "many"] ["row"] (defScope s_row_count) := ⟨rfl, rfl, rfl, by decide +kernel, rfl, by decide +kernel, by decide +kernel⟩
abbrev s_orders_by_falls : Stmt := topS 27
theorem sc_orders_by_falls : FnScope ["many", "counts", "size", "kept", "falls", "count", "more", "one", "other"] ["many"] (defScope s_orders_by_falls) := ⟨rfl, rfl, rfl, by decide +kernel, rfl, by decide +kernel, by decide +kernel⟩
abbrev s_rows_by_falls : Stmt := topS 28
theorem sc_rows_by_falls : FnScope ["many", "falls"] ["many"] (defScope s_rows_by_falls) := ⟨rfl, rfl, rfl, by decide +kernel, rfl, by decide +kernel, by decide +kernel⟩
abbrev s_row_mirrored : Stmt := topS 29
theorem sc_row_mirrored : FnScope ["row"] ["row"] (defScope s_row_mirrored) := ⟨rfl, rfl, rfl, by decide +kernel, rfl, by decide +kernel, by decide +kernel⟩
abbrev s_row_turned : Stmt := topS 30
theorem sc_row_turned : FnScope ["row", "place", "behind"] ["row", "place"] (defScope s_row_turned) := ⟨rfl, rfl, rfl, by decide +kernel, rfl, by decide +kernel, by decide +kernel⟩
abbrev s__law_taken : Stmt := topS 32
theorem sc__law_taken : FnScope ["row", "many", "found", "cell"] ["row", "many"] (defScope s__law_taken) := ⟨rfl, rfl, rfl, by decide +kernel, rfl, by decide +kernel, by decide +kernel⟩
abbrev s__law_layings : Stmt := topS 33
theorem sc__law_layings : FnScope ["many", "found", "k", "more", "one"] ["many"] (defScope s__law_layings) := ⟨rfl, rfl, rfl, by decide +kernel, rfl, by decide +kernel, by decide +kernel⟩
abbrev s__law_alike : Stmt := topS 34
theorem sc__law_alike : FnScope ["found", "due", "k"] ["found", "due"] (defScope s__law_alike) := ⟨rfl, rfl, rfl, by decide +kernel, rfl, by decide +kernel, by decide +kernel⟩
abbrev s__law_heads : Stmt := topS 35
theorem sc__law_heads : FnScope ["laying", "k"] ["laying"] (defScope s__law_heads) := ⟨rfl, rfl, rfl, by decide +kernel, rfl, by decide +kernel, by decide +kernel⟩
abbrev s__law_pick : Stmt := topS 36
theorem sc__law_pick : FnScope ["row", "things"] ["row", "things"] (defScope s__law_pick) := ⟨rfl, rfl, rfl, by decide +kernel, rfl, by decide +kernel, by decide +kernel⟩
abbrev s_law : Stmt := topS 37
theorem sc_law : FnScope ["script", "row", "many", "orders", "rows", "coins", "falls", "size", "whole", "k", "told", "some", "place", "left", "right"] ["script"] (defScope s_law) := ⟨rfl, rfl, rfl, by decide +kernel, rfl, by decide +kernel, by decide +kernel⟩
/-- what the top leaves: the defs, the constants, which built-ins are still themselves -/
structure Top (K : PySem.W.Frag) (mg : Str → Option Value) : Prop where
  b_all : mg "all" = none
  b_bool : mg "bool" = none
  b_enumerate : mg "enumerate" = none
  b_int : mg "int" = none
  b_isinstance : mg "isinstance" = none
  b_len : mg "len" = none
  b_list : mg "list" = none
  b_range : mg "range" = none
  b_str : mg "str" = none
  b_sum : mg "sum" = none
  b_tuple : mg "tuple" = none
  b_zip : mg "zip" = none
  g_accumulate : mg "accumulate" = some (.type "itertools.accumulate")
  g_comb : mg "comb" = some (.builtin "math.comb")
  c_MOST_IN_ROW : ∃ u, mg "MOST_IN_ROW" = some u ∧ RelV (.int 40) u
  d_is_integer : Def K mg "is_integer" s_is_integer ["value"]
  d_is_between : Def K mg "is_between" s_is_between ["value", "low", "high"]
  d_is_tuple_of : Def K mg "is_tuple_of" s_is_tuple_of ["value", "many"]
  d_is_bits : Def K mg "is_bits" s_is_bits ["value", "many"]
  d_is_coins : Def K mg "is_coins" s_is_coins ["value", "low", "high"]
  d_check_row : Def K mg "check_row" s_check_row ["row"]
  d_check_head : Def K mg "check_head" s_check_head ["coins", "place"]
  d_check_count : Def K mg "check_count" s_check_count ["many", "most"]
  d_places_in : Def K mg "places_in" s_places_in ["mask"]
  d_near_masks : Def K mg "near_masks" s_near_masks ["web"]
  d_lying_behind : Def K mg "lying_behind" s_lying_behind ["near", "laying", "place"]
  d_line_of : Def K mg "line_of" s_line_of ["many"]
  d_row_falls : Def K mg "row_falls" s_row_falls ["row"]
  d_row_count : Def K mg "row_count" s_row_count ["row"]
  d_orders_by_falls : Def K mg "orders_by_falls" s_orders_by_falls ["many"]
  d_rows_by_falls : Def K mg "rows_by_falls" s_rows_by_falls ["many"]
  d_row_mirrored : Def K mg "row_mirrored" s_row_mirrored ["row"]
  d_row_turned : Def K mg "row_turned" s_row_turned ["row", "place"]
  d__law_taken : Def K mg "_law_taken" s__law_taken ["row", "many"]
  d__law_layings : Def K mg "_law_layings" s__law_layings ["many"]
  d__law_alike : Def K mg "_law_alike" s__law_alike ["found", "due"]
  d__law_heads : Def K mg "_law_heads" s__law_heads ["laying"]
  d__law_pick : Def K mg "_law_pick" s__law_pick ["row", "things"]
def sd_is_between : SD := fun ds q => ∃ d lo hi, ds = [d, .int lo, .int hi] ∧ q (.bool (betw d lo hi))
def sd_is_tuple_of : SD := fun ds q => ∃ d n, ds = [d, .int n] ∧ q (.bool (tupOf d n))
def sd_places_in : SD := fun ds q => ∃ m : Nat, ds = [.int m] ∧ m < 2 ^ 41 ∧ q (.list ((bitsOf m).map .int))
def sd_near_masks : SD := fun ds q => ∃ n : Nat, ds = [wD n (pathE (n - 1))] ∧ 1 ≤ n ∧ n ≤ 40 ∧ q (.list ((List.range n).map fun j => PyData.int ((mkP (n - 1) j : Nat) : Int)))
def sd_lying_behind : SD := fun ds q => ∃ (n k : Nat) (ls : List Int), ds = [.list ((List.range n).map fun j => PyData.int ((mkP (n - 1) j : Nat) : Int)), lD ls, .int k] ∧ Full (n : Int) ls ∧ n ≤ 40 ∧ k < n ∧ q (.tuple (behD ls k (bitsOf (mkP (n - 1) k))))
def sd__law_taken : SD := fun ds q => ∃ n : Int, ds = [.int n] ∧ 0 < n ∧ n < 1073741824 ∧ ∀ k : Int, 0 ≤ k → k < n → q (.int k)
def sd__law_pick : SD := fun ds q => ∃ xs, (ds = [.list xs] ∨ ds = [.tuple xs]) ∧ 0 < xs.length ∧ xs.length < 1073741824 ∧ ∀ x ∈ xs, q x
def sd__law_alike1 : SD := fun ds q => ∃ d, ds = [d, d] ∧ flatD d ∧ q (.bool true)
def sd__law_alike2 : SD := fun ds q => ∃ d, ds = [d, d] ∧ (flatD d ∨ ∃ xs : List PyData, d = .tuple xs ∧ xs.length < 1000 ∧ ∀ x ∈ xs, flatD x) ∧ q (.bool true)
def sd__law_heads : SD := fun ds q => ∃ ls : List Int, (ds = [lD ls] ∨ ds = [.list (List.map PyData.int ls)]) ∧ ls.length < 1000 ∧ q (.list ((headsL ls).map .int))
def sd_is_integer : SD := fun ds q => ∃ d, ds = [d] ∧ q (.bool (isIntD d))
def sd__law_alike3 : SD := fun ds q => ∃ d, ds = [d, d] ∧ (flatD d ∨ ∃ xs : List PyData, d = .tuple xs ∧ xs.length < 1000 ∧ ∀ x ∈ xs, (flatD x ∨ ∃ ys : List PyData, x = .tuple ys ∧ ys.length < 1000 ∧ ∀ y ∈ ys, flatD y)) ∧ q (.bool true)
def sd_is_bits : SD := fun ds q => ∃ (n : Int) (ts : List Int), ds = [lD ts, .int n] ∧ Full n ts ∧ n ≤ 40 ∧ q (.bool true)
def sd__law_layings : SD := fun ds q => ∃ n : Int, ds = [.int n] ∧ 0 ≤ n ∧ n ≤ 9 ∧ q (.list ((lays n.toNat).map lD))
def sd_check_count : SD := fun ds q => ∃ n m : Int, ds = [.int n, .int m] ∧ 1 ≤ n ∧ n ≤ m ∧ q .none
def sd_is_coins : SD := fun ds q => ∃ (n lo hi : Int) (ls : List Int), ds = [lD ls, .int lo, .int hi] ∧ Full n ls ∧ lo ≤ n ∧ n ≤ hi ∧ n ≤ 40 ∧ q (.bool true)
def sd_check_row : SD := fun ds q => ∃ (n : Int) (ls : List Int), ds = [lD ls] ∧ Full n ls ∧ 1 ≤ n ∧ n ≤ 40 ∧ q .none
def sd_row_falls : SD := fun ds q => ∃ (n : Int) (ls : List Int), ds = [lD ls] ∧ Full n ls ∧ 1 ≤ n ∧ n ≤ 40 ∧ q (if ls.sum % 2 = 0 then .none else tI (evF ls))
def sd_row_count : SD := fun ds q => ∃ (n : Int) (ls : List Int), ds = [lD ls] ∧ Full n ls ∧ 1 ≤ n ∧ n ≤ 40 ∧ q (.int (rcL ls : Nat))
def sd_orders_by_falls : SD := fun ds q => ∃ n : Nat, ds = [.int n] ∧ 1 ≤ n ∧ n ≤ 40 ∧ q (tI (nI (eulN (n - 1))))
def sd_rows_by_falls : SD := fun ds q => ∃ n : Nat, ds = [.int n] ∧ 1 ≤ n ∧ n ≤ 40 ∧ q (tI (nI (cmbL n)))
def sd_check_head : SD := fun ds q => ∃ (n : Int) (ls : List Int) (k : Nat), ds = [lD ls, .int k] ∧ Full n ls ∧ n ≤ 40 ∧ (k : Int) < n ∧ rgF ls k = 1 ∧ q .none
def sd_line_of : SD := fun ds q => ∃ n : Nat, ds = [.int n] ∧ 1 ≤ n ∧ n ≤ 40 ∧ q (wD n (pathE (n - 1)))
def sd_row_turned : SD := fun ds q => ∃ (n k : Nat) (ls : List Int), ds = [lD ls, .int k] ∧ Full (n : Int) ls ∧ n ≤ 40 ∧ k < n ∧ rgF ls k = 1 ∧ q (.tuple [lD (lfL ls k), lD (rtL ls k)])
def sd_row_mirrored : SD := fun ds q => ∃ (n : Nat) (ls : List Int), ds = [lD ls] ∧ Full (n : Int) ls ∧ 1 ≤ n ∧ n ≤ 40 ∧ q (lD ls.reverse)
section
variable {P : Program} {w : World} {K : PySem.W.Frag} {mg : Str → Option Value} {base : Heap}
theorem fn_is_integer (T : Top K mg) : Fn P w K mg base 1 "is_integer" (spD K 1 sd_is_integer) := by
  refine defD T.d_is_integer sc_is_integer (by decide) (fun f cdv A outer s H E hr => (dss_one (ds_ret (de_and (de_isi (T := "int") (by decide) rfl T.b_isinstance rfl T.b_int (by decide +kernel) (dbv 0)) (de_one (de_not (de_isi (T := "bool") (by decide) rfl T.b_isinstance rfl T.b_bool (by decide +kernel) (dbv 0)))))))) ?_
  rintro ds q hl ⟨d, rfl, hq⟩
  simp only [tdSeq, tdIfS, tdRet, tdRetN, tdNext, tdNever, tdDrop, tdBreak, tdCont, tdSet, tdOwn, tdAsg, tdAppend, tdExtend, tdPop, tdAug, tdAugSub, tdPar, tdParOO, tdParSO, tdAsgSOS, tdParSD, tdPutT, tdSortKeys, tdFor, tdLc, tdYes, gdName, gdNil, gdCons, gdTup, gdSub, tdSh, tdLent, tdC, td1, td2, tf1, tdB, tdAnd, tdOr, tdNot, tdAndV, tdOrV, tdNotV, tdIf, tdNil, tdCons, tdTup, tdLst, tdChain, tdIxB, tdRep, tdCat, tdCall, tdCallR, tiL, tiT, tiR1, tiR2, rI, rI0, rU, rLen, rInts, rBools, rInt, rTuple, rList, rIxD, nn_none, nn_int, nn_tup, noOwn, wipeD, Slot.addr, truD, List.getElem?_cons_zero, List.getElem?_cons_succ, List.set_cons_zero, List.set_cons_succ, List.map_cons, List.map_nil, List.length_cons, List.length_nil, List.cons_append, List.nil_append, List.replicate, Nat.sub_self, Nat.zero_add, Nat.add_one_sub_one, Nat.reduceAdd, Nat.reduceSub, Nat.succ_sub_succ_eq_sub, Nat.sub_zero, List.all_cons, List.all_nil, Option.isNone_none, Bool.and_self, Bool.and_true, List.reduceReplicate, true_and, and_true, wD, bD, lD, pD, if_true, if_false, Bool.not_true, Bool.not_false, Bool.false_eq_true]
  cases d <;> simp only [ii, ib, it, il, is', ti, tb, tt, tl, ts', li, lb, lt', ll, ls', ni, nb, nt, nl, ns', bi, bb, bt, bl', bs, si, sb, st', sl, ss, di, db, dt, dl, ds', if_true, if_false, Bool.not_true, Bool.not_false, Bool.false_eq_true, Bool.or_self, Bool.or_true, Bool.true_or, Bool.or_false, Bool.false_or] <;> exact hq
theorem fn_is_between (T : Top K mg) (F_is_integer : Fn P w K mg base 1 "is_integer" (spD K 1 sd_is_integer)) : Fn P w K mg base 2 "is_between" (spD K 3 sd_is_between) := by
  refine defD T.d_is_between sc_is_between (by decide) (fun f cdv A outer s H E hr => (dss_one (ds_ret (de_and (dcall F_is_integer hr (da_cons (dv 0) da_nil)) (de_one (de_chain l_le l_le (dv 1) (dv 0) (dv 2))))))) ?_
  rintro ds q hl ⟨d, lo, hi, rfl, hq⟩
  simp only [tdSeq, tdIfS, tdRet, tdRetN, tdNext, tdNever, tdDrop, tdBreak, tdCont, tdSet, tdOwn, tdAsg, tdAppend, tdExtend, tdPop, tdAug, tdAugSub, tdPar, tdParOO, tdParSO, tdAsgSOS, tdParSD, tdPutT, tdSortKeys, tdFor, tdLc, tdYes, gdName, gdNil, gdCons, gdTup, gdSub, tdSh, tdLent, tdC, td1, td2, tf1, tdB, tdAnd, tdOr, tdNot, tdAndV, tdOrV, tdNotV, tdIf, tdNil, tdCons, tdTup, tdLst, tdChain, tdIxB, tdRep, tdCat, tdCall, tdCallR, tiL, tiT, tiR1, tiR2, rI, rI0, rU, rLen, rInts, rBools, rInt, rTuple, rList, rIxD, nn_none, nn_int, nn_tup, noOwn, wipeD, Slot.addr, truD, List.getElem?_cons_zero, List.getElem?_cons_succ, List.set_cons_zero, List.set_cons_succ, List.map_cons, List.map_nil, List.length_cons, List.length_nil, List.cons_append, List.nil_append, List.replicate, Nat.sub_self, Nat.zero_add, Nat.add_one_sub_one, Nat.reduceAdd, Nat.reduceSub, Nat.succ_sub_succ_eq_sub, Nat.sub_zero, List.all_cons, List.all_nil, Option.isNone_none, Bool.and_self, Bool.and_true, List.reduceReplicate, true_and, and_true, wD, bD, lD, pD, if_true, if_false, Bool.not_true, Bool.not_false, Bool.false_eq_true]
  refine ⟨d, rfl, ?_⟩
  cases d <;> first | exact hq | skip
  rename_i i
  unfold betw at hq
  by_cases h1 : lo ≤ i <;> by_cases h2 : i ≤ hi <;> simp only [isIntD, h1, h2, decide_true, decide_false, if_true, if_false, and_self, and_true, and_false, false_and, true_and, Bool.false_eq_true] at hq ⊢ <;> exact hq
theorem fn_is_tuple_of (T : Top K mg) : Fn P w K mg base 1 "is_tuple_of" (spD K 2 sd_is_tuple_of) := by
  refine defD T.d_is_tuple_of sc_is_tuple_of (by decide) (fun f cdv A outer s H E hr => (dss_one (ds_ret (de_and (de_isi (T := "tuple") (by decide) rfl T.b_isinstance rfl T.b_tuple (by decide +kernel) (dbv 0)) (de_one (de_cmp (l_eq hr.units) (de_b1 call_len_seq l1_len rfl T.b_len (by decide +kernel) (d1 (dbv 0))) (dv 1) (nomark _))))))) ?_
  rintro ds q hl ⟨d, n, rfl, hq⟩
  simp only [tdSeq, tdIfS, tdRet, tdRetN, tdNext, tdNever, tdDrop, tdBreak, tdCont, tdSet, tdOwn, tdAsg, tdAppend, tdExtend, tdPop, tdAug, tdAugSub, tdPar, tdParOO, tdParSO, tdAsgSOS, tdParSD, tdPutT, tdSortKeys, tdFor, tdLc, tdYes, gdName, gdNil, gdCons, gdTup, gdSub, tdSh, tdLent, tdC, td1, td2, tf1, tdB, tdAnd, tdOr, tdNot, tdAndV, tdOrV, tdNotV, tdIf, tdNil, tdCons, tdTup, tdLst, tdChain, tdIxB, tdRep, tdCat, tdCall, tdCallR, tiL, tiT, tiR1, tiR2, rI, rI0, rU, rLen, rInts, rBools, rInt, rTuple, rList, rIxD, nn_none, nn_int, nn_tup, noOwn, wipeD, Slot.addr, truD, List.getElem?_cons_zero, List.getElem?_cons_succ, List.set_cons_zero, List.set_cons_succ, List.map_cons, List.map_nil, List.length_cons, List.length_nil, List.cons_append, List.nil_append, List.replicate, Nat.sub_self, Nat.zero_add, Nat.add_one_sub_one, Nat.reduceAdd, Nat.reduceSub, Nat.succ_sub_succ_eq_sub, Nat.sub_zero, List.all_cons, List.all_nil, Option.isNone_none, Bool.and_self, Bool.and_true, List.reduceReplicate, true_and, and_true, wD, bD, lD, pD, if_true, if_false, Bool.not_true, Bool.not_false, Bool.false_eq_true]
  cases d <;> simp only [ii, ib, it, il, is', ti, tb, tt, tl, ts', li, lb, lt', ll, ls', ni, nb, nt, nl, ns', bi, bb, bt, bl', bs, si, sb, st', sl, ss, di, db, dt, dl, ds', if_true, if_false, Bool.not_true, Bool.not_false, Bool.false_eq_true, Bool.or_self, Bool.or_true, Bool.true_or, Bool.or_false, Bool.false_or] <;> first | exact hq | (rename_i xs; simp only [sh_int, eqv_int, true_and]; exact hq)
theorem fn_is_bits (T : Top K mg) (F_is_tuple_of : Fn P w K mg base 1 "is_tuple_of" (spD K 2 sd_is_tuple_of)) (F_is_between : Fn P w K mg base 2 "is_between" (spD K 3 sd_is_between)) : Fn P w K mg base 3 "is_bits" (spD K 2 sd_is_bits) := by
  refine defD T.d_is_bits sc_is_bits (by decide) (fun f cdv A outer s H E hr => (dss_one (ds_ret (de_and (dcall F_is_tuple_of hr (da_cons (dv 0) (da_cons (dv 1) da_nil))) (de_one (de_b1 (cr_all rfl) l1_all rfl T.b_all (by decide +kernel) (d1 (DE.lend (DF.de (df_lc (own := [("item", 2)]) rfl sc_is_bits.nd (di_tup (dv 0)) (blkOk_by (N := ["value", "many", "item"]) (sc := defScope s_is_bits) (by decide +kernel)) (fun _ _ _ _ _ => (dgn 2 sc_is_bits.nd)) (fun _ _ _ _ _ => dts_nil) (fun _ _ _ _ _ => (dcall F_is_between hr (da_cons (dv 2) (da_cons de_int (da_cons de_int da_nil))))))))))))))) ?_
  rintro ds q hl ⟨n, ts, rfl, F, h9, hq⟩
  have hlen := F.len
  have e1 : tupOf (lD ts) n = true := by unfold tupOf lD; exact decide_eq_true (by rw [List.length_map]; exact hlen)
  simp only [tdSeq, tdIfS, tdRet, tdRetN, tdNext, tdNever, tdDrop, tdBreak, tdCont, tdSet, tdOwn, tdAsg, tdAppend, tdExtend, tdPop, tdAug, tdAugSub, tdPar, tdParOO, tdParSO, tdAsgSOS, tdParSD, tdPutT, tdSortKeys, tdFor, tdLc, tdYes, gdName, gdNil, gdCons, gdTup, gdSub, tdSh, tdLent, tdC, td1, td2, tf1, tdB, tdAnd, tdOr, tdNot, tdAndV, tdOrV, tdNotV, tdIf, tdNil, tdCons, tdTup, tdLst, tdChain, tdIxB, tdRep, tdCat, tdCall, tdCallR, tiL, tiT, tiR1, tiR2, rI, rI0, rU, rLen, rInts, rBools, rInt, rTuple, rList, rIxD, nn_none, nn_int, nn_tup, noOwn, wipeD, Slot.addr, truD, List.getElem?_cons_zero, List.getElem?_cons_succ, List.set_cons_zero, List.set_cons_succ, List.map_cons, List.map_nil, List.length_cons, List.length_nil, List.cons_append, List.nil_append, List.replicate, Nat.sub_self, Nat.zero_add, Nat.add_one_sub_one, Nat.reduceAdd, Nat.reduceSub, Nat.succ_sub_succ_eq_sub, Nat.sub_zero, List.all_cons, List.all_nil, Option.isNone_none, Bool.and_self, Bool.and_true, List.reduceReplicate, true_and, and_true, wD, bD, lD, pD, if_true, if_false, Bool.not_true, Bool.not_false, Bool.false_eq_true]
  refine ⟨_, _, rfl, ?_⟩
  rw [show PyData.tuple (List.map PyData.int ts) = lD ts from rfl, e1]
  try simp only [tdSeq, tdIfS, tdRet, tdRetN, tdNext, tdNever, tdDrop, tdBreak, tdCont, tdSet, tdOwn, tdAsg, tdAppend, tdExtend, tdPop, tdAug, tdAugSub, tdPar, tdParOO, tdParSO, tdAsgSOS, tdParSD, tdPutT, tdSortKeys, tdFor, tdLc, tdYes, gdName, gdNil, gdCons, gdTup, gdSub, tdSh, tdLent, tdC, td1, td2, tf1, tdB, tdAnd, tdOr, tdNot, tdAndV, tdOrV, tdNotV, tdIf, tdNil, tdCons, tdTup, tdLst, tdChain, tdIxB, tdRep, tdCat, tdCall, tdCallR, tiL, tiT, tiR1, tiR2, rI, rI0, rU, rLen, rInts, rBools, rInt, rTuple, rList, rIxD, nn_none, nn_int, nn_tup, noOwn, wipeD, Slot.addr, truD, List.getElem?_cons_zero, List.getElem?_cons_succ, List.set_cons_zero, List.set_cons_succ, List.map_cons, List.map_nil, List.length_cons, List.length_nil, List.cons_append, List.nil_append, List.replicate, Nat.sub_self, Nat.zero_add, Nat.add_one_sub_one, Nat.reduceAdd, Nat.reduceSub, Nat.succ_sub_succ_eq_sub, Nat.sub_zero, List.all_cons, List.all_nil, Option.isNone_none, Bool.and_self, Bool.and_true, List.reduceReplicate, true_and, and_true, wD, bD, lD, pD, if_true, if_false, Bool.not_true, Bool.not_false, Bool.false_eq_true]
  refine wLc_map PyData.int (fun _ => true) (fun _ => .bool true) ts (by unfold sizeLine; omega) ?_ ?_
  · intro p hpm k1 k2 hk1 hk2
    try simp only [tdSeq, tdIfS, tdRet, tdRetN, tdNext, tdNever, tdDrop, tdBreak, tdCont, tdSet, tdOwn, tdAsg, tdAppend, tdExtend, tdPop, tdAug, tdAugSub, tdPar, tdParOO, tdParSO, tdAsgSOS, tdParSD, tdPutT, tdSortKeys, tdFor, tdLc, tdYes, gdName, gdNil, gdCons, gdTup, gdSub, tdSh, tdLent, tdC, td1, td2, tf1, tdB, tdAnd, tdOr, tdNot, tdAndV, tdOrV, tdNotV, tdIf, tdNil, tdCons, tdTup, tdLst, tdChain, tdIxB, tdRep, tdCat, tdCall, tdCallR, tiL, tiT, tiR1, tiR2, rI, rI0, rU, rLen, rInts, rBools, rInt, rTuple, rList, rIxD, nn_none, nn_int, nn_tup, noOwn, wipeD, Slot.addr, truD, List.getElem?_cons_zero, List.getElem?_cons_succ, List.set_cons_zero, List.set_cons_succ, List.map_cons, List.map_nil, List.length_cons, List.length_nil, List.cons_append, List.nil_append, List.replicate, Nat.sub_self, Nat.zero_add, Nat.add_one_sub_one, Nat.reduceAdd, Nat.reduceSub, Nat.succ_sub_succ_eq_sub, Nat.sub_zero, List.all_cons, List.all_nil, Option.isNone_none, Bool.and_self, Bool.and_true, List.reduceReplicate, true_and, and_true, wD, bD, lD, pD, if_true, if_false, Bool.not_true, Bool.not_false, Bool.false_eq_true]
    refine ⟨_, _, _, rfl, ?_⟩
    have e2 : betw (.int p) 0 1 = true := by have := F.val p hpm; unfold betw; exact decide_eq_true (by omega)
    rw [e2]
    exact hk1 rfl
  · rw [filt_true]
    refine ⟨ts.map fun _ => true, by rw [List.map_map]; rfl, ?_⟩
    have e3 : (ts.map fun _ => true).all id = true := by rw [List.all_map]; exact List.all_eq_true.mpr fun _ _ => rfl
    rw [e3]
    exact hq
theorem fn_is_coins (T : Top K mg) (F_is_bits : Fn P w K mg base 3 "is_bits" (spD K 2 sd_is_bits)) : Fn P w K mg base 4 "is_coins" (spD K 3 sd_is_coins) := by
  refine defD T.d_is_coins sc_is_coins (by decide) (fun f cdv A outer s H E hr => (dss_one (ds_ret (de_and (de_isi (T := "tuple") (by decide) rfl T.b_isinstance rfl T.b_tuple (by decide +kernel) (dbv 0)) (de_and (de_chain l_le l_le (dv 1) (de_b1 call_len_seq l1_len rfl T.b_len (by decide +kernel) (d1 (dbv 0))) (dv 2)) (de_one (dcall F_is_bits hr (da_cons (dv 0) (da_cons (de_b1 call_len_seq l1_len rfl T.b_len (by decide +kernel) (d1 (dbv 0))) da_nil))))))))) ?_
  rintro ds q hl ⟨n, lo, hi, ls, rfl, F, h1, h2, h40, hq⟩
  have hlen := F.len
  simp only [tdSeq, tdIfS, tdRet, tdRetN, tdNext, tdNever, tdDrop, tdBreak, tdCont, tdSet, tdOwn, tdAsg, tdAppend, tdExtend, tdPop, tdAug, tdAugSub, tdPar, tdParOO, tdParSO, tdAsgSOS, tdParSD, tdPutT, tdSortKeys, tdFor, tdLc, tdYes, gdName, gdNil, gdCons, gdTup, gdSub, tdSh, tdLent, tdC, td1, td2, tf1, tdB, tdAnd, tdOr, tdNot, tdAndV, tdOrV, tdNotV, tdIf, tdNil, tdCons, tdTup, tdLst, tdChain, tdIxB, tdRep, tdCat, tdCall, tdCallR, tiL, tiT, tiR1, tiR2, rI, rI0, rU, rLen, rInts, rBools, rInt, rTuple, rList, rIxD, nn_none, nn_int, nn_tup, noOwn, wipeD, Slot.addr, truD, List.getElem?_cons_zero, List.getElem?_cons_succ, List.set_cons_zero, List.set_cons_succ, List.map_cons, List.map_nil, List.length_cons, List.length_nil, List.cons_append, List.nil_append, List.replicate, Nat.sub_self, Nat.zero_add, Nat.add_one_sub_one, Nat.reduceAdd, Nat.reduceSub, Nat.succ_sub_succ_eq_sub, Nat.sub_zero, List.all_cons, List.all_nil, Option.isNone_none, Bool.and_self, Bool.and_true, List.reduceReplicate, true_and, and_true, wD, bD, lD, pD, if_true, if_false, Bool.not_true, Bool.not_false, Bool.false_eq_true]
  simp only [ii, ib, it, il, is', ti, tb, tt, tl, ts', li, lb, lt', ll, ls', ni, nb, nt, nl, ns', bi, bb, bt, bl', bs, si, sb, st', sl, ss, di, db, dt, dl, ds', if_true, if_false, Bool.not_true, Bool.not_false, Bool.false_eq_true, Bool.or_self, Bool.or_true, Bool.true_or, Bool.or_false, Bool.false_or]
  rw [List.length_map]
  refine ite_yes (decide_eq_true (by omega)) (ite_yes (decide_eq_true (by omega)) ?_)
  exact ⟨ls.length, ls, rfl, ⟨rfl, F.val⟩, by omega, hq⟩
theorem fn_check_row (T : Top K mg) (F_is_coins : Fn P w K mg base 4 "is_coins" (spD K 3 sd_is_coins)) : Fn P w K mg base 5 "check_row" (spD K 1 sd_check_row) := by
  refine defD T.d_check_row sc_check_row (by decide) (fun f cdv A outer s H E hr => (dss_one (ds_if (dt_not (dt_val (dcall F_is_coins hr (da_cons (dv 0) (da_cons de_int (da_cons (de_globI rfl T.c_MOST_IN_ROW) da_nil)))))) (dss_one ds_never) dss_nil))) ?_
  rintro ds q hl ⟨n, ls, rfl, F, h1, h40, hq⟩
  simp only [tdSeq, tdIfS, tdRet, tdRetN, tdNext, tdNever, tdDrop, tdBreak, tdCont, tdSet, tdOwn, tdAsg, tdAppend, tdExtend, tdPop, tdAug, tdAugSub, tdPar, tdParOO, tdParSO, tdAsgSOS, tdParSD, tdPutT, tdSortKeys, tdFor, tdLc, tdYes, gdName, gdNil, gdCons, gdTup, gdSub, tdSh, tdLent, tdC, td1, td2, tf1, tdB, tdAnd, tdOr, tdNot, tdAndV, tdOrV, tdNotV, tdIf, tdNil, tdCons, tdTup, tdLst, tdChain, tdIxB, tdRep, tdCat, tdCall, tdCallR, tiL, tiT, tiR1, tiR2, rI, rI0, rU, rLen, rInts, rBools, rInt, rTuple, rList, rIxD, nn_none, nn_int, nn_tup, noOwn, wipeD, Slot.addr, truD, List.getElem?_cons_zero, List.getElem?_cons_succ, List.set_cons_zero, List.set_cons_succ, List.map_cons, List.map_nil, List.length_cons, List.length_nil, List.cons_append, List.nil_append, List.replicate, Nat.sub_self, Nat.zero_add, Nat.add_one_sub_one, Nat.reduceAdd, Nat.reduceSub, Nat.succ_sub_succ_eq_sub, Nat.sub_zero, List.all_cons, List.all_nil, Option.isNone_none, Bool.and_self, Bool.and_true, List.reduceReplicate, true_and, and_true, wD, bD, lD, pD, if_true, if_false, Bool.not_true, Bool.not_false, Bool.false_eq_true]
  refine ⟨n, 1, 40, ls, rfl, F, h1, h40, h40, ?_⟩
  try simp only [tdSeq, tdIfS, tdRet, tdRetN, tdNext, tdNever, tdDrop, tdBreak, tdCont, tdSet, tdOwn, tdAsg, tdAppend, tdExtend, tdPop, tdAug, tdAugSub, tdPar, tdParOO, tdParSO, tdAsgSOS, tdParSD, tdPutT, tdSortKeys, tdFor, tdLc, tdYes, gdName, gdNil, gdCons, gdTup, gdSub, tdSh, tdLent, tdC, td1, td2, tf1, tdB, tdAnd, tdOr, tdNot, tdAndV, tdOrV, tdNotV, tdIf, tdNil, tdCons, tdTup, tdLst, tdChain, tdIxB, tdRep, tdCat, tdCall, tdCallR, tiL, tiT, tiR1, tiR2, rI, rI0, rU, rLen, rInts, rBools, rInt, rTuple, rList, rIxD, nn_none, nn_int, nn_tup, noOwn, wipeD, Slot.addr, truD, List.getElem?_cons_zero, List.getElem?_cons_succ, List.set_cons_zero, List.set_cons_succ, List.map_cons, List.map_nil, List.length_cons, List.length_nil, List.cons_append, List.nil_append, List.replicate, Nat.sub_self, Nat.zero_add, Nat.add_one_sub_one, Nat.reduceAdd, Nat.reduceSub, Nat.succ_sub_succ_eq_sub, Nat.sub_zero, List.all_cons, List.all_nil, Option.isNone_none, Bool.and_self, Bool.and_true, List.reduceReplicate, true_and, and_true, wD, bD, lD, pD, if_true, if_false, Bool.not_true, Bool.not_false, Bool.false_eq_true]
  exact hq
theorem fn_check_head (T : Top K mg) (F_is_between : Fn P w K mg base 2 "is_between" (spD K 3 sd_is_between)) : Fn P w K mg base 3 "check_head" (spD K 2 sd_check_head) := by
  refine defD T.d_check_head sc_check_head (by decide) (fun f cdv A outer s H E hr => (dss_one (ds_if (DW.dt (dw_or (dt_not (dt_val (dcall F_is_between hr (da_cons (dv 1) (da_cons de_int (da_cons (de_op l_sub (de_b1 call_len_seq l1_len rfl T.b_len (by decide +kernel) (d1 (dbv 0))) de_int) da_nil)))))) (dw_or1 (dt_cmp (l_ne hr.units) (de_ix (dv 0) (dv 1) (fun _ _ => rfl)) de_int (nomark _))))) (dss_one ds_never) dss_nil))) ?_
  rintro ds q hl ⟨n, ls, k, rfl, F, h40, hk, h1, hq⟩
  have hlen := F.len
  simp only [tdSeq, tdIfS, tdRet, tdRetN, tdNext, tdNever, tdDrop, tdBreak, tdCont, tdSet, tdOwn, tdAsg, tdAppend, tdExtend, tdPop, tdAug, tdAugSub, tdPar, tdParOO, tdParSO, tdAsgSOS, tdParSD, tdPutT, tdSortKeys, tdFor, tdLc, tdYes, gdName, gdNil, gdCons, gdTup, gdSub, tdSh, tdLent, tdC, td1, td2, tf1, tdB, tdAnd, tdOr, tdNot, tdAndV, tdOrV, tdNotV, tdIf, tdNil, tdCons, tdTup, tdLst, tdChain, tdIxB, tdRep, tdCat, tdCall, tdCallR, tiL, tiT, tiR1, tiR2, rI, rI0, rU, rLen, rInts, rBools, rInt, rTuple, rList, rIxD, nn_none, nn_int, nn_tup, noOwn, wipeD, Slot.addr, truD, List.getElem?_cons_zero, List.getElem?_cons_succ, List.set_cons_zero, List.set_cons_succ, List.map_cons, List.map_nil, List.length_cons, List.length_nil, List.cons_append, List.nil_append, List.replicate, Nat.sub_self, Nat.zero_add, Nat.add_one_sub_one, Nat.reduceAdd, Nat.reduceSub, Nat.succ_sub_succ_eq_sub, Nat.sub_zero, List.all_cons, List.all_nil, Option.isNone_none, Bool.and_self, Bool.and_true, List.reduceReplicate, true_and, and_true, wD, bD, lD, pD, if_true, if_false, Bool.not_true, Bool.not_false, Bool.false_eq_true]
  refine ⟨_, _, _, rfl, ?_⟩
  have hb : betw (PyData.int (k : Int)) 0 (((List.map PyData.int ls).length : Int) - 1) = true := by
    unfold betw
    rw [List.length_map]
    exact decide_eq_true ⟨by omega, by omega⟩
  rw [hb]
  refine ite_no (by decide) ⟨.int (rgF ls k), atI_nat' (by rw [List.getElem?_map, rgF_at (by omega)]; rfl), sh_int _, sh_int _, ite_no (by rw [eqv_int, h1]; decide) ?_⟩
  exact hq
theorem fn_check_count (T : Top K mg) (F_is_between : Fn P w K mg base 2 "is_between" (spD K 3 sd_is_between)) : Fn P w K mg base 3 "check_count" (spD K 2 sd_check_count) := by
  refine defD T.d_check_count sc_check_count (by decide) (fun f cdv A outer s H E hr => (dss_one (ds_if (dt_not (dt_val (dcall F_is_between hr (da_cons (dv 0) (da_cons de_int (da_cons (dv 1) da_nil)))))) (dss_one ds_never) dss_nil))) ?_
  rintro ds q hl ⟨n, m, rfl, h1, h2, hq⟩
  simp only [tdSeq, tdIfS, tdRet, tdRetN, tdNext, tdNever, tdDrop, tdBreak, tdCont, tdSet, tdOwn, tdAsg, tdAppend, tdExtend, tdPop, tdAug, tdAugSub, tdPar, tdParOO, tdParSO, tdAsgSOS, tdParSD, tdPutT, tdSortKeys, tdFor, tdLc, tdYes, gdName, gdNil, gdCons, gdTup, gdSub, tdSh, tdLent, tdC, td1, td2, tf1, tdB, tdAnd, tdOr, tdNot, tdAndV, tdOrV, tdNotV, tdIf, tdNil, tdCons, tdTup, tdLst, tdChain, tdIxB, tdRep, tdCat, tdCall, tdCallR, tiL, tiT, tiR1, tiR2, rI, rI0, rU, rLen, rInts, rBools, rInt, rTuple, rList, rIxD, nn_none, nn_int, nn_tup, noOwn, wipeD, Slot.addr, truD, List.getElem?_cons_zero, List.getElem?_cons_succ, List.set_cons_zero, List.set_cons_succ, List.map_cons, List.map_nil, List.length_cons, List.length_nil, List.cons_append, List.nil_append, List.replicate, Nat.sub_self, Nat.zero_add, Nat.add_one_sub_one, Nat.reduceAdd, Nat.reduceSub, Nat.succ_sub_succ_eq_sub, Nat.sub_zero, List.all_cons, List.all_nil, Option.isNone_none, Bool.and_self, Bool.and_true, List.reduceReplicate, true_and, and_true, wD, bD, lD, pD, if_true, if_false, Bool.not_true, Bool.not_false, Bool.false_eq_true]
  refine ⟨_, _, _, rfl, ?_⟩
  dsimp only [betw]
  refine ite_no (by simp [h1, h2]) ?_
  exact hq
theorem fn_places_in (T : Top K mg) : Fn P w K mg base 1 "places_in" (spD K 1 sd_places_in) := by
  refine defD T.d_places_in sc_places_in (by decide) (fun f cdv A outer s H E hr => (dss_one (ds_ret (DF.de (df_lc (own := [("place", 1)]) rfl sc_places_in.nd (di_range1 rfl T.b_range (da_cons (de_bits (dv 0)) da_nil)) (blkOk_by (N := ["mask", "place"]) (sc := defScope s_places_in) (by decide +kernel)) (fun _ _ _ _ _ => (dgn 1 sc_places_in.nd)) (fun _ _ _ _ _ => (dts_one (dt_truth (DE.lend (de_op l_and (de_op l_shr (dv 0) (dv 1)) de_int))))) (fun _ _ _ _ _ => (dv 1))))))) ?_
  rintro ds q hl ⟨m, rfl, hm, hq⟩
  have hb : Builtin.Int.intBits (m : Int) ≤ 41 := by
    unfold Builtin.Int.intBits
    split
    · omega
    · rw [Int.natAbs_natCast]
      by_cases h0 : m = 0
      · subst h0; decide
      · have := (Nat.log2_lt h0).mpr hm
        omega
  simp only [tdSeq, tdIfS, tdRet, tdRetN, tdNext, tdNever, tdDrop, tdBreak, tdCont, tdSet, tdOwn, tdAsg, tdAppend, tdExtend, tdPop, tdAug, tdAugSub, tdPar, tdParOO, tdParSO, tdAsgSOS, tdParSD, tdPutT, tdSortKeys, tdFor, tdLc, tdYes, gdName, gdNil, gdCons, gdTup, gdSub, tdSh, tdLent, tdC, td1, td2, tf1, tdB, tdAnd, tdOr, tdNot, tdAndV, tdOrV, tdNotV, tdIf, tdNil, tdCons, tdTup, tdLst, tdChain, tdIxB, tdRep, tdCat, tdCall, tdCallR, tiL, tiT, tiR1, tiR2, rI, rI0, rU, rLen, rInts, rBools, rInt, rTuple, rList, rIxD, nn_none, nn_int, nn_tup, noOwn, wipeD, Slot.addr, truD, List.getElem?_cons_zero, List.getElem?_cons_succ, List.set_cons_zero, List.set_cons_succ, List.map_cons, List.map_nil, List.length_cons, List.length_nil, List.cons_append, List.nil_append, List.replicate, Nat.sub_self, Nat.zero_add, Nat.add_one_sub_one, Nat.reduceAdd, Nat.reduceSub, Nat.succ_sub_succ_eq_sub, Nat.sub_zero, List.all_cons, List.all_nil, Option.isNone_none, Bool.and_self, Bool.and_true, List.reduceReplicate, true_and, and_true, wD, bD, lD, pD, if_true, if_false, Bool.not_true, Bool.not_false, Bool.false_eq_true]
  refine ⟨⟨by omega, by omega⟩, ?_⟩
  rw [Int.toNat_natCast]
  refine wLc_map (fun (j : Nat) => .int (0 + (j : Int))) (fun j => m.testBit j) (fun j => .int (j : Int)) (List.range (Builtin.Int.intBits (m : Int))) (by rw [List.length_range]; unfold sizeLine; omega) ?_ ?_
  · intro j hj k1 k2 hk1 hk2
    rw [Int.zero_add]
    simp only [tdSeq, tdIfS, tdRet, tdRetN, tdNext, tdNever, tdDrop, tdBreak, tdCont, tdSet, tdOwn, tdAsg, tdAppend, tdExtend, tdPop, tdAug, tdAugSub, tdPar, tdParOO, tdParSO, tdAsgSOS, tdParSD, tdPutT, tdSortKeys, tdFor, tdLc, tdYes, gdName, gdNil, gdCons, gdTup, gdSub, tdSh, tdLent, tdC, td1, td2, tf1, tdB, tdAnd, tdOr, tdNot, tdAndV, tdOrV, tdNotV, tdIf, tdNil, tdCons, tdTup, tdLst, tdChain, tdIxB, tdRep, tdCat, tdCall, tdCallR, tiL, tiT, tiR1, tiR2, rI, rI0, rU, rLen, rInts, rBools, rInt, rTuple, rList, rIxD, nn_none, nn_int, nn_tup, noOwn, wipeD, Slot.addr, truD, List.getElem?_cons_zero, List.getElem?_cons_succ, List.set_cons_zero, List.set_cons_succ, List.map_cons, List.map_nil, List.length_cons, List.length_nil, List.cons_append, List.nil_append, List.replicate, Nat.sub_self, Nat.zero_add, Nat.add_one_sub_one, Nat.reduceAdd, Nat.reduceSub, Nat.succ_sub_succ_eq_sub, Nat.sub_zero, List.all_cons, List.all_nil, Option.isNone_none, Bool.and_self, Bool.and_true, List.reduceReplicate, true_and, and_true, wD, bD, lD, pD, if_true, if_false, Bool.not_true, Bool.not_false, Bool.false_eq_true]
    refine ⟨by omega, ?_⟩
    rw [bit_nat, bit_test]
    cases h : m.testBit j with
    | true => exact ⟨_, rfl, hk1 h⟩
    | false => exact ⟨_, rfl, hk2 h⟩
  · unfold bitsOf at hq
    rw [List.map_map] at hq
    exact hq
theorem fn_near_masks (T : Top K mg) : Fn P w K mg base 1 "near_masks" (spD K 1 sd_near_masks) := by
  refine defD T.d_near_masks sc_near_masks (by decide) (fun f cdv A outer s H E hr => (dss_cons (ds_asg (dv 0) (dg_tup (n := 2) rfl (dgs_cons (dgn 1 sc_near_masks.nd) (dgs_cons (dgn 2 sc_near_masks.nd) dgs_nil))))
  (dss_cons (down 3 sc_near_masks.nd (df_rep (df_lst (da_cons de_int da_nil)) (dv 1)))
  (dss_cons (ds_for PassesOwn.never rfl (di_tup (dv 2)) (dg_tup (n := 2) rfl (dgs_cons (dgn 4 sc_near_masks.nd) (dgs_cons (dgn 5 sc_near_masks.nd) dgs_nil)))
   (dss_cons (daugsub 3 (dv 4) (de_op l_shl de_int (dv 5)) li_or)
  (dss_one (daugsub 3 (dv 5) (de_op l_shl de_int (dv 4)) li_or))))
  (dss_one (ds_ret (dv 3))))))) ?_
  rintro ds q hl ⟨n, rfl, h1, h40, hq⟩
  simp only [tdSeq, tdIfS, tdRet, tdRetN, tdNext, tdNever, tdDrop, tdBreak, tdCont, tdSet, tdOwn, tdAsg, tdAppend, tdExtend, tdPop, tdAug, tdAugSub, tdPar, tdParOO, tdParSO, tdAsgSOS, tdParSD, tdPutT, tdSortKeys, tdFor, tdLc, tdYes, gdName, gdNil, gdCons, gdTup, gdSub, tdSh, tdLent, tdC, td1, td2, tf1, tdB, tdAnd, tdOr, tdNot, tdAndV, tdOrV, tdNotV, tdIf, tdNil, tdCons, tdTup, tdLst, tdChain, tdIxB, tdRep, tdCat, tdCall, tdCallR, tiL, tiT, tiR1, tiR2, rI, rI0, rU, rLen, rInts, rBools, rInt, rTuple, rList, rIxD, nn_none, nn_int, nn_tup, noOwn, wipeD, Slot.addr, truD, List.getElem?_cons_zero, List.getElem?_cons_succ, List.set_cons_zero, List.set_cons_succ, List.map_cons, List.map_nil, List.length_cons, List.length_nil, List.cons_append, List.nil_append, List.replicate, Nat.sub_self, Nat.zero_add, Nat.add_one_sub_one, Nat.reduceAdd, Nat.reduceSub, Nat.succ_sub_succ_eq_sub, Nat.sub_zero, List.all_cons, List.all_nil, Option.isNone_none, Bool.and_self, Bool.and_true, List.reduceReplicate, true_and, and_true, wD, bD, lD, pD, if_true, if_false, Bool.not_true, Bool.not_false, Bool.false_eq_true]
  refine ⟨by decide, ⟨by omega, by omega, by unfold sizeLine; omega⟩, ?_⟩
  intro a ha
  have e0 : (List.replicate (n : Int).toNat [PyData.int 0]).flatten = (List.range n).map fun j => PyData.int ((mkP 0 j : Nat) : Int) := by
    rw [Int.toNat_natCast]
    clear hq h1 h40 ha hl
    induction n with
    | zero => rfl
    | succ m ih => rw [List.replicate_succ', List.flatten_append, ih, List.range_succ, List.map_append]; simp [mkP_zero]
  rw [e0]
  refine wFor_at (fun t ρ => ∃ x y, ρ = [.sh (wD n (pathE (n - 1))), .sh (.int n), .sh (.tuple ((pathE (n - 1)).map pD)), .own a ((List.range n).map fun j => PyData.int ((mkP t j : Nat) : Int)), x, y]) _ ?_ ?_ _ ⟨.un, .un, rfl⟩
  · rintro ρ ⟨x, y, rfl⟩
    rw [List.length_map, pathE_len]
    try simp only [tdSeq, tdIfS, tdRet, tdRetN, tdNext, tdNever, tdDrop, tdBreak, tdCont, tdSet, tdOwn, tdAsg, tdAppend, tdExtend, tdPop, tdAug, tdAugSub, tdPar, tdParOO, tdParSO, tdAsgSOS, tdParSD, tdPutT, tdSortKeys, tdFor, tdLc, tdYes, gdName, gdNil, gdCons, gdTup, gdSub, tdSh, tdLent, tdC, td1, td2, tf1, tdB, tdAnd, tdOr, tdNot, tdAndV, tdOrV, tdNotV, tdIf, tdNil, tdCons, tdTup, tdLst, tdChain, tdIxB, tdRep, tdCat, tdCall, tdCallR, tiL, tiT, tiR1, tiR2, rI, rI0, rU, rLen, rInts, rBools, rInt, rTuple, rList, rIxD, nn_none, nn_int, nn_tup, noOwn, wipeD, Slot.addr, truD, List.getElem?_cons_zero, List.getElem?_cons_succ, List.set_cons_zero, List.set_cons_succ, List.map_cons, List.map_nil, List.length_cons, List.length_nil, List.cons_append, List.nil_append, List.replicate, Nat.sub_self, Nat.zero_add, Nat.add_one_sub_one, Nat.reduceAdd, Nat.reduceSub, Nat.succ_sub_succ_eq_sub, Nat.sub_zero, List.all_cons, List.all_nil, Option.isNone_none, Bool.and_self, Bool.and_true, List.reduceReplicate, true_and, and_true, wD, bD, lD, pD, if_true, if_false, Bool.not_true, Bool.not_false, Bool.false_eq_true]
    exact hq
  · rintro t d ρ k hd ⟨x, y, rfl⟩ hk
    rw [List.getElem?_map] at hd
    obtain ⟨e, he, rfl⟩ := Option.map_eq_some_iff.mp hd
    unfold pathE at he
    rw [List.getElem?_map] at he
    obtain ⟨t', ht', rfl⟩ := Option.map_eq_some_iff.mp he
    obtain ⟨hlt, e2⟩ := List.getElem?_eq_some_iff.mp ht'
    rw [List.getElem_range] at e2
    subst e2
    rw [List.length_range] at hlt
    try simp only [tdSeq, tdIfS, tdRet, tdRetN, tdNext, tdNever, tdDrop, tdBreak, tdCont, tdSet, tdOwn, tdAsg, tdAppend, tdExtend, tdPop, tdAug, tdAugSub, tdPar, tdParOO, tdParSO, tdAsgSOS, tdParSD, tdPutT, tdSortKeys, tdFor, tdLc, tdYes, gdName, gdNil, gdCons, gdTup, gdSub, tdSh, tdLent, tdC, td1, td2, tf1, tdB, tdAnd, tdOr, tdNot, tdAndV, tdOrV, tdNotV, tdIf, tdNil, tdCons, tdTup, tdLst, tdChain, tdIxB, tdRep, tdCat, tdCall, tdCallR, tiL, tiT, tiR1, tiR2, rI, rI0, rU, rLen, rInts, rBools, rInt, rTuple, rList, rIxD, nn_none, nn_int, nn_tup, noOwn, wipeD, Slot.addr, truD, List.getElem?_cons_zero, List.getElem?_cons_succ, List.set_cons_zero, List.set_cons_succ, List.map_cons, List.map_nil, List.length_cons, List.length_nil, List.cons_append, List.nil_append, List.replicate, Nat.sub_self, Nat.zero_add, Nat.add_one_sub_one, Nat.reduceAdd, Nat.reduceSub, Nat.succ_sub_succ_eq_sub, Nat.sub_zero, List.all_cons, List.all_nil, Option.isNone_none, Bool.and_self, Bool.and_true, List.reduceReplicate, true_and, and_true, wD, bD, lD, pD, if_true, if_false, Bool.not_true, Bool.not_false, Bool.false_eq_true]
    rw [show (t : Int) + 1 = ((t + 1 : Nat) : Int) by omega]
    refine ⟨.int ((mkP t t : Nat) : Int), atI_nat' (by rw [List.getElem?_map, List.getElem?_range (by omega)]; rfl), ⟨by omega, by omega, by decide⟩, ?_⟩
    try simp only [tdSeq, tdIfS, tdRet, tdRetN, tdNext, tdNever, tdDrop, tdBreak, tdCont, tdSet, tdOwn, tdAsg, tdAppend, tdExtend, tdPop, tdAug, tdAugSub, tdPar, tdParOO, tdParSO, tdAsgSOS, tdParSD, tdPutT, tdSortKeys, tdFor, tdLc, tdYes, gdName, gdNil, gdCons, gdTup, gdSub, tdSh, tdLent, tdC, td1, td2, tf1, tdB, tdAnd, tdOr, tdNot, tdAndV, tdOrV, tdNotV, tdIf, tdNil, tdCons, tdTup, tdLst, tdChain, tdIxB, tdRep, tdCat, tdCall, tdCallR, tiL, tiT, tiR1, tiR2, rI, rI0, rU, rLen, rInts, rBools, rInt, rTuple, rList, rIxD, nn_none, nn_int, nn_tup, noOwn, wipeD, Slot.addr, truD, List.getElem?_cons_zero, List.getElem?_cons_succ, List.set_cons_zero, List.set_cons_succ, List.map_cons, List.map_nil, List.length_cons, List.length_nil, List.cons_append, List.nil_append, List.replicate, Nat.sub_self, Nat.zero_add, Nat.add_one_sub_one, Nat.reduceAdd, Nat.reduceSub, Nat.succ_sub_succ_eq_sub, Nat.sub_zero, List.all_cons, List.all_nil, Option.isNone_none, Bool.and_self, Bool.and_true, List.reduceReplicate, true_and, and_true, wD, bD, lD, pD, if_true, if_false, Bool.not_true, Bool.not_false, Bool.false_eq_true]
    refine ⟨t, ixN_nat' (by rw [List.length_map, List.length_range]; omega), ?_⟩
    rw [or_nat]
    refine ⟨.int ((mkP t (t + 1) : Nat) : Int), atI_nat' (by rw [List.getElem?_set_ne (by omega), List.getElem?_map, List.getElem?_range (by omega)]; rfl), ⟨by omega, by omega, by decide⟩, ?_⟩
    try simp only [tdSeq, tdIfS, tdRet, tdRetN, tdNext, tdNever, tdDrop, tdBreak, tdCont, tdSet, tdOwn, tdAsg, tdAppend, tdExtend, tdPop, tdAug, tdAugSub, tdPar, tdParOO, tdParSO, tdAsgSOS, tdParSD, tdPutT, tdSortKeys, tdFor, tdLc, tdYes, gdName, gdNil, gdCons, gdTup, gdSub, tdSh, tdLent, tdC, td1, td2, tf1, tdB, tdAnd, tdOr, tdNot, tdAndV, tdOrV, tdNotV, tdIf, tdNil, tdCons, tdTup, tdLst, tdChain, tdIxB, tdRep, tdCat, tdCall, tdCallR, tiL, tiT, tiR1, tiR2, rI, rI0, rU, rLen, rInts, rBools, rInt, rTuple, rList, rIxD, nn_none, nn_int, nn_tup, noOwn, wipeD, Slot.addr, truD, List.getElem?_cons_zero, List.getElem?_cons_succ, List.set_cons_zero, List.set_cons_succ, List.map_cons, List.map_nil, List.length_cons, List.length_nil, List.cons_append, List.nil_append, List.replicate, Nat.sub_self, Nat.zero_add, Nat.add_one_sub_one, Nat.reduceAdd, Nat.reduceSub, Nat.succ_sub_succ_eq_sub, Nat.sub_zero, List.all_cons, List.all_nil, Option.isNone_none, Bool.and_self, Bool.and_true, List.reduceReplicate, true_and, and_true, wD, bD, lD, pD, if_true, if_false, Bool.not_true, Bool.not_false, Bool.false_eq_true]
    refine ⟨t + 1, ixN_nat' (by rw [List.length_set, List.length_map, List.length_range]; omega), ?_⟩
    rw [or_nat, mkP_low, mkP_high]
    have e3 : (((List.range n).map fun j => PyData.int ((mkP t j : Nat) : Int)).set t (.int ((mkP (t + 1) t : Nat) : Int))).set (t + 1) (.int ((mkP (t + 1) (t + 1) : Nat) : Int)) = (List.range n).map fun j => PyData.int ((mkP (t + 1) j : Nat) : Int) := by
      refine List.ext_getElem? fun j => ?_
      rw [List.getElem?_set, List.getElem?_set, List.length_set, List.length_map, List.length_range, List.getElem?_map, List.getElem?_map]
      by_cases hj : j < n
      · rw [List.getElem?_range hj]
        by_cases q1 : t + 1 = j
        · subst q1; rw [if_pos rfl, if_pos hj]; rfl
        · rw [if_neg q1]
          by_cases q2 : t = j
          · subst q2; rw [if_pos rfl, if_pos hj]; rfl
          · rw [if_neg q2]
            show some (PyData.int ((mkP t j : Nat) : Int)) = some (PyData.int ((mkP (t + 1) j : Nat) : Int))
            rw [mkP_other (fun z => q2 z.symm) (fun z => q1 z.symm)]
      · rw [if_neg (by omega), if_neg (by omega), List.getElem?_eq_none_iff.mpr (by rw [List.length_range]; omega)]; rfl
    rw [e3]
    exact hk _ ⟨_, _, rfl⟩
theorem fn_lying_behind (T : Top K mg) (F_places_in : Fn P w K mg base 1 "places_in" (spD K 1 sd_places_in)) : Fn P w K mg base 2 "lying_behind" (spD K 3 sd_lying_behind) := by
  refine defD T.d_lying_behind sc_lying_behind (by decide) (fun f cdv A outer s H E hr => (dss_cons (down 3 sc_lying_behind.nd (df_t1 call_list_of lf_list rfl T.b_list (by decide +kernel) (d1 (dbv 1))))
  (dss_cons (ds_asg de_non (dgsub 3 (dv 2)))
  (dss_cons (ds_for PassesOwn.never rfl (di_list (dcall F_places_in hr (da_cons (de_ix (dv 0) (dv 2) (fun _ _ => rfl)) da_nil))) (dgn 4 sc_lying_behind.nd)
   (dss_one (ds_if (dt_cmp l_notN (de_ix (dv 1) (dv 4) (fun _ _ => rfl)) de_non (nomark _)) (dss_one (ds_asg (de_op l_sub de_int (de_ix (dv 1) (dv 4) (fun _ _ => rfl))) (dgsub 3 (dv 4)))) dss_nil)))
  (dss_one (ds_ret (de_t1 call_tuple_of l1_tuple rfl T.b_tuple (by decide +kernel) (d1 (dbv 3))))))))) ?_
  rintro ds q hl ⟨n, k, ls, rfl, F, h40, hk, hq⟩
  have hlen := F.len
  have hl : ls.length = n := by omega
  simp only [tdSeq, tdIfS, tdRet, tdRetN, tdNext, tdNever, tdDrop, tdBreak, tdCont, tdSet, tdOwn, tdAsg, tdAppend, tdExtend, tdPop, tdAug, tdAugSub, tdPar, tdParOO, tdParSO, tdAsgSOS, tdParSD, tdPutT, tdSortKeys, tdFor, tdLc, tdYes, gdName, gdNil, gdCons, gdTup, gdSub, tdSh, tdLent, tdC, td1, td2, tf1, tdB, tdAnd, tdOr, tdNot, tdAndV, tdOrV, tdNotV, tdIf, tdNil, tdCons, tdTup, tdLst, tdChain, tdIxB, tdRep, tdCat, tdCall, tdCallR, tiL, tiT, tiR1, tiR2, rI, rI0, rU, rLen, rInts, rBools, rInt, rTuple, rList, rIxD, nn_none, nn_int, nn_tup, noOwn, wipeD, Slot.addr, truD, List.getElem?_cons_zero, List.getElem?_cons_succ, List.set_cons_zero, List.set_cons_succ, List.map_cons, List.map_nil, List.length_cons, List.length_nil, List.cons_append, List.nil_append, List.replicate, Nat.sub_self, Nat.zero_add, Nat.add_one_sub_one, Nat.reduceAdd, Nat.reduceSub, Nat.succ_sub_succ_eq_sub, Nat.sub_zero, List.all_cons, List.all_nil, Option.isNone_none, Bool.and_self, Bool.and_true, List.reduceReplicate, true_and, and_true, wD, bD, lD, pD, if_true, if_false, Bool.not_true, Bool.not_false, Bool.false_eq_true]
  intro a ha
  refine ⟨k, ixN_nat' (by rw [List.length_map]; omega), ?_⟩
  rw [behD_start (by omega)]
  refine ⟨.int ((mkP (n - 1) k : Nat) : Int), atI_nat' (by rw [List.getElem?_map, List.getElem?_range hk]; rfl), mkP (n - 1) k, rfl, mkP_lt (by omega) (by omega), ?_⟩
  try simp only [tdSeq, tdIfS, tdRet, tdRetN, tdNext, tdNever, tdDrop, tdBreak, tdCont, tdSet, tdOwn, tdAsg, tdAppend, tdExtend, tdPop, tdAug, tdAugSub, tdPar, tdParOO, tdParSO, tdAsgSOS, tdParSD, tdPutT, tdSortKeys, tdFor, tdLc, tdYes, gdName, gdNil, gdCons, gdTup, gdSub, tdSh, tdLent, tdC, td1, td2, tf1, tdB, tdAnd, tdOr, tdNot, tdAndV, tdOrV, tdNotV, tdIf, tdNil, tdCons, tdTup, tdLst, tdChain, tdIxB, tdRep, tdCat, tdCall, tdCallR, tiL, tiT, tiR1, tiR2, rI, rI0, rU, rLen, rInts, rBools, rInt, rTuple, rList, rIxD, nn_none, nn_int, nn_tup, noOwn, wipeD, Slot.addr, truD, List.getElem?_cons_zero, List.getElem?_cons_succ, List.set_cons_zero, List.set_cons_succ, List.map_cons, List.map_nil, List.length_cons, List.length_nil, List.cons_append, List.nil_append, List.replicate, Nat.sub_self, Nat.zero_add, Nat.add_one_sub_one, Nat.reduceAdd, Nat.reduceSub, Nat.succ_sub_succ_eq_sub, Nat.sub_zero, List.all_cons, List.all_nil, Option.isNone_none, Bool.and_self, Bool.and_true, List.reduceReplicate, true_and, and_true, wD, bD, lD, pD, if_true, if_false, Bool.not_true, Bool.not_false, Bool.false_eq_true]
  obtain ⟨M, hM⟩ : ∃ M, M = mkP (n - 1) k := ⟨_, rfl⟩
  have hMm : ∀ x ∈ bitsOf M, ∃ y : Nat, x = y ∧ y < n ∧ y ≠ k := fun x hx => by
    rw [hM] at hx
    rcases (mem_mkP (by omega)).mp hx with ⟨q1, q2⟩ | ⟨q1, q2⟩
    · exact ⟨k - 1, by omega, by omega, by omega⟩
    · exact ⟨k + 1, by omega, by omega, by omega⟩
  rw [← hM] at hq ⊢
  generalize (PyData.list ((List.range n).map fun j => PyData.int ((mkP (n - 1) j : Nat) : Int))) = D0
  refine wFor_at (fun i ρ => ∃ x4, ρ = [.sh D0, .sh (lD ls), .sh (.int k), .own a (behD ls k ((bitsOf M).take i)), x4]) _ ?_ ?_ _ ⟨.un, rfl⟩
  · rintro ρ ⟨x4, rfl⟩
    rw [List.length_map, List.take_length]
    try simp only [tdSeq, tdIfS, tdRet, tdRetN, tdNext, tdNever, tdDrop, tdBreak, tdCont, tdSet, tdOwn, tdAsg, tdAppend, tdExtend, tdPop, tdAug, tdAugSub, tdPar, tdParOO, tdParSO, tdAsgSOS, tdParSD, tdPutT, tdSortKeys, tdFor, tdLc, tdYes, gdName, gdNil, gdCons, gdTup, gdSub, tdSh, tdLent, tdC, td1, td2, tf1, tdB, tdAnd, tdOr, tdNot, tdAndV, tdOrV, tdNotV, tdIf, tdNil, tdCons, tdTup, tdLst, tdChain, tdIxB, tdRep, tdCat, tdCall, tdCallR, tiL, tiT, tiR1, tiR2, rI, rI0, rU, rLen, rInts, rBools, rInt, rTuple, rList, rIxD, nn_none, nn_int, nn_tup, noOwn, wipeD, Slot.addr, truD, List.getElem?_cons_zero, List.getElem?_cons_succ, List.set_cons_zero, List.set_cons_succ, List.map_cons, List.map_nil, List.length_cons, List.length_nil, List.cons_append, List.nil_append, List.replicate, Nat.sub_self, Nat.zero_add, Nat.add_one_sub_one, Nat.reduceAdd, Nat.reduceSub, Nat.succ_sub_succ_eq_sub, Nat.sub_zero, List.all_cons, List.all_nil, Option.isNone_none, Bool.and_self, Bool.and_true, List.reduceReplicate, true_and, and_true, wD, bD, lD, pD, if_true, if_false, Bool.not_true, Bool.not_false, Bool.false_eq_true]
    exact hq
  · rintro i d ρ k2 hd ⟨x4, rfl⟩ hk2
    rw [List.getElem?_map] at hd
    obtain ⟨x, hx, rfl⟩ := Option.map_eq_some_iff.mp hd
    obtain ⟨y, rfl, y1, y2⟩ := hMm x (List.mem_of_getElem? hx)
    have at1 : atI (ls.map PyData.int) ((y : Nat) : Int) = some (.int (ls.getD y 0)) := atI_nat' (by rw [List.getElem?_map, rgF_at (by omega)]; rfl)
    try simp only [tdSeq, tdIfS, tdRet, tdRetN, tdNext, tdNever, tdDrop, tdBreak, tdCont, tdSet, tdOwn, tdAsg, tdAppend, tdExtend, tdPop, tdAug, tdAugSub, tdPar, tdParOO, tdParSO, tdAsgSOS, tdParSD, tdPutT, tdSortKeys, tdFor, tdLc, tdYes, gdName, gdNil, gdCons, gdTup, gdSub, tdSh, tdLent, tdC, td1, td2, tf1, tdB, tdAnd, tdOr, tdNot, tdAndV, tdOrV, tdNotV, tdIf, tdNil, tdCons, tdTup, tdLst, tdChain, tdIxB, tdRep, tdCat, tdCall, tdCallR, tiL, tiT, tiR1, tiR2, rI, rI0, rU, rLen, rInts, rBools, rInt, rTuple, rList, rIxD, nn_none, nn_int, nn_tup, noOwn, wipeD, Slot.addr, truD, List.getElem?_cons_zero, List.getElem?_cons_succ, List.set_cons_zero, List.set_cons_succ, List.map_cons, List.map_nil, List.length_cons, List.length_nil, List.cons_append, List.nil_append, List.replicate, Nat.sub_self, Nat.zero_add, Nat.add_one_sub_one, Nat.reduceAdd, Nat.reduceSub, Nat.succ_sub_succ_eq_sub, Nat.sub_zero, List.all_cons, List.all_nil, Option.isNone_none, Bool.and_self, Bool.and_true, List.reduceReplicate, true_and, and_true, wD, bD, lD, pD, if_true, if_false, Bool.not_true, Bool.not_false, Bool.false_eq_true]
    refine ⟨_, at1, ?_⟩
    try simp only [tdSeq, tdIfS, tdRet, tdRetN, tdNext, tdNever, tdDrop, tdBreak, tdCont, tdSet, tdOwn, tdAsg, tdAppend, tdExtend, tdPop, tdAug, tdAugSub, tdPar, tdParOO, tdParSO, tdAsgSOS, tdParSD, tdPutT, tdSortKeys, tdFor, tdLc, tdYes, gdName, gdNil, gdCons, gdTup, gdSub, tdSh, tdLent, tdC, td1, td2, tf1, tdB, tdAnd, tdOr, tdNot, tdAndV, tdOrV, tdNotV, tdIf, tdNil, tdCons, tdTup, tdLst, tdChain, tdIxB, tdRep, tdCat, tdCall, tdCallR, tiL, tiT, tiR1, tiR2, rI, rI0, rU, rLen, rInts, rBools, rInt, rTuple, rList, rIxD, nn_none, nn_int, nn_tup, noOwn, wipeD, Slot.addr, truD, List.getElem?_cons_zero, List.getElem?_cons_succ, List.set_cons_zero, List.set_cons_succ, List.map_cons, List.map_nil, List.length_cons, List.length_nil, List.cons_append, List.nil_append, List.replicate, Nat.sub_self, Nat.zero_add, Nat.add_one_sub_one, Nat.reduceAdd, Nat.reduceSub, Nat.succ_sub_succ_eq_sub, Nat.sub_zero, List.all_cons, List.all_nil, Option.isNone_none, Bool.and_self, Bool.and_true, List.reduceReplicate, true_and, and_true, wD, bD, lD, pD, if_true, if_false, Bool.not_true, Bool.not_false, Bool.false_eq_true]
    refine ⟨_, at1, ?_⟩
    try simp only [tdSeq, tdIfS, tdRet, tdRetN, tdNext, tdNever, tdDrop, tdBreak, tdCont, tdSet, tdOwn, tdAsg, tdAppend, tdExtend, tdPop, tdAug, tdAugSub, tdPar, tdParOO, tdParSO, tdAsgSOS, tdParSD, tdPutT, tdSortKeys, tdFor, tdLc, tdYes, gdName, gdNil, gdCons, gdTup, gdSub, tdSh, tdLent, tdC, td1, td2, tf1, tdB, tdAnd, tdOr, tdNot, tdAndV, tdOrV, tdNotV, tdIf, tdNil, tdCons, tdTup, tdLst, tdChain, tdIxB, tdRep, tdCat, tdCall, tdCallR, tiL, tiT, tiR1, tiR2, rI, rI0, rU, rLen, rInts, rBools, rInt, rTuple, rList, rIxD, nn_none, nn_int, nn_tup, noOwn, wipeD, Slot.addr, truD, List.getElem?_cons_zero, List.getElem?_cons_succ, List.set_cons_zero, List.set_cons_succ, List.map_cons, List.map_nil, List.length_cons, List.length_nil, List.cons_append, List.nil_append, List.replicate, Nat.sub_self, Nat.zero_add, Nat.add_one_sub_one, Nat.reduceAdd, Nat.reduceSub, Nat.succ_sub_succ_eq_sub, Nat.sub_zero, List.all_cons, List.all_nil, Option.isNone_none, Bool.and_self, Bool.and_true, List.reduceReplicate, true_and, and_true, wD, bD, lD, pD, if_true, if_false, Bool.not_true, Bool.not_false, Bool.false_eq_true]
    refine ⟨y, ixN_nat' (by rw [behD_len]; omega), ?_⟩
    rw [behD_step (by omega) y2]
    have et : (bitsOf M).take (i + 1) = (bitsOf M).take i ++ [(y : Int)] := by rw [List.take_succ, hx]; rfl
    rw [← et]
    exact hk2 _ ⟨_, rfl⟩
theorem fn_line_of (T : Top K mg) : Fn P w K mg base 1 "line_of" (spD K 1 sd_line_of) := by
  refine defD T.d_line_of sc_line_of (by decide) (fun f cdv A outer s H E hr => (dss_one (ds_ret (de_tup (da_cons (dv 0) (da_cons (de_t1 call_tuple_of l1_tuple rfl T.b_tuple (by decide +kernel) (d1 (DE.lend (DF.de (df_lc (own := [("place", 1)]) rfl sc_line_of.nd (di_range1 rfl T.b_range (da_cons (de_op l_sub (dv 0) de_int) da_nil)) (blkOk_by (N := ["many", "place"]) (sc := defScope s_line_of) (by decide +kernel)) (fun _ _ _ _ _ => (dgn 1 sc_line_of.nd)) (fun _ _ _ _ _ => dts_nil) (fun _ _ _ _ _ => (de_tup (da_cons (dv 1) (da_cons (de_op l_add (dv 1) de_int) da_nil))))))))) da_nil)))))) ?_
  rintro ds q hl ⟨n, rfl, h1, h40, hq⟩
  simp only [tdSeq, tdIfS, tdRet, tdRetN, tdNext, tdNever, tdDrop, tdBreak, tdCont, tdSet, tdOwn, tdAsg, tdAppend, tdExtend, tdPop, tdAug, tdAugSub, tdPar, tdParOO, tdParSO, tdAsgSOS, tdParSD, tdPutT, tdSortKeys, tdFor, tdLc, tdYes, gdName, gdNil, gdCons, gdTup, gdSub, tdSh, tdLent, tdC, td1, td2, tf1, tdB, tdAnd, tdOr, tdNot, tdAndV, tdOrV, tdNotV, tdIf, tdNil, tdCons, tdTup, tdLst, tdChain, tdIxB, tdRep, tdCat, tdCall, tdCallR, tiL, tiT, tiR1, tiR2, rI, rI0, rU, rLen, rInts, rBools, rInt, rTuple, rList, rIxD, nn_none, nn_int, nn_tup, noOwn, wipeD, Slot.addr, truD, List.getElem?_cons_zero, List.getElem?_cons_succ, List.set_cons_zero, List.set_cons_succ, List.map_cons, List.map_nil, List.length_cons, List.length_nil, List.cons_append, List.nil_append, List.replicate, Nat.sub_self, Nat.zero_add, Nat.add_one_sub_one, Nat.reduceAdd, Nat.reduceSub, Nat.succ_sub_succ_eq_sub, Nat.sub_zero, List.all_cons, List.all_nil, Option.isNone_none, Bool.and_self, Bool.and_true, List.reduceReplicate, true_and, and_true, wD, bD, lD, pD, if_true, if_false, Bool.not_true, Bool.not_false, Bool.false_eq_true]
  refine ⟨⟨by omega, by omega⟩, ?_⟩
  rw [show ((n : Int) - 1).toNat = n - 1 by omega]
  refine wLc_map (fun (j : Nat) => PyData.int (0 + (j : Int))) (fun _ => true) (fun (j : Nat) => pD ((j : Int), (j : Int) + 1)) (List.range (n - 1)) (by rw [List.length_range]; unfold sizeLine; omega) ?_ ?_
  · intro j hj k1 k2 hk1 hk2
    rw [Int.zero_add]
    try simp only [tdSeq, tdIfS, tdRet, tdRetN, tdNext, tdNever, tdDrop, tdBreak, tdCont, tdSet, tdOwn, tdAsg, tdAppend, tdExtend, tdPop, tdAug, tdAugSub, tdPar, tdParOO, tdParSO, tdAsgSOS, tdParSD, tdPutT, tdSortKeys, tdFor, tdLc, tdYes, gdName, gdNil, gdCons, gdTup, gdSub, tdSh, tdLent, tdC, td1, td2, tf1, tdB, tdAnd, tdOr, tdNot, tdAndV, tdOrV, tdNotV, tdIf, tdNil, tdCons, tdTup, tdLst, tdChain, tdIxB, tdRep, tdCat, tdCall, tdCallR, tiL, tiT, tiR1, tiR2, rI, rI0, rU, rLen, rInts, rBools, rInt, rTuple, rList, rIxD, nn_none, nn_int, nn_tup, noOwn, wipeD, Slot.addr, truD, List.getElem?_cons_zero, List.getElem?_cons_succ, List.set_cons_zero, List.set_cons_succ, List.map_cons, List.map_nil, List.length_cons, List.length_nil, List.cons_append, List.nil_append, List.replicate, Nat.sub_self, Nat.zero_add, Nat.add_one_sub_one, Nat.reduceAdd, Nat.reduceSub, Nat.succ_sub_succ_eq_sub, Nat.sub_zero, List.all_cons, List.all_nil, Option.isNone_none, Bool.and_self, Bool.and_true, List.reduceReplicate, true_and, and_true, wD, bD, lD, pD, if_true, if_false, Bool.not_true, Bool.not_false, Bool.false_eq_true]
    exact ⟨by decide, hk1 rfl⟩
  rw [filt_true]
  have ep : ((List.range (n - 1)).map fun (j : Nat) => pD ((j : Int), (j : Int) + 1)) = (pathE (n - 1)).map pD := by unfold pathE; rw [List.map_map]; rfl
  rw [ep]
  exact ⟨by decide, hq⟩
theorem fn_row_falls (T : Top K mg) (F_check_row : Fn P w K mg base 5 "check_row" (spD K 1 sd_check_row)) : Fn P w K mg base 6 "row_falls" (spD K 1 sd_row_falls) := by
  refine defD T.d_row_falls sc_row_falls (by decide) (fun f cdv A outer s H E hr => (dss_cons (ds_expr (dcall F_check_row hr (da_cons (dv 0) da_nil)))
  (dss_cons (dset 1 sc_row_falls.nd (DF.de (df_listAcc rfl rfl T.b_list rfl T.g_accumulate (dv 0))))
  (dss_cons (ds_if (dt_cmp (l_eq hr.units) (de_op l_mod (de_ix (dv 1) (de_un l_neg de_int) (fun _ _ => rfl)) de_int) de_int (nomark _)) (dss_one (ds_ret de_non)) dss_nil)
  (dss_one (ds_ret (de_t1 call_tuple_of l1_tuple rfl T.b_tuple (by decide +kernel) (d1 (DE.lend (DF.de (df_lc (own := [("place", 2), ("many", 3)]) rfl sc_row_falls.nd (di_enumL rfl T.b_enumerate (dv 1)) (blkOk_by (N := ["row", "sums", "place", "many"]) (sc := defScope s_row_falls) (by decide +kernel)) (fun _ _ _ _ _ => (dg_tup (n := 2) rfl (dgs_cons (dgn 2 sc_row_falls.nd) (dgs_cons (dgn 3 sc_row_falls.nd) dgs_nil)))) (fun _ _ _ _ _ => (dts_one (dt_cmp (l_eq hr.units) (de_op l_mod (dv 3) de_int) de_int (nomark _)))) (fun _ _ _ _ _ => (dv 2))))))))))))) ?_
  rintro ds q hl ⟨n, ls, rfl, F, h1, h40, hq⟩
  have hlen := F.len
  simp only [tdSeq, tdIfS, tdRet, tdRetN, tdNext, tdNever, tdDrop, tdBreak, tdCont, tdSet, tdOwn, tdAsg, tdAppend, tdExtend, tdPop, tdAug, tdAugSub, tdPar, tdParOO, tdParSO, tdAsgSOS, tdParSD, tdPutT, tdSortKeys, tdFor, tdLc, tdYes, gdName, gdNil, gdCons, gdTup, gdSub, tdSh, tdLent, tdC, td1, td2, tf1, tdB, tdAnd, tdOr, tdNot, tdAndV, tdOrV, tdNotV, tdIf, tdNil, tdCons, tdTup, tdLst, tdChain, tdIxB, tdRep, tdCat, tdCall, tdCallR, tiL, tiT, tiR1, tiR2, rI, rI0, rU, rLen, rInts, rBools, rInt, rTuple, rList, rIxD, nn_none, nn_int, nn_tup, noOwn, wipeD, Slot.addr, truD, List.getElem?_cons_zero, List.getElem?_cons_succ, List.set_cons_zero, List.set_cons_succ, List.map_cons, List.map_nil, List.length_cons, List.length_nil, List.cons_append, List.nil_append, List.replicate, Nat.sub_self, Nat.zero_add, Nat.add_one_sub_one, Nat.reduceAdd, Nat.reduceSub, Nat.succ_sub_succ_eq_sub, Nat.sub_zero, List.all_cons, List.all_nil, Option.isNone_none, Bool.and_self, Bool.and_true, List.reduceReplicate, true_and, and_true, wD, bD, lD, pD, if_true, if_false, Bool.not_true, Bool.not_false, Bool.false_eq_true]
  refine ⟨n, ls, rfl, F, h1, h40, ?_⟩
  try simp only [tdSeq, tdIfS, tdRet, tdRetN, tdNext, tdNever, tdDrop, tdBreak, tdCont, tdSet, tdOwn, tdAsg, tdAppend, tdExtend, tdPop, tdAug, tdAugSub, tdPar, tdParOO, tdParSO, tdAsgSOS, tdParSD, tdPutT, tdSortKeys, tdFor, tdLc, tdYes, gdName, gdNil, gdCons, gdTup, gdSub, tdSh, tdLent, tdC, td1, td2, tf1, tdB, tdAnd, tdOr, tdNot, tdAndV, tdOrV, tdNotV, tdIf, tdNil, tdCons, tdTup, tdLst, tdChain, tdIxB, tdRep, tdCat, tdCall, tdCallR, tiL, tiT, tiR1, tiR2, rI, rI0, rU, rLen, rInts, rBools, rInt, rTuple, rList, rIxD, nn_none, nn_int, nn_tup, noOwn, wipeD, Slot.addr, truD, List.getElem?_cons_zero, List.getElem?_cons_succ, List.set_cons_zero, List.set_cons_succ, List.map_cons, List.map_nil, List.length_cons, List.length_nil, List.cons_append, List.nil_append, List.replicate, Nat.sub_self, Nat.zero_add, Nat.add_one_sub_one, Nat.reduceAdd, Nat.reduceSub, Nat.succ_sub_succ_eq_sub, Nat.sub_zero, List.all_cons, List.all_nil, Option.isNone_none, Bool.and_self, Bool.and_true, List.reduceReplicate, true_and, and_true, wD, bD, lD, pD, if_true, if_false, Bool.not_true, Bool.not_false, Bool.false_eq_true]
  refine ⟨ls, rfl, .int ls.sum, accV_last (by omega), by decide, sh_int _, sh_int _, ?_⟩
  rw [eqv_int]
  by_cases he : ls.sum % 2 = 0
  · rw [if_pos he] at hq
    exact ite_yes (decide_eq_true he) hq
  · rw [if_neg he] at hq
    refine ite_no (by simpa using he) ?_
    try simp only [tdSeq, tdIfS, tdRet, tdRetN, tdNext, tdNever, tdDrop, tdBreak, tdCont, tdSet, tdOwn, tdAsg, tdAppend, tdExtend, tdPop, tdAug, tdAugSub, tdPar, tdParOO, tdParSO, tdAsgSOS, tdParSD, tdPutT, tdSortKeys, tdFor, tdLc, tdYes, gdName, gdNil, gdCons, gdTup, gdSub, tdSh, tdLent, tdC, td1, td2, tf1, tdB, tdAnd, tdOr, tdNot, tdAndV, tdOrV, tdNotV, tdIf, tdNil, tdCons, tdTup, tdLst, tdChain, tdIxB, tdRep, tdCat, tdCall, tdCallR, tiL, tiT, tiR1, tiR2, rI, rI0, rU, rLen, rInts, rBools, rInt, rTuple, rList, rIxD, nn_none, nn_int, nn_tup, noOwn, wipeD, Slot.addr, truD, List.getElem?_cons_zero, List.getElem?_cons_succ, List.set_cons_zero, List.set_cons_succ, List.map_cons, List.map_nil, List.length_cons, List.length_nil, List.cons_append, List.nil_append, List.replicate, Nat.sub_self, Nat.zero_add, Nat.add_one_sub_one, Nat.reduceAdd, Nat.reduceSub, Nat.succ_sub_succ_eq_sub, Nat.sub_zero, List.all_cons, List.all_nil, Option.isNone_none, Bool.and_self, Bool.and_true, List.reduceReplicate, true_and, and_true, wD, bD, lD, pD, if_true, if_false, Bool.not_true, Bool.not_false, Bool.false_eq_true]
    rw [acc_rng, enum_rng]
    refine wLc_map (fun (t : Nat) => PyData.tuple [.int (t : Int), .int (pS ls (t + 1))]) (fun (t : Nat) => decide (pS ls (t + 1) % 2 = 0)) (fun (t : Nat) => .int (t : Int)) (List.range ls.length) (by rw [List.length_range]; unfold sizeLine; omega) ?_ ?_
    · intro t ht k1 k2 hk1 hk2
      try simp only [tdSeq, tdIfS, tdRet, tdRetN, tdNext, tdNever, tdDrop, tdBreak, tdCont, tdSet, tdOwn, tdAsg, tdAppend, tdExtend, tdPop, tdAug, tdAugSub, tdPar, tdParOO, tdParSO, tdAsgSOS, tdParSD, tdPutT, tdSortKeys, tdFor, tdLc, tdYes, gdName, gdNil, gdCons, gdTup, gdSub, tdSh, tdLent, tdC, td1, td2, tf1, tdB, tdAnd, tdOr, tdNot, tdAndV, tdOrV, tdNotV, tdIf, tdNil, tdCons, tdTup, tdLst, tdChain, tdIxB, tdRep, tdCat, tdCall, tdCallR, tiL, tiT, tiR1, tiR2, rI, rI0, rU, rLen, rInts, rBools, rInt, rTuple, rList, rIxD, nn_none, nn_int, nn_tup, noOwn, wipeD, Slot.addr, truD, List.getElem?_cons_zero, List.getElem?_cons_succ, List.set_cons_zero, List.set_cons_succ, List.map_cons, List.map_nil, List.length_cons, List.length_nil, List.cons_append, List.nil_append, List.replicate, Nat.sub_self, Nat.zero_add, Nat.add_one_sub_one, Nat.reduceAdd, Nat.reduceSub, Nat.succ_sub_succ_eq_sub, Nat.sub_zero, List.all_cons, List.all_nil, Option.isNone_none, Bool.and_self, Bool.and_true, List.reduceReplicate, true_and, and_true, wD, bD, lD, pD, if_true, if_false, Bool.not_true, Bool.not_false, Bool.false_eq_true]
      refine ⟨by decide, sh_int _, sh_int _, ?_⟩
      rw [eqv_int]
      by_cases h : pS ls (t + 1) % 2 = 0
      · exact ite_yes (decide_eq_true h) (hk1 (decide_eq_true h))
      · exact ite_no (by simpa using h) (hk2 (decide_eq_false h))
    · have e : (((List.range ls.length).filter fun (t : Nat) => decide (pS ls (t + 1) % 2 = 0)).map fun (t : Nat) => PyData.int (t : Int)) = (evF ls).map .int := by unfold evF; rw [List.map_map]; rfl
      exact Eq.mpr (congrArg (fun z => q (PyData.tuple z)) e) hq
theorem fn_row_count (T : Top K mg) (F_row_falls : Fn P w K mg base 6 "row_falls" (spD K 1 sd_row_falls)) : Fn P w K mg base 7 "row_count" (spD K 1 sd_row_count) := by
  refine defD T.d_row_count sc_row_count (by decide) (fun f cdv A outer s H E hr => (dss_cons (dset 1 sc_row_count.nd (dcall F_row_falls hr (da_cons (dv 0) da_nil)))
  (dss_cons (ds_if (dt_cmp l_isN (dv 1) de_non (nomark _)) (dss_one (ds_ret de_int)) dss_nil)
  (dss_cons (dset 2 sc_row_count.nd (DF.de (df_lst (da_cons de_int da_nil))))
  (dss_cons (ds_for PassesOwn.never rfl (di_range1 rfl T.b_range (da_cons (de_op l_sub (de_b1 call_len_seq l1_len rfl T.b_len (by decide +kernel) (d1 (dbv 0))) de_int) da_nil)) (dgn 3 sc_row_count.nd)
   (dss_cons (dset 4 sc_row_count.nd (DF.de (df_listAccL rfl rfl T.b_list rfl T.g_accumulate (de_op l_addL (DF.de (df_lst (da_cons de_int da_nil))) (dv 2)))))
  (dss_one (dset 2 sc_row_count.nd (de_if (dt_cmp l_in (dv 3) (dv 1) (by rfl)) (DF.de (df_lc (own := [("many", 5)]) rfl sc_row_count.nd (di_list (dv 4)) (blkOk_by (N := ["row", "falls", "counts", "place", "before", "many"]) (sc := defScope s_row_count) (by decide +kernel)) (fun _ _ _ _ _ => (dgn 5 sc_row_count.nd)) (fun _ _ _ _ _ => dts_nil) (fun _ _ _ _ _ => (de_op l_sub (de_ix (dv 4) (de_un l_neg de_int) (fun _ _ => rfl)) (dv 5))))) (dv 4))))))
  (dss_one (ds_ret (de_b1 (cr_sum2 rfl) l1_sum2 rfl T.b_sum (by decide +kernel) (d1 (dbv 2)))))))))) ?_
  rintro ds q hl ⟨n, ls, rfl, F, h1, h40, hq⟩
  have hlen := F.len
  simp only [tdSeq, tdIfS, tdRet, tdRetN, tdNext, tdNever, tdDrop, tdBreak, tdCont, tdSet, tdOwn, tdAsg, tdAppend, tdExtend, tdPop, tdAug, tdAugSub, tdPar, tdParOO, tdParSO, tdAsgSOS, tdParSD, tdPutT, tdSortKeys, tdFor, tdLc, tdYes, gdName, gdNil, gdCons, gdTup, gdSub, tdSh, tdLent, tdC, td1, td2, tf1, tdB, tdAnd, tdOr, tdNot, tdAndV, tdOrV, tdNotV, tdIf, tdNil, tdCons, tdTup, tdLst, tdChain, tdIxB, tdRep, tdCat, tdCall, tdCallR, tiL, tiT, tiR1, tiR2, rI, rI0, rU, rLen, rInts, rBools, rInt, rTuple, rList, rIxD, nn_none, nn_int, nn_tup, noOwn, wipeD, Slot.addr, truD, List.getElem?_cons_zero, List.getElem?_cons_succ, List.set_cons_zero, List.set_cons_succ, List.map_cons, List.map_nil, List.length_cons, List.length_nil, List.cons_append, List.nil_append, List.replicate, Nat.sub_self, Nat.zero_add, Nat.add_one_sub_one, Nat.reduceAdd, Nat.reduceSub, Nat.succ_sub_succ_eq_sub, Nat.sub_zero, List.all_cons, List.all_nil, Option.isNone_none, Bool.and_self, Bool.and_true, List.reduceReplicate, true_and, and_true, wD, bD, lD, pD, if_true, if_false, Bool.not_true, Bool.not_false, Bool.false_eq_true]
  refine ⟨n, ls, rfl, F, h1, h40, ?_⟩
  unfold rcL at hq
  by_cases he : ls.sum % 2 = 0
  · rw [if_pos he] at hq ⊢
    try simp only [tdSeq, tdIfS, tdRet, tdRetN, tdNext, tdNever, tdDrop, tdBreak, tdCont, tdSet, tdOwn, tdAsg, tdAppend, tdExtend, tdPop, tdAug, tdAugSub, tdPar, tdParOO, tdParSO, tdAsgSOS, tdParSD, tdPutT, tdSortKeys, tdFor, tdLc, tdYes, gdName, gdNil, gdCons, gdTup, gdSub, tdSh, tdLent, tdC, td1, td2, tf1, tdB, tdAnd, tdOr, tdNot, tdAndV, tdOrV, tdNotV, tdIf, tdNil, tdCons, tdTup, tdLst, tdChain, tdIxB, tdRep, tdCat, tdCall, tdCallR, tiL, tiT, tiR1, tiR2, rI, rI0, rU, rLen, rInts, rBools, rInt, rTuple, rList, rIxD, nn_none, nn_int, nn_tup, noOwn, wipeD, Slot.addr, truD, List.getElem?_cons_zero, List.getElem?_cons_succ, List.set_cons_zero, List.set_cons_succ, List.map_cons, List.map_nil, List.length_cons, List.length_nil, List.cons_append, List.nil_append, List.replicate, Nat.sub_self, Nat.zero_add, Nat.add_one_sub_one, Nat.reduceAdd, Nat.reduceSub, Nat.succ_sub_succ_eq_sub, Nat.sub_zero, List.all_cons, List.all_nil, Option.isNone_none, Bool.and_self, Bool.and_true, List.reduceReplicate, true_and, and_true, wD, bD, lD, pD, if_true, if_false, Bool.not_true, Bool.not_false, Bool.false_eq_true]
    exact hq
  · rw [if_neg he] at hq ⊢
    obtain ⟨m, em⟩ : ∃ m, ls.length = m + 1 := ⟨ls.length - 1, by omega⟩
    rw [em] at hq
    try simp only [tdSeq, tdIfS, tdRet, tdRetN, tdNext, tdNever, tdDrop, tdBreak, tdCont, tdSet, tdOwn, tdAsg, tdAppend, tdExtend, tdPop, tdAug, tdAugSub, tdPar, tdParOO, tdParSO, tdAsgSOS, tdParSD, tdPutT, tdSortKeys, tdFor, tdLc, tdYes, gdName, gdNil, gdCons, gdTup, gdSub, tdSh, tdLent, tdC, td1, td2, tf1, tdB, tdAnd, tdOr, tdNot, tdAndV, tdOrV, tdNotV, tdIf, tdNil, tdCons, tdTup, tdLst, tdChain, tdIxB, tdRep, tdCat, tdCall, tdCallR, tiL, tiT, tiR1, tiR2, rI, rI0, rU, rLen, rInts, rBools, rInt, rTuple, rList, rIxD, nn_none, nn_int, nn_tup, noOwn, wipeD, Slot.addr, truD, List.getElem?_cons_zero, List.getElem?_cons_succ, List.set_cons_zero, List.set_cons_succ, List.map_cons, List.map_nil, List.length_cons, List.length_nil, List.cons_append, List.nil_append, List.replicate, Nat.sub_self, Nat.zero_add, Nat.add_one_sub_one, Nat.reduceAdd, Nat.reduceSub, Nat.succ_sub_succ_eq_sub, Nat.sub_zero, List.all_cons, List.all_nil, Option.isNone_none, Bool.and_self, Bool.and_true, List.reduceReplicate, true_and, and_true, wD, bD, lD, pD, if_true, if_false, Bool.not_true, Bool.not_false, Bool.false_eq_true]
    rw [List.length_map, em]
    refine ⟨by decide, ⟨by omega, by omega⟩, ?_⟩
    rw [show (((m + 1 : Nat) : Int) - 1).toNat = m by omega]
    refine wFor_at (fun i ρ => ∃ x3 x4, ρ = [.sh (lD ls), .sh (tI (evF ls)), .sh (.list ((nI (rwS (evB ls) i)).map .int)), x3, x4, .un]) _ ?_ ?_ _ ⟨.un, .un, rfl⟩
    · rintro ρ ⟨x3, x4, rfl⟩
      rw [rangeD_len]
      try simp only [tdSeq, tdIfS, tdRet, tdRetN, tdNext, tdNever, tdDrop, tdBreak, tdCont, tdSet, tdOwn, tdAsg, tdAppend, tdExtend, tdPop, tdAug, tdAugSub, tdPar, tdParOO, tdParSO, tdAsgSOS, tdParSD, tdPutT, tdSortKeys, tdFor, tdLc, tdYes, gdName, gdNil, gdCons, gdTup, gdSub, tdSh, tdLent, tdC, td1, td2, tf1, tdB, tdAnd, tdOr, tdNot, tdAndV, tdOrV, tdNotV, tdIf, tdNil, tdCons, tdTup, tdLst, tdChain, tdIxB, tdRep, tdCat, tdCall, tdCallR, tiL, tiT, tiR1, tiR2, rI, rI0, rU, rLen, rInts, rBools, rInt, rTuple, rList, rIxD, nn_none, nn_int, nn_tup, noOwn, wipeD, Slot.addr, truD, List.getElem?_cons_zero, List.getElem?_cons_succ, List.set_cons_zero, List.set_cons_succ, List.map_cons, List.map_nil, List.length_cons, List.length_nil, List.cons_append, List.nil_append, List.replicate, Nat.sub_self, Nat.zero_add, Nat.add_one_sub_one, Nat.reduceAdd, Nat.reduceSub, Nat.succ_sub_succ_eq_sub, Nat.sub_zero, List.all_cons, List.all_nil, Option.isNone_none, Bool.and_self, Bool.and_true, List.reduceReplicate, true_and, and_true, wD, bD, lD, pD, if_true, if_false, Bool.not_true, Bool.not_false, Bool.false_eq_true]
      refine ⟨_, rfl, ?_⟩
      rw [nI_sum]
      exact hq
    · rintro i d ρ k hd ⟨x3, x4, rfl⟩ hk
      obtain ⟨hi, rfl⟩ := rangeD_get hd
      rw [Int.zero_add]
      have hl2 := rwS_len (evB ls) i
      obtain ⟨c, hc⟩ : ∃ c, c = rwS (evB ls) i := ⟨_, rfl⟩
      have hstep := rwS_step (evB ls) i
      rw [← hc] at hstep hl2 ⊢
      have hcl : (nI c).length = i + 1 := by unfold nI; rw [List.length_map]; exact hl2
      have hal : (accV (0 :: nI c)).length = i + 2 := by rw [accV_pre, List.length_map, List.length_range]; omega
      try simp only [tdSeq, tdIfS, tdRet, tdRetN, tdNext, tdNever, tdDrop, tdBreak, tdCont, tdSet, tdOwn, tdAsg, tdAppend, tdExtend, tdPop, tdAug, tdAugSub, tdPar, tdParOO, tdParSO, tdAsgSOS, tdParSD, tdPutT, tdSortKeys, tdFor, tdLc, tdYes, gdName, gdNil, gdCons, gdTup, gdSub, tdSh, tdLent, tdC, td1, td2, tf1, tdB, tdAnd, tdOr, tdNot, tdAndV, tdOrV, tdNotV, tdIf, tdNil, tdCons, tdTup, tdLst, tdChain, tdIxB, tdRep, tdCat, tdCall, tdCallR, tiL, tiT, tiR1, tiR2, rI, rI0, rU, rLen, rInts, rBools, rInt, rTuple, rList, rIxD, nn_none, nn_int, nn_tup, noOwn, wipeD, Slot.addr, truD, List.getElem?_cons_zero, List.getElem?_cons_succ, List.set_cons_zero, List.set_cons_succ, List.map_cons, List.map_nil, List.length_cons, List.length_nil, List.cons_append, List.nil_append, List.replicate, Nat.sub_self, Nat.zero_add, Nat.add_one_sub_one, Nat.reduceAdd, Nat.reduceSub, Nat.succ_sub_succ_eq_sub, Nat.sub_zero, List.all_cons, List.all_nil, Option.isNone_none, Bool.and_self, Bool.and_true, List.reduceReplicate, true_and, and_true, wD, bD, lD, pD, if_true, if_false, Bool.not_true, Bool.not_false, Bool.false_eq_true]
      refine ⟨by decide, by first | (rw [List.length_map]; simp only [List.length_cons, List.length_nil]; unfold sizeLine; omega) | (simp only [List.length_map, List.length_cons, List.length_nil]; unfold sizeLine; omega), 0 :: nI c, rfl, evF ls, rfl, ?_⟩
      have ec : (evF ls).contains (i : Int) = evB ls i := Bool.eq_iff_iff.mpr (by unfold evB; rw [List.contains_iff_mem, decide_eq_true_eq])
      rw [ec]
      by_cases hF : evB ls i = true
      · rw [if_pos hF] at hstep
        refine ite_yes hF ?_
        refine wLc_map PyData.int (fun _ => true) (fun x => PyData.int (((c.sum : Nat) : Int) - x)) (accV (0 :: nI c)) (by unfold sizeLine; omega) ?_ ?_
        · intro x hx k1 k2 hk1 hk2
          try simp only [tdSeq, tdIfS, tdRet, tdRetN, tdNext, tdNever, tdDrop, tdBreak, tdCont, tdSet, tdOwn, tdAsg, tdAppend, tdExtend, tdPop, tdAug, tdAugSub, tdPar, tdParOO, tdParSO, tdAsgSOS, tdParSD, tdPutT, tdSortKeys, tdFor, tdLc, tdYes, gdName, gdNil, gdCons, gdTup, gdSub, tdSh, tdLent, tdC, td1, td2, tf1, tdB, tdAnd, tdOr, tdNot, tdAndV, tdOrV, tdNotV, tdIf, tdNil, tdCons, tdTup, tdLst, tdChain, tdIxB, tdRep, tdCat, tdCall, tdCallR, tiL, tiT, tiR1, tiR2, rI, rI0, rU, rLen, rInts, rBools, rInt, rTuple, rList, rIxD, nn_none, nn_int, nn_tup, noOwn, wipeD, Slot.addr, truD, List.getElem?_cons_zero, List.getElem?_cons_succ, List.set_cons_zero, List.set_cons_succ, List.map_cons, List.map_nil, List.length_cons, List.length_nil, List.cons_append, List.nil_append, List.replicate, Nat.sub_self, Nat.zero_add, Nat.add_one_sub_one, Nat.reduceAdd, Nat.reduceSub, Nat.succ_sub_succ_eq_sub, Nat.sub_zero, List.all_cons, List.all_nil, Option.isNone_none, Bool.and_self, Bool.and_true, List.reduceReplicate, true_and, and_true, wD, bD, lD, pD, if_true, if_false, Bool.not_true, Bool.not_false, Bool.false_eq_true]
          refine ⟨_, accV_end c, ?_⟩
          exact hk1 rfl
        · rw [filt_true]
          refine hk _ ⟨.sh (.int (i : Int)), .sh (.list ((accV (0 :: nI c)).map PyData.int)), ?_⟩
          rw [hstep, List.map_map]
          rfl
      · rw [if_neg hF] at hstep
        refine ite_no (by simpa using hF) ?_
        refine hk _ ⟨.sh (.int (i : Int)), .sh (.list ((accV (0 :: nI c)).map PyData.int)), ?_⟩
        rw [hstep]
        rfl
theorem fn_orders_by_falls (T : Top K mg) (F_check_count : Fn P w K mg base 3 "check_count" (spD K 2 sd_check_count)) : Fn P w K mg base 4 "orders_by_falls" (spD K 1 sd_orders_by_falls) := by
  refine defD T.d_orders_by_falls sc_orders_by_falls (by decide) (fun f cdv A outer s H E hr => (dss_cons (ds_expr (dcall F_check_count hr (da_cons (dv 0) (da_cons (de_globI rfl T.c_MOST_IN_ROW) da_nil))))
  (dss_cons (dset 1 sc_orders_by_falls.nd (DF.de (df_lst (da_cons de_int da_nil))))
  (dss_cons (ds_for PassesOwn.never rfl (di_range2 rfl T.b_range (da_cons de_int (da_cons (de_op l_add (dv 0) de_int) da_nil))) (dgn 2 sc_orders_by_falls.nd)
   (dss_cons (by first | exact ds_setLc (i := 3) (own := [("falls", 4), ("count", 5)]) rfl sc_orders_by_falls.nd rfl rfl (sw_true rfl rfl rfl (by decide +kernel)) (di_enumL rfl T.b_enumerate (dv 1)) (blkOk_by (N := ["many", "counts", "size", "kept", "falls", "count", "more", "one", "other"]) (sc := defScope s_orders_by_falls) (by decide +kernel)) (fun _ _ _ _ _ => (dg_tup (n := 2) rfl (dgs_cons (dgn 4 sc_orders_by_falls.nd) (dgs_cons (dgn 5 sc_orders_by_falls.nd) dgs_nil)))) (fun _ _ _ _ _ => dts_nil) (fun _ _ _ _ _ => (de_op l_mul (de_op l_add (dv 4) de_int) (dv 5))) | exact (dset 3 sc_orders_by_falls.nd (DF.de (df_lc (own := [("falls", 4), ("count", 5)]) rfl sc_orders_by_falls.nd (di_enumL rfl T.b_enumerate (dv 1)) (blkOk_by (N := ["many", "counts", "size", "kept", "falls", "count", "more", "one", "other"]) (sc := defScope s_orders_by_falls) (by decide +kernel)) (fun _ _ _ _ _ => (dg_tup (n := 2) rfl (dgs_cons (dgn 4 sc_orders_by_falls.nd) (dgs_cons (dgn 5 sc_orders_by_falls.nd) dgs_nil)))) (fun _ _ _ _ _ => dts_nil) (fun _ _ _ _ _ => (de_op l_mul (de_op l_add (dv 4) de_int) (dv 5)))))))
  (dss_cons (by first | exact ds_setLc (i := 6) (own := [("falls", 4), ("count", 5)]) rfl sc_orders_by_falls.nd rfl rfl (sw_true rfl rfl rfl (by decide +kernel)) (di_enumL rfl T.b_enumerate (dv 1)) (blkOk_by (N := ["many", "counts", "size", "kept", "falls", "count", "more", "one", "other"]) (sc := defScope s_orders_by_falls) (by decide +kernel)) (fun _ _ _ _ _ => (dg_tup (n := 2) rfl (dgs_cons (dgn 4 sc_orders_by_falls.nd) (dgs_cons (dgn 5 sc_orders_by_falls.nd) dgs_nil)))) (fun _ _ _ _ _ => dts_nil) (fun _ _ _ _ _ => (de_op l_mul (de_op l_sub (de_op l_sub (dv 2) de_int) (dv 4)) (dv 5))) | exact (dset 6 sc_orders_by_falls.nd (DF.de (df_lc (own := [("falls", 4), ("count", 5)]) rfl sc_orders_by_falls.nd (di_enumL rfl T.b_enumerate (dv 1)) (blkOk_by (N := ["many", "counts", "size", "kept", "falls", "count", "more", "one", "other"]) (sc := defScope s_orders_by_falls) (by decide +kernel)) (fun _ _ _ _ _ => (dg_tup (n := 2) rfl (dgs_cons (dgn 4 sc_orders_by_falls.nd) (dgs_cons (dgn 5 sc_orders_by_falls.nd) dgs_nil)))) (fun _ _ _ _ _ => dts_nil) (fun _ _ _ _ _ => (de_op l_mul (de_op l_sub (de_op l_sub (dv 2) de_int) (dv 4)) (dv 5)))))))
  (dss_one (by first | exact ds_setLc (i := 1) (own := [("one", 7), ("other", 8)]) rfl sc_orders_by_falls.nd rfl rfl (sw_true rfl rfl rfl (by decide +kernel)) (di_zip rfl T.b_zip (de_op l_addL (dv 3) (DF.de (df_lst (da_cons de_int da_nil)))) (de_op l_addL (DF.de (df_lst (da_cons de_int da_nil))) (dv 6))) (blkOk_by (N := ["many", "counts", "size", "kept", "falls", "count", "more", "one", "other"]) (sc := defScope s_orders_by_falls) (by decide +kernel)) (fun _ _ _ _ _ => (dg_tup (n := 2) rfl (dgs_cons (dgn 7 sc_orders_by_falls.nd) (dgs_cons (dgn 8 sc_orders_by_falls.nd) dgs_nil)))) (fun _ _ _ _ _ => dts_nil) (fun _ _ _ _ _ => (de_op l_add (dv 7) (dv 8))) | exact (dset 1 sc_orders_by_falls.nd (DF.de (df_lc (own := [("one", 7), ("other", 8)]) rfl sc_orders_by_falls.nd (di_zip rfl T.b_zip (de_op l_addL (dv 3) (DF.de (df_lst (da_cons de_int da_nil)))) (de_op l_addL (DF.de (df_lst (da_cons de_int da_nil))) (dv 6))) (blkOk_by (N := ["many", "counts", "size", "kept", "falls", "count", "more", "one", "other"]) (sc := defScope s_orders_by_falls) (by decide +kernel)) (fun _ _ _ _ _ => (dg_tup (n := 2) rfl (dgs_cons (dgn 7 sc_orders_by_falls.nd) (dgs_cons (dgn 8 sc_orders_by_falls.nd) dgs_nil)))) (fun _ _ _ _ _ => dts_nil) (fun _ _ _ _ _ => (de_op l_add (dv 7) (dv 8)))))))))))
  (dss_one (ds_ret (de_t1 call_tuple_of l1_tuple rfl T.b_tuple (by decide +kernel) (d1 (dbv 1))))))))) ?_
  rintro ds q hl ⟨n, rfl, h1, h40, hq⟩
  simp only [tdSeq, tdIfS, tdRet, tdRetN, tdNext, tdNever, tdDrop, tdBreak, tdCont, tdSet, tdOwn, tdAsg, tdAppend, tdExtend, tdPop, tdAug, tdAugSub, tdPar, tdParOO, tdParSO, tdAsgSOS, tdParSD, tdPutT, tdSortKeys, tdFor, tdLc, tdYes, gdName, gdNil, gdCons, gdTup, gdSub, tdSh, tdLent, tdC, td1, td2, tf1, tdB, tdAnd, tdOr, tdNot, tdAndV, tdOrV, tdNotV, tdIf, tdNil, tdCons, tdTup, tdLst, tdChain, tdIxB, tdRep, tdCat, tdCall, tdCallR, tiL, tiT, tiR1, tiR2, rI, rI0, rU, rLen, rInts, rBools, rInt, rTuple, rList, rIxD, nn_none, nn_int, nn_tup, noOwn, wipeD, Slot.addr, truD, List.getElem?_cons_zero, List.getElem?_cons_succ, List.set_cons_zero, List.set_cons_succ, List.map_cons, List.map_nil, List.length_cons, List.length_nil, List.cons_append, List.nil_append, List.replicate, Nat.sub_self, Nat.zero_add, Nat.add_one_sub_one, Nat.reduceAdd, Nat.reduceSub, Nat.succ_sub_succ_eq_sub, Nat.sub_zero, List.all_cons, List.all_nil, Option.isNone_none, Bool.and_self, Bool.and_true, List.reduceReplicate, true_and, and_true, wD, bD, lD, pD, if_true, if_false, Bool.not_true, Bool.not_false, Bool.false_eq_true]
  refine ⟨n, 40, rfl, by omega, by omega, ?_⟩
  refine ⟨by decide, ⟨by omega, by omega⟩, ?_⟩
  refine wFor_at (fun i ρ => ∃ x2 x3 x6, ρ = [.sh (.int n), .sh (.list ((nI (eulN i)).map .int)), x2, x3, .un, .un, x6, .un, .un]) _ ?_ ?_ _ ⟨.un, .un, .un, rfl⟩
  · rintro ρ ⟨x2, x3, x6, rfl⟩
    rw [rangeD_len, show ((n : Int) + 1 - 2).toNat = n - 1 by omega]
    try simp only [tdSeq, tdIfS, tdRet, tdRetN, tdNext, tdNever, tdDrop, tdBreak, tdCont, tdSet, tdOwn, tdAsg, tdAppend, tdExtend, tdPop, tdAug, tdAugSub, tdPar, tdParOO, tdParSO, tdAsgSOS, tdParSD, tdPutT, tdSortKeys, tdFor, tdLc, tdYes, gdName, gdNil, gdCons, gdTup, gdSub, tdSh, tdLent, tdC, td1, td2, tf1, tdB, tdAnd, tdOr, tdNot, tdAndV, tdOrV, tdNotV, tdIf, tdNil, tdCons, tdTup, tdLst, tdChain, tdIxB, tdRep, tdCat, tdCall, tdCallR, tiL, tiT, tiR1, tiR2, rI, rI0, rU, rLen, rInts, rBools, rInt, rTuple, rList, rIxD, nn_none, nn_int, nn_tup, noOwn, wipeD, Slot.addr, truD, List.getElem?_cons_zero, List.getElem?_cons_succ, List.set_cons_zero, List.set_cons_succ, List.map_cons, List.map_nil, List.length_cons, List.length_nil, List.cons_append, List.nil_append, List.replicate, Nat.sub_self, Nat.zero_add, Nat.add_one_sub_one, Nat.reduceAdd, Nat.reduceSub, Nat.succ_sub_succ_eq_sub, Nat.sub_zero, List.all_cons, List.all_nil, Option.isNone_none, Bool.and_self, Bool.and_true, List.reduceReplicate, true_and, and_true, wD, bD, lD, pD, if_true, if_false, Bool.not_true, Bool.not_false, Bool.false_eq_true]
    exact hq
  · rintro i d ρ k hd ⟨x2, x3, x6, rfl⟩ hk
    obtain ⟨hi, rfl⟩ := rangeD_get hd
    try simp only [tdSeq, tdIfS, tdRet, tdRetN, tdNext, tdNever, tdDrop, tdBreak, tdCont, tdSet, tdOwn, tdAsg, tdAppend, tdExtend, tdPop, tdAug, tdAugSub, tdPar, tdParOO, tdParSO, tdAsgSOS, tdParSD, tdPutT, tdSortKeys, tdFor, tdLc, tdYes, gdName, gdNil, gdCons, gdTup, gdSub, tdSh, tdLent, tdC, td1, td2, tf1, tdB, tdAnd, tdOr, tdNot, tdAndV, tdOrV, tdNotV, tdIf, tdNil, tdCons, tdTup, tdLst, tdChain, tdIxB, tdRep, tdCat, tdCall, tdCallR, tiL, tiT, tiR1, tiR2, rI, rI0, rU, rLen, rInts, rBools, rInt, rTuple, rList, rIxD, nn_none, nn_int, nn_tup, noOwn, wipeD, Slot.addr, truD, List.getElem?_cons_zero, List.getElem?_cons_succ, List.set_cons_zero, List.set_cons_succ, List.map_cons, List.map_nil, List.length_cons, List.length_nil, List.cons_append, List.nil_append, List.replicate, Nat.sub_self, Nat.zero_add, Nat.add_one_sub_one, Nat.reduceAdd, Nat.reduceSub, Nat.succ_sub_succ_eq_sub, Nat.sub_zero, List.all_cons, List.all_nil, Option.isNone_none, Bool.and_self, Bool.and_true, List.reduceReplicate, true_and, and_true, wD, bD, lD, pD, if_true, if_false, Bool.not_true, Bool.not_false, Bool.false_eq_true]
    obtain ⟨c, hc⟩ : ∃ c, c = eulN i := ⟨_, rfl⟩
    have hcl : c.length = i + 1 := by rw [hc]; exact eulN_len i
    have ec : List.map PyData.int (nI (eulN i)) = (List.range (i + 1)).map fun t => PyData.int ((c.getD t 0 : Nat) : Int) := by
      have h := range_getN c
      rw [hcl] at h
      rw [← hc]
      conv => lhs; rw [← h]
      unfold nI
      rw [List.map_map, List.map_map]
      rfl
    rw [ec, enum_rng]
    refine wLc_map (fun (t : Nat) => PyData.tuple [.int (t : Int), .int ((c.getD t 0 : Nat) : Int)]) (fun _ => true) (fun (t : Nat) => PyData.int (((t + 1) * c.getD t 0 : Nat) : Int)) (List.range (i + 1)) (by rw [List.length_range]; unfold sizeLine; omega) ?_ ?_
    · intro t ht k1 k2 hk1 hk2
      have ht := List.mem_range.mp ht
      try simp only [tdSeq, tdIfS, tdRet, tdRetN, tdNext, tdNever, tdDrop, tdBreak, tdCont, tdSet, tdOwn, tdAsg, tdAppend, tdExtend, tdPop, tdAug, tdAugSub, tdPar, tdParOO, tdParSO, tdAsgSOS, tdParSD, tdPutT, tdSortKeys, tdFor, tdLc, tdYes, gdName, gdNil, gdCons, gdTup, gdSub, tdSh, tdLent, tdC, td1, td2, tf1, tdB, tdAnd, tdOr, tdNot, tdAndV, tdOrV, tdNotV, tdIf, tdNil, tdCons, tdTup, tdLst, tdChain, tdIxB, tdRep, tdCat, tdCall, tdCallR, tiL, tiT, tiR1, tiR2, rI, rI0, rU, rLen, rInts, rBools, rInt, rTuple, rList, rIxD, nn_none, nn_int, nn_tup, noOwn, wipeD, Slot.addr, truD, List.getElem?_cons_zero, List.getElem?_cons_succ, List.set_cons_zero, List.set_cons_succ, List.map_cons, List.map_nil, List.length_cons, List.length_nil, List.cons_append, List.nil_append, List.replicate, Nat.sub_self, Nat.zero_add, Nat.add_one_sub_one, Nat.reduceAdd, Nat.reduceSub, Nat.succ_sub_succ_eq_sub, Nat.sub_zero, List.all_cons, List.all_nil, Option.isNone_none, Bool.and_self, Bool.and_true, List.reduceReplicate, true_and, and_true, wD, bD, lD, pD, if_true, if_false, Bool.not_true, Bool.not_false, Bool.false_eq_true]
      have e : ((t : Int) + 1) * ((c.getD t 0 : Nat) : Int) = (((t + 1) * c.getD t 0 : Nat) : Int) := by rw [Int.natCast_mul]; rfl
      rw [e]
      exact ⟨.inl ⟨by omega, by omega⟩, hk1 rfl⟩
    rw [filt_true]
    refine wLc_map (fun (t : Nat) => PyData.tuple [.int (t : Int), .int ((c.getD t 0 : Nat) : Int)]) (fun _ => true) (fun (t : Nat) => PyData.int (((i + 1 - t) * c.getD t 0 : Nat) : Int)) (List.range (i + 1)) (by rw [List.length_range]; unfold sizeLine; omega) ?_ ?_
    · intro t ht k1 k2 hk1 hk2
      have ht := List.mem_range.mp ht
      try simp only [tdSeq, tdIfS, tdRet, tdRetN, tdNext, tdNever, tdDrop, tdBreak, tdCont, tdSet, tdOwn, tdAsg, tdAppend, tdExtend, tdPop, tdAug, tdAugSub, tdPar, tdParOO, tdParSO, tdAsgSOS, tdParSD, tdPutT, tdSortKeys, tdFor, tdLc, tdYes, gdName, gdNil, gdCons, gdTup, gdSub, tdSh, tdLent, tdC, td1, td2, tf1, tdB, tdAnd, tdOr, tdNot, tdAndV, tdOrV, tdNotV, tdIf, tdNil, tdCons, tdTup, tdLst, tdChain, tdIxB, tdRep, tdCat, tdCall, tdCallR, tiL, tiT, tiR1, tiR2, rI, rI0, rU, rLen, rInts, rBools, rInt, rTuple, rList, rIxD, nn_none, nn_int, nn_tup, noOwn, wipeD, Slot.addr, truD, List.getElem?_cons_zero, List.getElem?_cons_succ, List.set_cons_zero, List.set_cons_succ, List.map_cons, List.map_nil, List.length_cons, List.length_nil, List.cons_append, List.nil_append, List.replicate, Nat.sub_self, Nat.zero_add, Nat.add_one_sub_one, Nat.reduceAdd, Nat.reduceSub, Nat.succ_sub_succ_eq_sub, Nat.sub_zero, List.all_cons, List.all_nil, Option.isNone_none, Bool.and_self, Bool.and_true, List.reduceReplicate, true_and, and_true, wD, bD, lD, pD, if_true, if_false, Bool.not_true, Bool.not_false, Bool.false_eq_true]
      have e : ((2 : Int) + (i : Int) - 1 - (t : Int)) * ((c.getD t 0 : Nat) : Int) = (((i + 1 - t) * c.getD t 0 : Nat) : Int) := by
        rw [Int.natCast_mul]; congr 1; omega
      rw [e]
      exact ⟨.inl ⟨by omega, by omega⟩, hk1 rfl⟩
    rw [filt_true]
    unfold tiZip
    try simp only [tdSeq, tdIfS, tdRet, tdRetN, tdNext, tdNever, tdDrop, tdBreak, tdCont, tdSet, tdOwn, tdAsg, tdAppend, tdExtend, tdPop, tdAug, tdAugSub, tdPar, tdParOO, tdParSO, tdAsgSOS, tdParSD, tdPutT, tdSortKeys, tdFor, tdLc, tdYes, gdName, gdNil, gdCons, gdTup, gdSub, tdSh, tdLent, tdC, td1, td2, tf1, tdB, tdAnd, tdOr, tdNot, tdAndV, tdOrV, tdNotV, tdIf, tdNil, tdCons, tdTup, tdLst, tdChain, tdIxB, tdRep, tdCat, tdCall, tdCallR, tiL, tiT, tiR1, tiR2, rI, rI0, rU, rLen, rInts, rBools, rInt, rTuple, rList, rIxD, nn_none, nn_int, nn_tup, noOwn, wipeD, Slot.addr, truD, List.getElem?_cons_zero, List.getElem?_cons_succ, List.set_cons_zero, List.set_cons_succ, List.map_cons, List.map_nil, List.length_cons, List.length_nil, List.cons_append, List.nil_append, List.replicate, Nat.sub_self, Nat.zero_add, Nat.add_one_sub_one, Nat.reduceAdd, Nat.reduceSub, Nat.succ_sub_succ_eq_sub, Nat.sub_zero, List.all_cons, List.all_nil, Option.isNone_none, Bool.and_self, Bool.and_true, List.reduceReplicate, true_and, and_true, wD, bD, lD, pD, if_true, if_false, Bool.not_true, Bool.not_false, Bool.false_eq_true]
    obtain ⟨A, hA⟩ : ∃ A : List Nat, A = ((List.range (i + 1)).map fun t => (t + 1) * c.getD t 0) ++ [0] := ⟨_, rfl⟩
    obtain ⟨B, hB⟩ : ∃ B : List Nat, B = 0 :: (List.range (i + 1)).map fun t => (i + 1 - t) * c.getD t 0 := ⟨_, rfl⟩
    have ezz : ∀ A B : List Nat, zipD (A.map fun (x : Nat) => PyData.int (x : Int)) (B.map fun (x : Nat) => PyData.int (x : Int)) = (A.zip B).map fun p => PyData.tuple [.int ((p.1 : Nat) : Int), .int ((p.2 : Nat) : Int)] := by
      intro A
      induction A with
      | nil => intro B; rfl
      | cons a A ih => intro B; cases B with | nil => rfl | cons b B => exact congrArg (List.cons _) (ih B)
    have ez : ∀ A B : List Nat, ((A.zip B).map fun p => PyData.int (((p.1 + p.2 : Nat)) : Int)) = (nI (List.zipWith (· + ·) A B)).map PyData.int := by
      intro A
      induction A with
      | nil => intro B; rfl
      | cons a A ih => intro B; cases B with | nil => rfl | cons b B => exact congrArg (List.cons _) (ih B)
    have eA : (List.map (fun t => PyData.int (((t + 1) * c.getD t 0 : Nat) : Int)) (List.range (i + 1)) ++ [PyData.int 0]) = A.map fun (x : Nat) => PyData.int (x : Int) := by rw [hA, List.map_append, List.map_map]; rfl
    have eB : (PyData.int 0 :: List.map (fun t => PyData.int (((i + 1 - t) * c.getD t 0 : Nat) : Int)) (List.range (i + 1))) = B.map fun (x : Nat) => PyData.int (x : Int) := by rw [hB, List.map_cons, List.map_map]; rfl
    rw [eA, eB, ezz]
    have hAl : A.length = i + 2 := by rw [hA]; simp
    refine ⟨by decide, by rw [List.length_map, List.length_range]; unfold sizeLine; omega, by decide, by rw [List.length_map, List.length_range]; unfold sizeLine; omega, ?_⟩
    refine wLc_map (fun (p : Nat × Nat) => PyData.tuple [.int ((p.1 : Nat) : Int), .int ((p.2 : Nat) : Int)]) (fun _ => true) (fun p => PyData.int (((p.1 + p.2 : Nat)) : Int)) (A.zip B) (by rw [List.length_zip]; unfold sizeLine; omega) ?_ ?_
    · intro p hp k1 k2 hk1 hk2
      try simp only [tdSeq, tdIfS, tdRet, tdRetN, tdNext, tdNever, tdDrop, tdBreak, tdCont, tdSet, tdOwn, tdAsg, tdAppend, tdExtend, tdPop, tdAug, tdAugSub, tdPar, tdParOO, tdParSO, tdAsgSOS, tdParSD, tdPutT, tdSortKeys, tdFor, tdLc, tdYes, gdName, gdNil, gdCons, gdTup, gdSub, tdSh, tdLent, tdC, td1, td2, tf1, tdB, tdAnd, tdOr, tdNot, tdAndV, tdOrV, tdNotV, tdIf, tdNil, tdCons, tdTup, tdLst, tdChain, tdIxB, tdRep, tdCat, tdCall, tdCallR, tiL, tiT, tiR1, tiR2, rI, rI0, rU, rLen, rInts, rBools, rInt, rTuple, rList, rIxD, nn_none, nn_int, nn_tup, noOwn, wipeD, Slot.addr, truD, List.getElem?_cons_zero, List.getElem?_cons_succ, List.set_cons_zero, List.set_cons_succ, List.map_cons, List.map_nil, List.length_cons, List.length_nil, List.cons_append, List.nil_append, List.replicate, Nat.sub_self, Nat.zero_add, Nat.add_one_sub_one, Nat.reduceAdd, Nat.reduceSub, Nat.succ_sub_succ_eq_sub, Nat.sub_zero, List.all_cons, List.all_nil, Option.isNone_none, Bool.and_self, Bool.and_true, List.reduceReplicate, true_and, and_true, wD, bD, lD, pD, if_true, if_false, Bool.not_true, Bool.not_false, Bool.false_eq_true]
      exact hk1 rfl
    · rw [filt_true, ez]
      have e9 : List.zipWith (· + ·) A B = eulN (i + 1) := by rw [eulN, hA, hB, hc]
      rw [e9]
      exact hk _ ⟨_, _, _, rfl⟩
theorem fn_rows_by_falls (T : Top K mg) (F_check_count : Fn P w K mg base 3 "check_count" (spD K 2 sd_check_count)) : Fn P w K mg base 4 "rows_by_falls" (spD K 1 sd_rows_by_falls) := by
  refine defD T.d_rows_by_falls sc_rows_by_falls (by decide) (fun f cdv A outer s H E hr => (dss_cons (ds_expr (dcall F_check_count hr (da_cons (dv 0) (da_cons (de_globI rfl T.c_MOST_IN_ROW) da_nil))))
  (dss_one (ds_ret (de_t1 call_tuple_of l1_tuple rfl T.b_tuple (by decide +kernel) (d1 (DE.lend (DF.de (df_lc (own := [("falls", 1)]) rfl sc_rows_by_falls.nd (di_range1 rfl T.b_range (da_cons (dv 0) da_nil)) (blkOk_by (N := ["many", "falls"]) (sc := defScope s_rows_by_falls) (by decide +kernel)) (fun _ _ _ _ _ => (dgn 1 sc_rows_by_falls.nd)) (fun _ _ _ _ _ => dts_nil) (fun _ _ _ _ _ => (de_comb rfl T.g_comb (da_cons (de_op l_sub (dv 0) de_int) (da_cons (dv 1) da_nil))))))))))))) ?_
  rintro ds q hl ⟨n, rfl, h1, h40, hq⟩
  simp only [tdSeq, tdIfS, tdRet, tdRetN, tdNext, tdNever, tdDrop, tdBreak, tdCont, tdSet, tdOwn, tdAsg, tdAppend, tdExtend, tdPop, tdAug, tdAugSub, tdPar, tdParOO, tdParSO, tdAsgSOS, tdParSD, tdPutT, tdSortKeys, tdFor, tdLc, tdYes, gdName, gdNil, gdCons, gdTup, gdSub, tdSh, tdLent, tdC, td1, td2, tf1, tdB, tdAnd, tdOr, tdNot, tdAndV, tdOrV, tdNotV, tdIf, tdNil, tdCons, tdTup, tdLst, tdChain, tdIxB, tdRep, tdCat, tdCall, tdCallR, tiL, tiT, tiR1, tiR2, rI, rI0, rU, rLen, rInts, rBools, rInt, rTuple, rList, rIxD, nn_none, nn_int, nn_tup, noOwn, wipeD, Slot.addr, truD, List.getElem?_cons_zero, List.getElem?_cons_succ, List.set_cons_zero, List.set_cons_succ, List.map_cons, List.map_nil, List.length_cons, List.length_nil, List.cons_append, List.nil_append, List.replicate, Nat.sub_self, Nat.zero_add, Nat.add_one_sub_one, Nat.reduceAdd, Nat.reduceSub, Nat.succ_sub_succ_eq_sub, Nat.sub_zero, List.all_cons, List.all_nil, Option.isNone_none, Bool.and_self, Bool.and_true, List.reduceReplicate, true_and, and_true, wD, bD, lD, pD, if_true, if_false, Bool.not_true, Bool.not_false, Bool.false_eq_true]
  refine ⟨n, 40, rfl, by omega, by omega, ?_⟩
  try simp only [tdSeq, tdIfS, tdRet, tdRetN, tdNext, tdNever, tdDrop, tdBreak, tdCont, tdSet, tdOwn, tdAsg, tdAppend, tdExtend, tdPop, tdAug, tdAugSub, tdPar, tdParOO, tdParSO, tdAsgSOS, tdParSD, tdPutT, tdSortKeys, tdFor, tdLc, tdYes, gdName, gdNil, gdCons, gdTup, gdSub, tdSh, tdLent, tdC, td1, td2, tf1, tdB, tdAnd, tdOr, tdNot, tdAndV, tdOrV, tdNotV, tdIf, tdNil, tdCons, tdTup, tdLst, tdChain, tdIxB, tdRep, tdCat, tdCall, tdCallR, tiL, tiT, tiR1, tiR2, rI, rI0, rU, rLen, rInts, rBools, rInt, rTuple, rList, rIxD, nn_none, nn_int, nn_tup, noOwn, wipeD, Slot.addr, truD, List.getElem?_cons_zero, List.getElem?_cons_succ, List.set_cons_zero, List.set_cons_succ, List.map_cons, List.map_nil, List.length_cons, List.length_nil, List.cons_append, List.nil_append, List.replicate, Nat.sub_self, Nat.zero_add, Nat.add_one_sub_one, Nat.reduceAdd, Nat.reduceSub, Nat.succ_sub_succ_eq_sub, Nat.sub_zero, List.all_cons, List.all_nil, Option.isNone_none, Bool.and_self, Bool.and_true, List.reduceReplicate, true_and, and_true, wD, bD, lD, pD, if_true, if_false, Bool.not_true, Bool.not_false, Bool.false_eq_true]
  refine ⟨⟨by omega, by omega⟩, ?_⟩
  rw [Int.toNat_natCast]
  refine wLc_map (fun (j : Nat) => PyData.int (0 + (j : Int))) (fun _ => true) (fun (j : Nat) => .int ((combN (n - 1) j : Nat) : Int)) (List.range n) (by rw [List.length_range]; unfold sizeLine; omega) ?_ ?_
  · intro j hj k1 k2 hk1 hk2
    rw [Int.zero_add]
    try simp only [tdSeq, tdIfS, tdRet, tdRetN, tdNext, tdNever, tdDrop, tdBreak, tdCont, tdSet, tdOwn, tdAsg, tdAppend, tdExtend, tdPop, tdAug, tdAugSub, tdPar, tdParOO, tdParSO, tdAsgSOS, tdParSD, tdPutT, tdSortKeys, tdFor, tdLc, tdYes, gdName, gdNil, gdCons, gdTup, gdSub, tdSh, tdLent, tdC, td1, td2, tf1, tdB, tdAnd, tdOr, tdNot, tdAndV, tdOrV, tdNotV, tdIf, tdNil, tdCons, tdTup, tdLst, tdChain, tdIxB, tdRep, tdCat, tdCall, tdCallR, tiL, tiT, tiR1, tiR2, rI, rI0, rU, rLen, rInts, rBools, rInt, rTuple, rList, rIxD, nn_none, nn_int, nn_tup, noOwn, wipeD, Slot.addr, truD, List.getElem?_cons_zero, List.getElem?_cons_succ, List.set_cons_zero, List.set_cons_succ, List.map_cons, List.map_nil, List.length_cons, List.length_nil, List.cons_append, List.nil_append, List.replicate, Nat.sub_self, Nat.zero_add, Nat.add_one_sub_one, Nat.reduceAdd, Nat.reduceSub, Nat.succ_sub_succ_eq_sub, Nat.sub_zero, List.all_cons, List.all_nil, Option.isNone_none, Bool.and_self, Bool.and_true, List.reduceReplicate, true_and, and_true, wD, bD, lD, pD, if_true, if_false, Bool.not_true, Bool.not_false, Bool.false_eq_true]
    rw [show ((n : Int) - 1).toNat = n - 1 by omega, Int.toNat_natCast]
    refine ⟨by omega, by omega, by omega, hk1 rfl⟩
  · rw [filt_true]
    have e : ((List.range n).map fun (j : Nat) => PyData.int ((combN (n - 1) j : Nat) : Int)) = (nI (cmbL n)).map .int := by unfold nI cmbL; rw [List.map_map, List.map_map]; rfl
    rw [e]
    exact hq
theorem fn_row_mirrored (T : Top K mg) (F_check_row : Fn P w K mg base 5 "check_row" (spD K 1 sd_check_row)) : Fn P w K mg base 6 "row_mirrored" (spD K 1 sd_row_mirrored) := by
  refine defD T.d_row_mirrored sc_row_mirrored (by decide) (fun f cdv A outer s H E hr => (dss_cons (ds_expr (dcall F_check_row hr (da_cons (dv 0) da_nil)))
  (dss_one (ds_ret (de_back (dv 0) (de_un l_neg de_int)))))) ?_
  rintro ds q hl ⟨n, ls, rfl, F, h1, h40, hq⟩
  simp only [tdSeq, tdIfS, tdRet, tdRetN, tdNext, tdNever, tdDrop, tdBreak, tdCont, tdSet, tdOwn, tdAsg, tdAppend, tdExtend, tdPop, tdAug, tdAugSub, tdPar, tdParOO, tdParSO, tdAsgSOS, tdParSD, tdPutT, tdSortKeys, tdFor, tdLc, tdYes, gdName, gdNil, gdCons, gdTup, gdSub, tdSh, tdLent, tdC, td1, td2, tf1, tdB, tdAnd, tdOr, tdNot, tdAndV, tdOrV, tdNotV, tdIf, tdNil, tdCons, tdTup, tdLst, tdChain, tdIxB, tdRep, tdCat, tdCall, tdCallR, tiL, tiT, tiR1, tiR2, rI, rI0, rU, rLen, rInts, rBools, rInt, rTuple, rList, rIxD, nn_none, nn_int, nn_tup, noOwn, wipeD, Slot.addr, truD, List.getElem?_cons_zero, List.getElem?_cons_succ, List.set_cons_zero, List.set_cons_succ, List.map_cons, List.map_nil, List.length_cons, List.length_nil, List.cons_append, List.nil_append, List.replicate, Nat.sub_self, Nat.zero_add, Nat.add_one_sub_one, Nat.reduceAdd, Nat.reduceSub, Nat.succ_sub_succ_eq_sub, Nat.sub_zero, List.all_cons, List.all_nil, Option.isNone_none, Bool.and_self, Bool.and_true, List.reduceReplicate, true_and, and_true, wD, bD, lD, pD, if_true, if_false, Bool.not_true, Bool.not_false, Bool.false_eq_true]
  refine ⟨n, ls, rfl, F, by omega, by omega, ?_⟩
  unfold tdBack
  try simp only [tdSeq, tdIfS, tdRet, tdRetN, tdNext, tdNever, tdDrop, tdBreak, tdCont, tdSet, tdOwn, tdAsg, tdAppend, tdExtend, tdPop, tdAug, tdAugSub, tdPar, tdParOO, tdParSO, tdAsgSOS, tdParSD, tdPutT, tdSortKeys, tdFor, tdLc, tdYes, gdName, gdNil, gdCons, gdTup, gdSub, tdSh, tdLent, tdC, td1, td2, tf1, tdB, tdAnd, tdOr, tdNot, tdAndV, tdOrV, tdNotV, tdIf, tdNil, tdCons, tdTup, tdLst, tdChain, tdIxB, tdRep, tdCat, tdCall, tdCallR, tiL, tiT, tiR1, tiR2, rI, rI0, rU, rLen, rInts, rBools, rInt, rTuple, rList, rIxD, nn_none, nn_int, nn_tup, noOwn, wipeD, Slot.addr, truD, List.getElem?_cons_zero, List.getElem?_cons_succ, List.set_cons_zero, List.set_cons_succ, List.map_cons, List.map_nil, List.length_cons, List.length_nil, List.cons_append, List.nil_append, List.replicate, Nat.sub_self, Nat.zero_add, Nat.add_one_sub_one, Nat.reduceAdd, Nat.reduceSub, Nat.succ_sub_succ_eq_sub, Nat.sub_zero, List.all_cons, List.all_nil, Option.isNone_none, Bool.and_self, Bool.and_true, List.reduceReplicate, true_and, and_true, wD, bD, lD, pD, if_true, if_false, Bool.not_true, Bool.not_false, Bool.false_eq_true]
  rw [← List.map_reverse]
  exact hq
theorem fn_row_turned (T : Top K mg) (F_check_row : Fn P w K mg base 5 "check_row" (spD K 1 sd_check_row)) (F_check_head : Fn P w K mg base 3 "check_head" (spD K 2 sd_check_head)) (F_lying_behind : Fn P w K mg base 2 "lying_behind" (spD K 3 sd_lying_behind)) (F_near_masks : Fn P w K mg base 1 "near_masks" (spD K 1 sd_near_masks)) (F_line_of : Fn P w K mg base 1 "line_of" (spD K 1 sd_line_of)) : Fn P w K mg base 6 "row_turned" (spD K 2 sd_row_turned) := by
  refine defD T.d_row_turned sc_row_turned (by decide) (fun f cdv A outer s H E hr => (dss_cons (ds_expr (dcall F_check_row hr (da_cons (dv 0) da_nil)))
  (dss_cons (ds_expr (dcall F_check_head hr (da_cons (dv 0) (da_cons (dv 1) da_nil))))
  (dss_cons (dset 2 sc_row_turned.nd (dcall F_lying_behind hr (da_cons (dcall F_near_masks hr (da_cons (dcall F_line_of hr (da_cons (de_b1 call_len_seq l1_len rfl T.b_len (by decide +kernel) (d1 (dbv 0))) da_nil)) da_nil)) (da_cons (dv 0) (da_cons (dv 1) da_nil)))))
  (dss_one (ds_ret (de_tup (da_cons (de_sliceT (dv 2) do_none (do_some (dv 1))) (da_cons (de_sliceT (dv 2) (do_some (de_op l_add (dv 1) de_int)) do_none) da_nil))))))))) ?_
  rintro ds q hl ⟨n, k, ls, rfl, F, h40, hk, h1, hq⟩
  have hlen := F.len
  have hl : ls.length = n := by omega
  simp only [tdSeq, tdIfS, tdRet, tdRetN, tdNext, tdNever, tdDrop, tdBreak, tdCont, tdSet, tdOwn, tdAsg, tdAppend, tdExtend, tdPop, tdAug, tdAugSub, tdPar, tdParOO, tdParSO, tdAsgSOS, tdParSD, tdPutT, tdSortKeys, tdFor, tdLc, tdYes, gdName, gdNil, gdCons, gdTup, gdSub, tdSh, tdLent, tdC, td1, td2, tf1, tdB, tdAnd, tdOr, tdNot, tdAndV, tdOrV, tdNotV, tdIf, tdNil, tdCons, tdTup, tdLst, tdChain, tdIxB, tdRep, tdCat, tdCall, tdCallR, tiL, tiT, tiR1, tiR2, rI, rI0, rU, rLen, rInts, rBools, rInt, rTuple, rList, rIxD, nn_none, nn_int, nn_tup, noOwn, wipeD, Slot.addr, truD, List.getElem?_cons_zero, List.getElem?_cons_succ, List.set_cons_zero, List.set_cons_succ, List.map_cons, List.map_nil, List.length_cons, List.length_nil, List.cons_append, List.nil_append, List.replicate, Nat.sub_self, Nat.zero_add, Nat.add_one_sub_one, Nat.reduceAdd, Nat.reduceSub, Nat.succ_sub_succ_eq_sub, Nat.sub_zero, List.all_cons, List.all_nil, Option.isNone_none, Bool.and_self, Bool.and_true, List.reduceReplicate, true_and, and_true, wD, bD, lD, pD, if_true, if_false, Bool.not_true, Bool.not_false, Bool.false_eq_true]
  refine ⟨n, ls, rfl, F, by omega, by omega, n, ls, k, rfl, F, by omega, by omega, h1, ?_⟩
  refine ⟨n, by rw [List.length_map, hl], by omega, h40, ?_⟩
  refine ⟨n, rfl, by omega, h40, n, k, ls, rfl, F, h40, hk, ?_⟩
  dsimp only
  have e1 := behD_left (ls := ls) (k := k) (by omega)
  have e2 := behD_right (ls := ls) (k := k) (by omega)
  rw [hl] at e1 e2
  rw [cut_to (by rw [behD_len]; omega), cut_from (by rw [behD_len]; omega), e1, e2]
  exact ⟨by decide, hq⟩
theorem fn__law_taken (T : Top K mg) : Fn P w K mg base 1 "_law_taken" (spR K 1 sd__law_taken) := by
  refine defT (n := 1) T.d__law_taken sc__law_taken rfl (by decide) (fun f cdv A outer s H E hr => (dss_cons (ds_if (dt_cmp l_gt (de_ixB (dbv 0) de_int (fun _ _ => rfl)) de_int (nomark _)) (dss_cons (dset 2 sc__law_taken.nd (de_op l_mod (de_t1 call_int1 l1_int rfl T.b_int (by decide +kernel) (d1 (DE.lend (de_ixB (dbv 0) de_int (fun _ _ => rfl))))) (dv 1)))
  (dss_cons (ds_asg (de_op l_fdiv (de_ixB (dbv 0) de_int (fun _ _ => rfl)) (dv 1)) (dgsub 0 de_int))
  (dss_one (ds_ret (dv 2))))) dss_nil)
  (dss_cons (ds_asg (de_op l_add (de_ixB (dbv 0) de_int (fun _ _ => rfl)) de_int) (dgsub 0 de_int))
  (dss_cons (ds_if (dt_cmp l_gt (de_ixB (dbv 0) de_int (fun _ _ => rfl)) (de_b1 call_len_seq l1_len rfl T.b_len (by decide +kernel) (d1 (DE.lend (de_ixB (dbv 0) de_int (fun _ _ => rfl))))) (nomark _)) (dss_cons (ds_asg (de_op l_mod (de_t1 call_int1 l1_int rfl T.b_int (by decide +kernel) (d1 (DE.lend (de_op l_add (de_op l_mul (de_ixB (dbv 0) de_int (fun _ _ => rfl)) de_int) de_int)))) de_int) (dgsub 0 de_int))
  (dss_one (ds_ret (de_op l_mod (de_t1 call_int1 l1_int rfl T.b_int (by decide +kernel) (d1 (DE.lend (de_op l_fdiv (de_ixB (dbv 0) de_int (fun _ _ => rfl)) de_int)))) (dv 1))))) dss_nil)
  (dss_cons (dset 3 sc__law_taken.nd (de_ix (de_ixB (dbv 0) de_int (fun _ _ => rfl)) (de_op l_sub (de_ixB (dbv 0) de_int (fun _ _ => rfl)) de_int) (fun _ _ => rfl)))
  (dss_cons (ds_asg (de_op l_mod (de_t1 call_int1 l1_int rfl T.b_int (by decide +kernel) (d1 (DE.lend (de_op l_add (de_op l_add (de_op l_mul (de_ixB (dbv 0) de_int (fun _ _ => rfl)) de_int) (dv 3)) de_int)))) de_int) (dgsub 0 de_int))
  (dss_cons (ds_if (dt_cmp l_ge (dv 3) (de_op l_pow de_int de_int) (nomark _)) (dss_one (ds_asg (de_op l_fdiv (dv 3) (dv 1)) (dgsub 0 de_int))) dss_nil)
  (dss_one (ds_ret (de_op l_mod (de_t1 call_int1 l1_int rfl T.b_int (by decide +kernel) (d1 (dbv 3))) (dv 1))))))))))) ?_
  rintro r ds q ns i s b hl ⟨n, rfl, hn, hn2, hq⟩ hi hs0 hs1 hb
  have hm : ∀ x : Int, q (.int (x % n)) := fun x => hq _ (Int.emod_nonneg _ (by omega)) (Int.emod_lt_of_pos _ hn)
  have hd : ∀ x : Int, 0 ≤ x → 0 ≤ x / n := fun x hx => Int.ediv_nonneg hx (by omega)
  have hs2 : ∀ x : Int, 0 ≤ x % 2147483647 ∧ x % 2147483647 < 2147483647 := fun x => ⟨Int.emod_nonneg _ (by decide), Int.emod_lt_of_pos _ (by decide)⟩
  unfold rowD
  simp only [tdSeq, tdIfS, tdRet, tdRetN, tdNext, tdNever, tdDrop, tdBreak, tdCont, tdSet, tdOwn, tdAsg, tdAppend, tdExtend, tdPop, tdAug, tdAugSub, tdPar, tdParOO, tdParSO, tdAsgSOS, tdParSD, tdPutT, tdSortKeys, tdFor, tdLc, tdYes, gdName, gdNil, gdCons, gdTup, gdSub, tdSh, tdLent, tdC, td1, td2, tf1, tdB, tdAnd, tdOr, tdNot, tdAndV, tdOrV, tdNotV, tdIf, tdNil, tdCons, tdTup, tdLst, tdChain, tdIxB, tdRep, tdCat, tdCall, tdCallR, tiL, tiT, tiR1, tiR2, rI, rI0, rU, rLen, rInts, rBools, rInt, rTuple, rList, rIxD, nn_none, nn_int, nn_tup, noOwn, wipeD, Slot.addr, truD, List.getElem?_cons_zero, List.getElem?_cons_succ, List.set_cons_zero, List.set_cons_succ, List.map_cons, List.map_nil, List.length_cons, List.length_nil, List.cons_append, List.nil_append, List.replicate, Nat.sub_self, Nat.zero_add, Nat.add_one_sub_one, Nat.reduceAdd, Nat.reduceSub, Nat.succ_sub_succ_eq_sub, Nat.sub_zero, List.all_cons, List.all_nil, Option.isNone_none, Bool.and_self, Bool.and_true, List.reduceReplicate, true_and, and_true, wD, bD, lD, pD, if_true, if_false, Bool.not_true, Bool.not_false, Bool.false_eq_true]
  refine ⟨_, rfl, ?_⟩
  simp only [tdSeq, tdIfS, tdRet, tdRetN, tdNext, tdNever, tdDrop, tdBreak, tdCont, tdSet, tdOwn, tdAsg, tdAppend, tdExtend, tdPop, tdAug, tdAugSub, tdPar, tdParOO, tdParSO, tdAsgSOS, tdParSD, tdPutT, tdSortKeys, tdFor, tdLc, tdYes, gdName, gdNil, gdCons, gdTup, gdSub, tdSh, tdLent, tdC, td1, td2, tf1, tdB, tdAnd, tdOr, tdNot, tdAndV, tdOrV, tdNotV, tdIf, tdNil, tdCons, tdTup, tdLst, tdChain, tdIxB, tdRep, tdCat, tdCall, tdCallR, tiL, tiT, tiR1, tiR2, rI, rI0, rU, rLen, rInts, rBools, rInt, rTuple, rList, rIxD, nn_none, nn_int, nn_tup, noOwn, wipeD, Slot.addr, truD, List.getElem?_cons_zero, List.getElem?_cons_succ, List.set_cons_zero, List.set_cons_succ, List.map_cons, List.map_nil, List.length_cons, List.length_nil, List.cons_append, List.nil_append, List.replicate, Nat.sub_self, Nat.zero_add, Nat.add_one_sub_one, Nat.reduceAdd, Nat.reduceSub, Nat.succ_sub_succ_eq_sub, Nat.sub_zero, List.all_cons, List.all_nil, Option.isNone_none, Bool.and_self, Bool.and_true, List.reduceReplicate, true_and, and_true, wD, bD, lD, pD, if_true, if_false, Bool.not_true, Bool.not_false, Bool.false_eq_true]
  by_cases h : 0 < b
  · simp only [h, decide_true, if_true]
    refine ⟨_, rfl, ?_⟩
    simp only [tdSeq, tdIfS, tdRet, tdRetN, tdNext, tdNever, tdDrop, tdBreak, tdCont, tdSet, tdOwn, tdAsg, tdAppend, tdExtend, tdPop, tdAug, tdAugSub, tdPar, tdParOO, tdParSO, tdAsgSOS, tdParSD, tdPutT, tdSortKeys, tdFor, tdLc, tdYes, gdName, gdNil, gdCons, gdTup, gdSub, tdSh, tdLent, tdC, td1, td2, tf1, tdB, tdAnd, tdOr, tdNot, tdAndV, tdOrV, tdNotV, tdIf, tdNil, tdCons, tdTup, tdLst, tdChain, tdIxB, tdRep, tdCat, tdCall, tdCallR, tiL, tiT, tiR1, tiR2, rI, rI0, rU, rLen, rInts, rBools, rInt, rTuple, rList, rIxD, nn_none, nn_int, nn_tup, noOwn, wipeD, Slot.addr, truD, List.getElem?_cons_zero, List.getElem?_cons_succ, List.set_cons_zero, List.set_cons_succ, List.map_cons, List.map_nil, List.length_cons, List.length_nil, List.cons_append, List.nil_append, List.replicate, Nat.sub_self, Nat.zero_add, Nat.add_one_sub_one, Nat.reduceAdd, Nat.reduceSub, Nat.succ_sub_succ_eq_sub, Nat.sub_zero, List.all_cons, List.all_nil, Option.isNone_none, Bool.and_self, Bool.and_true, List.reduceReplicate, true_and, and_true, wD, bD, lD, pD, if_true, if_false, Bool.not_true, Bool.not_false, Bool.false_eq_true]
    refine ⟨hn, _, rfl, ?_⟩
    simp only [tdSeq, tdIfS, tdRet, tdRetN, tdNext, tdNever, tdDrop, tdBreak, tdCont, tdSet, tdOwn, tdAsg, tdAppend, tdExtend, tdPop, tdAug, tdAugSub, tdPar, tdParOO, tdParSO, tdAsgSOS, tdParSD, tdPutT, tdSortKeys, tdFor, tdLc, tdYes, gdName, gdNil, gdCons, gdTup, gdSub, tdSh, tdLent, tdC, td1, td2, tf1, tdB, tdAnd, tdOr, tdNot, tdAndV, tdOrV, tdNotV, tdIf, tdNil, tdCons, tdTup, tdLst, tdChain, tdIxB, tdRep, tdCat, tdCall, tdCallR, tiL, tiT, tiR1, tiR2, rI, rI0, rU, rLen, rInts, rBools, rInt, rTuple, rList, rIxD, nn_none, nn_int, nn_tup, noOwn, wipeD, Slot.addr, truD, List.getElem?_cons_zero, List.getElem?_cons_succ, List.set_cons_zero, List.set_cons_succ, List.map_cons, List.map_nil, List.length_cons, List.length_nil, List.cons_append, List.nil_append, List.replicate, Nat.sub_self, Nat.zero_add, Nat.add_one_sub_one, Nat.reduceAdd, Nat.reduceSub, Nat.succ_sub_succ_eq_sub, Nat.sub_zero, List.all_cons, List.all_nil, Option.isNone_none, Bool.and_self, Bool.and_true, List.reduceReplicate, true_and, and_true, wD, bD, lD, pD, if_true, if_false, Bool.not_true, Bool.not_false, Bool.false_eq_true]
    refine ⟨⟨hn, hn2⟩, 3, rfl, ?_⟩
    exact ⟨hm _, i, s, b / n, rfl, hi, hs0, hs1, hd _ hb⟩
  · simp only [h, decide_false]
    simp only [tdSeq, tdIfS, tdRet, tdRetN, tdNext, tdNever, tdDrop, tdBreak, tdCont, tdSet, tdOwn, tdAsg, tdAppend, tdExtend, tdPop, tdAug, tdAugSub, tdPar, tdParOO, tdParSO, tdAsgSOS, tdParSD, tdPutT, tdSortKeys, tdFor, tdLc, tdYes, gdName, gdNil, gdCons, gdTup, gdSub, tdSh, tdLent, tdC, td1, td2, tf1, tdB, tdAnd, tdOr, tdNot, tdAndV, tdOrV, tdNotV, tdIf, tdNil, tdCons, tdTup, tdLst, tdChain, tdIxB, tdRep, tdCat, tdCall, tdCallR, tiL, tiT, tiR1, tiR2, rI, rI0, rU, rLen, rInts, rBools, rInt, rTuple, rList, rIxD, nn_none, nn_int, nn_tup, noOwn, wipeD, Slot.addr, truD, List.getElem?_cons_zero, List.getElem?_cons_succ, List.set_cons_zero, List.set_cons_succ, List.map_cons, List.map_nil, List.length_cons, List.length_nil, List.cons_append, List.nil_append, List.replicate, Nat.sub_self, Nat.zero_add, Nat.add_one_sub_one, Nat.reduceAdd, Nat.reduceSub, Nat.succ_sub_succ_eq_sub, Nat.sub_zero, List.all_cons, List.all_nil, Option.isNone_none, Bool.and_self, Bool.and_true, List.reduceReplicate, true_and, and_true, wD, bD, lD, pD, if_true, if_false, Bool.not_true, Bool.not_false, Bool.false_eq_true]
    refine ⟨_, rfl, ?_⟩
    simp only [tdSeq, tdIfS, tdRet, tdRetN, tdNext, tdNever, tdDrop, tdBreak, tdCont, tdSet, tdOwn, tdAsg, tdAppend, tdExtend, tdPop, tdAug, tdAugSub, tdPar, tdParOO, tdParSO, tdAsgSOS, tdParSD, tdPutT, tdSortKeys, tdFor, tdLc, tdYes, gdName, gdNil, gdCons, gdTup, gdSub, tdSh, tdLent, tdC, td1, td2, tf1, tdB, tdAnd, tdOr, tdNot, tdAndV, tdOrV, tdNotV, tdIf, tdNil, tdCons, tdTup, tdLst, tdChain, tdIxB, tdRep, tdCat, tdCall, tdCallR, tiL, tiT, tiR1, tiR2, rI, rI0, rU, rLen, rInts, rBools, rInt, rTuple, rList, rIxD, nn_none, nn_int, nn_tup, noOwn, wipeD, Slot.addr, truD, List.getElem?_cons_zero, List.getElem?_cons_succ, List.set_cons_zero, List.set_cons_succ, List.map_cons, List.map_nil, List.length_cons, List.length_nil, List.cons_append, List.nil_append, List.replicate, Nat.sub_self, Nat.zero_add, Nat.add_one_sub_one, Nat.reduceAdd, Nat.reduceSub, Nat.succ_sub_succ_eq_sub, Nat.sub_zero, List.all_cons, List.all_nil, Option.isNone_none, Bool.and_self, Bool.and_true, List.reduceReplicate, true_and, and_true, wD, bD, lD, pD, if_true, if_false, Bool.not_true, Bool.not_false, Bool.false_eq_true]
    refine ⟨1, rfl, ?_⟩
    simp only [tdSeq, tdIfS, tdRet, tdRetN, tdNext, tdNever, tdDrop, tdBreak, tdCont, tdSet, tdOwn, tdAsg, tdAppend, tdExtend, tdPop, tdAug, tdAugSub, tdPar, tdParOO, tdParSO, tdAsgSOS, tdParSD, tdPutT, tdSortKeys, tdFor, tdLc, tdYes, gdName, gdNil, gdCons, gdTup, gdSub, tdSh, tdLent, tdC, td1, td2, tf1, tdB, tdAnd, tdOr, tdNot, tdAndV, tdOrV, tdNotV, tdIf, tdNil, tdCons, tdTup, tdLst, tdChain, tdIxB, tdRep, tdCat, tdCall, tdCallR, tiL, tiT, tiR1, tiR2, rI, rI0, rU, rLen, rInts, rBools, rInt, rTuple, rList, rIxD, nn_none, nn_int, nn_tup, noOwn, wipeD, Slot.addr, truD, List.getElem?_cons_zero, List.getElem?_cons_succ, List.set_cons_zero, List.set_cons_succ, List.map_cons, List.map_nil, List.length_cons, List.length_nil, List.cons_append, List.nil_append, List.replicate, Nat.sub_self, Nat.zero_add, Nat.add_one_sub_one, Nat.reduceAdd, Nat.reduceSub, Nat.succ_sub_succ_eq_sub, Nat.sub_zero, List.all_cons, List.all_nil, Option.isNone_none, Bool.and_self, Bool.and_true, List.reduceReplicate, true_and, and_true, wD, bD, lD, pD, if_true, if_false, Bool.not_true, Bool.not_false, Bool.false_eq_true]
    refine ⟨_, rfl, _, rfl, ?_⟩
    simp only [tdSeq, tdIfS, tdRet, tdRetN, tdNext, tdNever, tdDrop, tdBreak, tdCont, tdSet, tdOwn, tdAsg, tdAppend, tdExtend, tdPop, tdAug, tdAugSub, tdPar, tdParOO, tdParSO, tdAsgSOS, tdParSD, tdPutT, tdSortKeys, tdFor, tdLc, tdYes, gdName, gdNil, gdCons, gdTup, gdSub, tdSh, tdLent, tdC, td1, td2, tf1, tdB, tdAnd, tdOr, tdNot, tdAndV, tdOrV, tdNotV, tdIf, tdNil, tdCons, tdTup, tdLst, tdChain, tdIxB, tdRep, tdCat, tdCall, tdCallR, tiL, tiT, tiR1, tiR2, rI, rI0, rU, rLen, rInts, rBools, rInt, rTuple, rList, rIxD, nn_none, nn_int, nn_tup, noOwn, wipeD, Slot.addr, truD, List.getElem?_cons_zero, List.getElem?_cons_succ, List.set_cons_zero, List.set_cons_succ, List.map_cons, List.map_nil, List.length_cons, List.length_nil, List.cons_append, List.nil_append, List.replicate, Nat.sub_self, Nat.zero_add, Nat.add_one_sub_one, Nat.reduceAdd, Nat.reduceSub, Nat.succ_sub_succ_eq_sub, Nat.sub_zero, List.all_cons, List.all_nil, Option.isNone_none, Bool.and_self, Bool.and_true, List.reduceReplicate, true_and, and_true, wD, bD, lD, pD, if_true, if_false, Bool.not_true, Bool.not_false, Bool.false_eq_true]
    rw [List.length_map]
    by_cases h2 : (ns.length : Int) < i + 1
    · simp only [h2, decide_true, if_true]
      refine ⟨_, rfl, ?_⟩
      simp only [tdSeq, tdIfS, tdRet, tdRetN, tdNext, tdNever, tdDrop, tdBreak, tdCont, tdSet, tdOwn, tdAsg, tdAppend, tdExtend, tdPop, tdAug, tdAugSub, tdPar, tdParOO, tdParSO, tdAsgSOS, tdParSD, tdPutT, tdSortKeys, tdFor, tdLc, tdYes, gdName, gdNil, gdCons, gdTup, gdSub, tdSh, tdLent, tdC, td1, td2, tf1, tdB, tdAnd, tdOr, tdNot, tdAndV, tdOrV, tdNotV, tdIf, tdNil, tdCons, tdTup, tdLst, tdChain, tdIxB, tdRep, tdCat, tdCall, tdCallR, tiL, tiT, tiR1, tiR2, rI, rI0, rU, rLen, rInts, rBools, rInt, rTuple, rList, rIxD, nn_none, nn_int, nn_tup, noOwn, wipeD, Slot.addr, truD, List.getElem?_cons_zero, List.getElem?_cons_succ, List.set_cons_zero, List.set_cons_succ, List.map_cons, List.map_nil, List.length_cons, List.length_nil, List.cons_append, List.nil_append, List.replicate, Nat.sub_self, Nat.zero_add, Nat.add_one_sub_one, Nat.reduceAdd, Nat.reduceSub, Nat.succ_sub_succ_eq_sub, Nat.sub_zero, List.all_cons, List.all_nil, Option.isNone_none, Bool.and_self, Bool.and_true, List.reduceReplicate, true_and, and_true, wD, bD, lD, pD, if_true, if_false, Bool.not_true, Bool.not_false, Bool.false_eq_true]
      refine ⟨.inr ⟨by decide, by decide⟩, by decide, 2, rfl, ?_⟩
      simp only [tdSeq, tdIfS, tdRet, tdRetN, tdNext, tdNever, tdDrop, tdBreak, tdCont, tdSet, tdOwn, tdAsg, tdAppend, tdExtend, tdPop, tdAug, tdAugSub, tdPar, tdParOO, tdParSO, tdAsgSOS, tdParSD, tdPutT, tdSortKeys, tdFor, tdLc, tdYes, gdName, gdNil, gdCons, gdTup, gdSub, tdSh, tdLent, tdC, td1, td2, tf1, tdB, tdAnd, tdOr, tdNot, tdAndV, tdOrV, tdNotV, tdIf, tdNil, tdCons, tdTup, tdLst, tdChain, tdIxB, tdRep, tdCat, tdCall, tdCallR, tiL, tiT, tiR1, tiR2, rI, rI0, rU, rLen, rInts, rBools, rInt, rTuple, rList, rIxD, nn_none, nn_int, nn_tup, noOwn, wipeD, Slot.addr, truD, List.getElem?_cons_zero, List.getElem?_cons_succ, List.set_cons_zero, List.set_cons_succ, List.map_cons, List.map_nil, List.length_cons, List.length_nil, List.cons_append, List.nil_append, List.replicate, Nat.sub_self, Nat.zero_add, Nat.add_one_sub_one, Nat.reduceAdd, Nat.reduceSub, Nat.succ_sub_succ_eq_sub, Nat.sub_zero, List.all_cons, List.all_nil, Option.isNone_none, Bool.and_self, Bool.and_true, List.reduceReplicate, true_and, and_true, wD, bD, lD, pD, if_true, if_false, Bool.not_true, Bool.not_false, Bool.false_eq_true]
      refine ⟨_, rfl, ?_⟩
      simp only [tdSeq, tdIfS, tdRet, tdRetN, tdNext, tdNever, tdDrop, tdBreak, tdCont, tdSet, tdOwn, tdAsg, tdAppend, tdExtend, tdPop, tdAug, tdAugSub, tdPar, tdParOO, tdParSO, tdAsgSOS, tdParSD, tdPutT, tdSortKeys, tdFor, tdLc, tdYes, gdName, gdNil, gdCons, gdTup, gdSub, tdSh, tdLent, tdC, td1, td2, tf1, tdB, tdAnd, tdOr, tdNot, tdAndV, tdOrV, tdNotV, tdIf, tdNil, tdCons, tdTup, tdLst, tdChain, tdIxB, tdRep, tdCat, tdCall, tdCallR, tiL, tiT, tiR1, tiR2, rI, rI0, rU, rLen, rInts, rBools, rInt, rTuple, rList, rIxD, nn_none, nn_int, nn_tup, noOwn, wipeD, Slot.addr, truD, List.getElem?_cons_zero, List.getElem?_cons_succ, List.set_cons_zero, List.set_cons_succ, List.map_cons, List.map_nil, List.length_cons, List.length_nil, List.cons_append, List.nil_append, List.replicate, Nat.sub_self, Nat.zero_add, Nat.add_one_sub_one, Nat.reduceAdd, Nat.reduceSub, Nat.succ_sub_succ_eq_sub, Nat.sub_zero, List.all_cons, List.all_nil, Option.isNone_none, Bool.and_self, Bool.and_true, List.reduceReplicate, true_and, and_true, wD, bD, lD, pD, if_true, if_false, Bool.not_true, Bool.not_false, Bool.false_eq_true]
      refine ⟨⟨by decide, by decide⟩, hn, hm _, _, _, _, rfl, by omega, (hs2 _).1, (hs2 _).2, hb⟩
    · simp only [h2, decide_false]
      simp only [tdSeq, tdIfS, tdRet, tdRetN, tdNext, tdNever, tdDrop, tdBreak, tdCont, tdSet, tdOwn, tdAsg, tdAppend, tdExtend, tdPop, tdAug, tdAugSub, tdPar, tdParOO, tdParSO, tdAsgSOS, tdParSD, tdPutT, tdSortKeys, tdFor, tdLc, tdYes, gdName, gdNil, gdCons, gdTup, gdSub, tdSh, tdLent, tdC, td1, td2, tf1, tdB, tdAnd, tdOr, tdNot, tdAndV, tdOrV, tdNotV, tdIf, tdNil, tdCons, tdTup, tdLst, tdChain, tdIxB, tdRep, tdCat, tdCall, tdCallR, tiL, tiT, tiR1, tiR2, rI, rI0, rU, rLen, rInts, rBools, rInt, rTuple, rList, rIxD, nn_none, nn_int, nn_tup, noOwn, wipeD, Slot.addr, truD, List.getElem?_cons_zero, List.getElem?_cons_succ, List.set_cons_zero, List.set_cons_succ, List.map_cons, List.map_nil, List.length_cons, List.length_nil, List.cons_append, List.nil_append, List.replicate, Nat.sub_self, Nat.zero_add, Nat.add_one_sub_one, Nat.reduceAdd, Nat.reduceSub, Nat.succ_sub_succ_eq_sub, Nat.sub_zero, List.all_cons, List.all_nil, Option.isNone_none, Bool.and_self, Bool.and_true, List.reduceReplicate, true_and, and_true, wD, bD, lD, pD, if_true, if_false, Bool.not_true, Bool.not_false, Bool.false_eq_true]
      have hin : i.toNat < ns.length := by omega
      have e1 : atI (ns.map PyData.int) (i + 1 - 1) = some (.int ns[i.toNat]) := by
        rw [show i + 1 - 1 = i by omega, atI_pos hi (by rw [List.length_map]; omega), List.getElem?_map, List.getElem?_eq_getElem hin]; rfl
      refine ⟨_, rfl, _, rfl, ?_⟩
      simp only [tdSeq, tdIfS, tdRet, tdRetN, tdNext, tdNever, tdDrop, tdBreak, tdCont, tdSet, tdOwn, tdAsg, tdAppend, tdExtend, tdPop, tdAug, tdAugSub, tdPar, tdParOO, tdParSO, tdAsgSOS, tdParSD, tdPutT, tdSortKeys, tdFor, tdLc, tdYes, gdName, gdNil, gdCons, gdTup, gdSub, tdSh, tdLent, tdC, td1, td2, tf1, tdB, tdAnd, tdOr, tdNot, tdAndV, tdOrV, tdNotV, tdIf, tdNil, tdCons, tdTup, tdLst, tdChain, tdIxB, tdRep, tdCat, tdCall, tdCallR, tiL, tiT, tiR1, tiR2, rI, rI0, rU, rLen, rInts, rBools, rInt, rTuple, rList, rIxD, nn_none, nn_int, nn_tup, noOwn, wipeD, Slot.addr, truD, List.getElem?_cons_zero, List.getElem?_cons_succ, List.set_cons_zero, List.set_cons_succ, List.map_cons, List.map_nil, List.length_cons, List.length_nil, List.cons_append, List.nil_append, List.replicate, Nat.sub_self, Nat.zero_add, Nat.add_one_sub_one, Nat.reduceAdd, Nat.reduceSub, Nat.succ_sub_succ_eq_sub, Nat.sub_zero, List.all_cons, List.all_nil, Option.isNone_none, Bool.and_self, Bool.and_true, List.reduceReplicate, true_and, and_true, wD, bD, lD, pD, if_true, if_false, Bool.not_true, Bool.not_false, Bool.false_eq_true]
      refine ⟨_, e1, ?_⟩
      refine ⟨_, rfl, ?_⟩
      simp only [tdSeq, tdIfS, tdRet, tdRetN, tdNext, tdNever, tdDrop, tdBreak, tdCont, tdSet, tdOwn, tdAsg, tdAppend, tdExtend, tdPop, tdAug, tdAugSub, tdPar, tdParOO, tdParSO, tdAsgSOS, tdParSD, tdPutT, tdSortKeys, tdFor, tdLc, tdYes, gdName, gdNil, gdCons, gdTup, gdSub, tdSh, tdLent, tdC, td1, td2, tf1, tdB, tdAnd, tdOr, tdNot, tdAndV, tdOrV, tdNotV, tdIf, tdNil, tdCons, tdTup, tdLst, tdChain, tdIxB, tdRep, tdCat, tdCall, tdCallR, tiL, tiT, tiR1, tiR2, rI, rI0, rU, rLen, rInts, rBools, rInt, rTuple, rList, rIxD, nn_none, nn_int, nn_tup, noOwn, wipeD, Slot.addr, truD, List.getElem?_cons_zero, List.getElem?_cons_succ, List.set_cons_zero, List.set_cons_succ, List.map_cons, List.map_nil, List.length_cons, List.length_nil, List.cons_append, List.nil_append, List.replicate, Nat.sub_self, Nat.zero_add, Nat.add_one_sub_one, Nat.reduceAdd, Nat.reduceSub, Nat.succ_sub_succ_eq_sub, Nat.sub_zero, List.all_cons, List.all_nil, Option.isNone_none, Bool.and_self, Bool.and_true, List.reduceReplicate, true_and, and_true, wD, bD, lD, pD, if_true, if_false, Bool.not_true, Bool.not_false, Bool.false_eq_true]
      refine ⟨.inr ⟨by decide, by decide⟩, ?_⟩
      refine ⟨by decide, 2, rfl, ⟨by decide, by decide, by decide⟩, ?_⟩
      simp only [tdSeq, tdIfS, tdRet, tdRetN, tdNext, tdNever, tdDrop, tdBreak, tdCont, tdSet, tdOwn, tdAsg, tdAppend, tdExtend, tdPop, tdAug, tdAugSub, tdPar, tdParOO, tdParSO, tdAsgSOS, tdParSD, tdPutT, tdSortKeys, tdFor, tdLc, tdYes, gdName, gdNil, gdCons, gdTup, gdSub, tdSh, tdLent, tdC, td1, td2, tf1, tdB, tdAnd, tdOr, tdNot, tdAndV, tdOrV, tdNotV, tdIf, tdNil, tdCons, tdTup, tdLst, tdChain, tdIxB, tdRep, tdCat, tdCall, tdCallR, tiL, tiT, tiR1, tiR2, rI, rI0, rU, rLen, rInts, rBools, rInt, rTuple, rList, rIxD, nn_none, nn_int, nn_tup, noOwn, wipeD, Slot.addr, truD, List.getElem?_cons_zero, List.getElem?_cons_succ, List.set_cons_zero, List.set_cons_succ, List.map_cons, List.map_nil, List.length_cons, List.length_nil, List.cons_append, List.nil_append, List.replicate, Nat.sub_self, Nat.zero_add, Nat.add_one_sub_one, Nat.reduceAdd, Nat.reduceSub, Nat.succ_sub_succ_eq_sub, Nat.sub_zero, List.all_cons, List.all_nil, Option.isNone_none, Bool.and_self, Bool.and_true, List.reduceReplicate, true_and, and_true, wD, bD, lD, pD, if_true, if_false, Bool.not_true, Bool.not_false, Bool.false_eq_true]
      by_cases h3 : (10 ^ Int.toNat 18 : Int) ≤ ns[i.toNat]
      · simp only [h3, decide_true, if_true]
        refine ⟨⟨hn, hn2⟩, 3, rfl, ?_⟩
        simp only [tdSeq, tdIfS, tdRet, tdRetN, tdNext, tdNever, tdDrop, tdBreak, tdCont, tdSet, tdOwn, tdAsg, tdAppend, tdExtend, tdPop, tdAug, tdAugSub, tdPar, tdParOO, tdParSO, tdAsgSOS, tdParSD, tdPutT, tdSortKeys, tdFor, tdLc, tdYes, gdName, gdNil, gdCons, gdTup, gdSub, tdSh, tdLent, tdC, td1, td2, tf1, tdB, tdAnd, tdOr, tdNot, tdAndV, tdOrV, tdNotV, tdIf, tdNil, tdCons, tdTup, tdLst, tdChain, tdIxB, tdRep, tdCat, tdCall, tdCallR, tiL, tiT, tiR1, tiR2, rI, rI0, rU, rLen, rInts, rBools, rInt, rTuple, rList, rIxD, nn_none, nn_int, nn_tup, noOwn, wipeD, Slot.addr, truD, List.getElem?_cons_zero, List.getElem?_cons_succ, List.set_cons_zero, List.set_cons_succ, List.map_cons, List.map_nil, List.length_cons, List.length_nil, List.cons_append, List.nil_append, List.replicate, Nat.sub_self, Nat.zero_add, Nat.add_one_sub_one, Nat.reduceAdd, Nat.reduceSub, Nat.succ_sub_succ_eq_sub, Nat.sub_zero, List.all_cons, List.all_nil, Option.isNone_none, Bool.and_self, Bool.and_true, List.reduceReplicate, true_and, and_true, wD, bD, lD, pD, if_true, if_false, Bool.not_true, Bool.not_false, Bool.false_eq_true]
        have h4 : 0 ≤ ns[i.toNat] := Int.le_trans (by decide) h3
        exact ⟨hn, hm _, _, _, _, rfl, by omega, (hs2 _).1, (hs2 _).2, hd _ h4⟩
      · simp only [h3, decide_false]
        simp only [tdSeq, tdIfS, tdRet, tdRetN, tdNext, tdNever, tdDrop, tdBreak, tdCont, tdSet, tdOwn, tdAsg, tdAppend, tdExtend, tdPop, tdAug, tdAugSub, tdPar, tdParOO, tdParSO, tdAsgSOS, tdParSD, tdPutT, tdSortKeys, tdFor, tdLc, tdYes, gdName, gdNil, gdCons, gdTup, gdSub, tdSh, tdLent, tdC, td1, td2, tf1, tdB, tdAnd, tdOr, tdNot, tdAndV, tdOrV, tdNotV, tdIf, tdNil, tdCons, tdTup, tdLst, tdChain, tdIxB, tdRep, tdCat, tdCall, tdCallR, tiL, tiT, tiR1, tiR2, rI, rI0, rU, rLen, rInts, rBools, rInt, rTuple, rList, rIxD, nn_none, nn_int, nn_tup, noOwn, wipeD, Slot.addr, truD, List.getElem?_cons_zero, List.getElem?_cons_succ, List.set_cons_zero, List.set_cons_succ, List.map_cons, List.map_nil, List.length_cons, List.length_nil, List.cons_append, List.nil_append, List.replicate, Nat.sub_self, Nat.zero_add, Nat.add_one_sub_one, Nat.reduceAdd, Nat.reduceSub, Nat.succ_sub_succ_eq_sub, Nat.sub_zero, List.all_cons, List.all_nil, Option.isNone_none, Bool.and_self, Bool.and_true, List.reduceReplicate, true_and, and_true, wD, bD, lD, pD, if_true, if_false, Bool.not_true, Bool.not_false, Bool.false_eq_true]
        exact ⟨hn, hm _, _, _, _, rfl, by omega, (hs2 _).1, (hs2 _).2, hb⟩
theorem fn__law_layings (T : Top K mg) : Fn P w K mg base 1 "_law_layings" (spD K 1 sd__law_layings) := by
  refine defD T.d__law_layings sc__law_layings (by decide) (fun f cdv A outer s H E hr => (dss_cons (dset 1 sc__law_layings.nd (DF.de (df_lst (da_cons (de_tup da_nil) da_nil))))
  (dss_cons (ds_for PassesOwn.never rfl (di_range1 rfl T.b_range (da_cons (dv 0) da_nil)) (dgn 2 sc__law_layings.nd)
   (dss_cons (dset 3 sc__law_layings.nd (DF.de (df_lst da_nil)))
  (dss_cons (ds_for PassesOwn.never rfl (di_list (dv 1)) (dgn 4 sc__law_layings.nd)
   (dss_one (dset 3 sc__law_layings.nd (de_op l_addL (dv 3) (DF.de (df_lst (da_cons (de_op l_addT (dv 4) (de_tup (da_cons de_int da_nil))) (da_cons (de_op l_addT (dv 4) (de_tup (da_cons de_int da_nil))) da_nil))))))))
  (dss_one (dset 1 sc__law_layings.nd (dv 3))))))
  (dss_one (ds_ret (dv 1)))))) ?_
  rintro ds q hl ⟨n, rfl, h0, h9, hq⟩
  simp only [tdSeq, tdIfS, tdRet, tdRetN, tdNext, tdNever, tdDrop, tdBreak, tdCont, tdSet, tdOwn, tdAsg, tdAppend, tdExtend, tdPop, tdAug, tdAugSub, tdPar, tdParOO, tdParSO, tdAsgSOS, tdParSD, tdPutT, tdSortKeys, tdFor, tdLc, tdYes, gdName, gdNil, gdCons, gdTup, gdSub, tdSh, tdLent, tdC, td1, td2, tf1, tdB, tdAnd, tdOr, tdNot, tdAndV, tdOrV, tdNotV, tdIf, tdNil, tdCons, tdTup, tdLst, tdChain, tdIxB, tdRep, tdCat, tdCall, tdCallR, tiL, tiT, tiR1, tiR2, rI, rI0, rU, rLen, rInts, rBools, rInt, rTuple, rList, rIxD, nn_none, nn_int, nn_tup, noOwn, wipeD, Slot.addr, truD, List.getElem?_cons_zero, List.getElem?_cons_succ, List.set_cons_zero, List.set_cons_succ, List.map_cons, List.map_nil, List.length_cons, List.length_nil, List.cons_append, List.nil_append, List.replicate, Nat.sub_self, Nat.zero_add, Nat.add_one_sub_one, Nat.reduceAdd, Nat.reduceSub, Nat.succ_sub_succ_eq_sub, Nat.sub_zero, List.all_cons, List.all_nil, Option.isNone_none, Bool.and_self, Bool.and_true, List.reduceReplicate, true_and, and_true, wD, bD, lD, pD, if_true, if_false, Bool.not_true, Bool.not_false, Bool.false_eq_true]
  have hp : ∀ j, j ≤ n.toNat → 2 ^ j ≤ 2 ^ 9 := fun j hj => Nat.pow_le_pow_right (by decide) (by omega)
  refine ⟨by decide, by decide, ⟨by omega, by omega⟩, ?_⟩
  refine wFor_ind (fun ds ρ => ∃ (j : Nat) (x2 x3 x4 : Slot), j ≤ n.toNat ∧ ds = (rangeD 0 n.toNat).drop j ∧ ρ = [.sh (.int n), .sh (.list ((lays j).map lD)), x2, x3, x4]) ?_ ?_ _ _ ⟨0, .un, .un, .un, Nat.zero_le _, rfl, rfl⟩
  · rintro ρ ⟨j, x2, x3, x4, hj, hd, rfl⟩
    have := range_end hd
    have : j = n.toNat := by omega
    subst this
    simp only [tdSeq, tdIfS, tdRet, tdRetN, tdNext, tdNever, tdDrop, tdBreak, tdCont, tdSet, tdOwn, tdAsg, tdAppend, tdExtend, tdPop, tdAug, tdAugSub, tdPar, tdParOO, tdParSO, tdAsgSOS, tdParSD, tdPutT, tdSortKeys, tdFor, tdLc, tdYes, gdName, gdNil, gdCons, gdTup, gdSub, tdSh, tdLent, tdC, td1, td2, tf1, tdB, tdAnd, tdOr, tdNot, tdAndV, tdOrV, tdNotV, tdIf, tdNil, tdCons, tdTup, tdLst, tdChain, tdIxB, tdRep, tdCat, tdCall, tdCallR, tiL, tiT, tiR1, tiR2, rI, rI0, rU, rLen, rInts, rBools, rInt, rTuple, rList, rIxD, nn_none, nn_int, nn_tup, noOwn, wipeD, Slot.addr, truD, List.getElem?_cons_zero, List.getElem?_cons_succ, List.set_cons_zero, List.set_cons_succ, List.map_cons, List.map_nil, List.length_cons, List.length_nil, List.cons_append, List.nil_append, List.replicate, Nat.sub_self, Nat.zero_add, Nat.add_one_sub_one, Nat.reduceAdd, Nat.reduceSub, Nat.succ_sub_succ_eq_sub, Nat.sub_zero, List.all_cons, List.all_nil, Option.isNone_none, Bool.and_self, Bool.and_true, List.reduceReplicate, true_and, and_true, wD, bD, lD, pD, if_true, if_false, Bool.not_true, Bool.not_false, Bool.false_eq_true]
    exact hq
  · rintro d ds ρ k ⟨j, x2, x3, x4, hj, hd, rfl⟩ hk
    obtain ⟨hjn, rfl, rfl⟩ := range_step hd
    simp only [tdSeq, tdIfS, tdRet, tdRetN, tdNext, tdNever, tdDrop, tdBreak, tdCont, tdSet, tdOwn, tdAsg, tdAppend, tdExtend, tdPop, tdAug, tdAugSub, tdPar, tdParOO, tdParSO, tdAsgSOS, tdParSD, tdPutT, tdSortKeys, tdFor, tdLc, tdYes, gdName, gdNil, gdCons, gdTup, gdSub, tdSh, tdLent, tdC, td1, td2, tf1, tdB, tdAnd, tdOr, tdNot, tdAndV, tdOrV, tdNotV, tdIf, tdNil, tdCons, tdTup, tdLst, tdChain, tdIxB, tdRep, tdCat, tdCall, tdCallR, tiL, tiT, tiR1, tiR2, rI, rI0, rU, rLen, rInts, rBools, rInt, rTuple, rList, rIxD, nn_none, nn_int, nn_tup, noOwn, wipeD, Slot.addr, truD, List.getElem?_cons_zero, List.getElem?_cons_succ, List.set_cons_zero, List.set_cons_succ, List.map_cons, List.map_nil, List.length_cons, List.length_nil, List.cons_append, List.nil_append, List.replicate, Nat.sub_self, Nat.zero_add, Nat.add_one_sub_one, Nat.reduceAdd, Nat.reduceSub, Nat.succ_sub_succ_eq_sub, Nat.sub_zero, List.all_cons, List.all_nil, Option.isNone_none, Bool.and_self, Bool.and_true, List.reduceReplicate, true_and, and_true, wD, bD, lD, pD, if_true, if_false, Bool.not_true, Bool.not_false, Bool.false_eq_true]
    refine ⟨by decide, ?_⟩
    refine wFor_ind (fun ds ρ => ∃ (L1 L2 : List (List Int)) (x4 : Slot), lays j = L1 ++ L2 ∧ ds = L2.map lD ∧ ρ = [.sh (.int n), .sh (.list ((lays j).map lD)), .sh (.int (j : Int)), .sh (.list ((L1.flatMap fun l => [l ++ [0], l ++ [1]]).map lD)), x4]) ?_ ?_ _ _ ⟨[], lays j, x4, rfl, rfl, rfl⟩
    · rintro ρ ⟨L1, L2, x4, he, hr, rfl⟩
      have : L2 = [] := by
        cases L2 with
        | nil => rfl
        | cons p r => cases hr
      subst this
      rw [List.append_nil] at he
      simp only [tdSeq, tdIfS, tdRet, tdRetN, tdNext, tdNever, tdDrop, tdBreak, tdCont, tdSet, tdOwn, tdAsg, tdAppend, tdExtend, tdPop, tdAug, tdAugSub, tdPar, tdParOO, tdParSO, tdAsgSOS, tdParSD, tdPutT, tdSortKeys, tdFor, tdLc, tdYes, gdName, gdNil, gdCons, gdTup, gdSub, tdSh, tdLent, tdC, td1, td2, tf1, tdB, tdAnd, tdOr, tdNot, tdAndV, tdOrV, tdNotV, tdIf, tdNil, tdCons, tdTup, tdLst, tdChain, tdIxB, tdRep, tdCat, tdCall, tdCallR, tiL, tiT, tiR1, tiR2, rI, rI0, rU, rLen, rInts, rBools, rInt, rTuple, rList, rIxD, nn_none, nn_int, nn_tup, noOwn, wipeD, Slot.addr, truD, List.getElem?_cons_zero, List.getElem?_cons_succ, List.set_cons_zero, List.set_cons_succ, List.map_cons, List.map_nil, List.length_cons, List.length_nil, List.cons_append, List.nil_append, List.replicate, Nat.sub_self, Nat.zero_add, Nat.add_one_sub_one, Nat.reduceAdd, Nat.reduceSub, Nat.succ_sub_succ_eq_sub, Nat.sub_zero, List.all_cons, List.all_nil, Option.isNone_none, Bool.and_self, Bool.and_true, List.reduceReplicate, true_and, and_true, wD, bD, lD, pD, if_true, if_false, Bool.not_true, Bool.not_false, Bool.false_eq_true]
      refine hk _ ⟨j + 1, .sh (.int (j : Int)), .sh (.list ((L1.flatMap fun l => [l ++ [0], l ++ [1]]).map lD)), x4, by omega, rfl, ?_⟩
      show [_, _, _, _, _] = [_, Slot.sh (.list (((lays j).flatMap fun l => [l ++ [0], l ++ [1]]).map lD)), _, _, _]
      rw [he]
    · rintro d ds ρ k' ⟨L1, L2, x4, he, hr, rfl⟩ hk'
      cases L2 with
      | nil => cases hr
      | cons l L2 =>
        obtain ⟨rfl, rfl⟩ := List.cons.inj hr
        have hml : l ∈ lays j := by rw [he]; simp
        have hll := (mem_lays.mp hml).1
        have hlen := congrArg List.length he
        rw [lays_len, List.length_append, List.length_cons] at hlen
        have := hp j hj
        have hfl : ∀ L : List (List Int), (L.flatMap fun l => [l ++ [0], l ++ [1]]).length = 2 * L.length := by
          intro L
          induction L with
          | nil => rfl
          | cons x L ih => rw [List.flatMap_cons, List.length_append, ih]; simp only [List.length_cons, List.length_nil]; omega
        simp only [tdSeq, tdIfS, tdRet, tdRetN, tdNext, tdNever, tdDrop, tdBreak, tdCont, tdSet, tdOwn, tdAsg, tdAppend, tdExtend, tdPop, tdAug, tdAugSub, tdPar, tdParOO, tdParSO, tdAsgSOS, tdParSD, tdPutT, tdSortKeys, tdFor, tdLc, tdYes, gdName, gdNil, gdCons, gdTup, gdSub, tdSh, tdLent, tdC, td1, td2, tf1, tdB, tdAnd, tdOr, tdNot, tdAndV, tdOrV, tdNotV, tdIf, tdNil, tdCons, tdTup, tdLst, tdChain, tdIxB, tdRep, tdCat, tdCall, tdCallR, tiL, tiT, tiR1, tiR2, rI, rI0, rU, rLen, rInts, rBools, rInt, rTuple, rList, rIxD, nn_none, nn_int, nn_tup, noOwn, wipeD, Slot.addr, truD, List.getElem?_cons_zero, List.getElem?_cons_succ, List.set_cons_zero, List.set_cons_succ, List.map_cons, List.map_nil, List.length_cons, List.length_nil, List.cons_append, List.nil_append, List.replicate, Nat.sub_self, Nat.zero_add, Nat.add_one_sub_one, Nat.reduceAdd, Nat.reduceSub, Nat.succ_sub_succ_eq_sub, Nat.sub_zero, List.all_cons, List.all_nil, Option.isNone_none, Bool.and_self, Bool.and_true, List.reduceReplicate, true_and, and_true, wD, bD, lD, pD, if_true, if_false, Bool.not_true, Bool.not_false, Bool.false_eq_true]
        refine ⟨by decide, by rw [List.length_map]; unfold sizeLine; omega, by decide, by rw [List.length_map]; unfold sizeLine; omega, by decide, by rw [List.length_map, hfl]; unfold sizeLine; omega, ?_⟩
        refine hk' _ ⟨L1 ++ [l], L2, .sh (lD l), by rw [he]; simp, rfl, ?_⟩
        rw [List.flatMap_append, List.map_append (l₁ := List.flatMap _ L1)]
        simp [lD]
theorem fn__law_alike1 (T : Top K mg) (F__law_alike : Fn P w K mg base 0 "_law_alike" (spD K 2 fun _ _ => False)) : Fn P w K mg base 1 "_law_alike" (spD K 2 sd__law_alike1) := by
  refine defD T.d__law_alike sc__law_alike (by decide) (fun f cdv A outer s H E hr => (dss_cons (ds_if (dt_val (de_isi2 (S := "tuple") (T := "list") (by decide) (by decide) rfl T.b_isinstance rfl T.b_tuple (by decide +kernel) rfl T.b_list (by decide +kernel) (dv 1))) (dss_cons (ds_if (DW.dt (dw_or (dt_not (dt_val (de_isi2 (S := "tuple") (T := "list") (by decide) (by decide) rfl T.b_isinstance rfl T.b_tuple (by decide +kernel) rfl T.b_list (by decide +kernel) (dv 0)))) (dw_or1 (dt_cmp (l_ne hr.units) (de_isi (T := "list") (by decide) rfl T.b_isinstance rfl T.b_list (by decide +kernel) (dbv 0)) (de_isi (T := "list") (by decide) rfl T.b_isinstance rfl T.b_list (by decide +kernel) (dbv 1)) (nomark _))))) (dss_one (ds_ret de_bl)) dss_nil)
  (dss_cons (ds_if (dt_cmp (l_ne hr.units) (de_b1 call_len_seq l1_len rfl T.b_len (by decide +kernel) (d1 (dbv 0))) (de_b1 call_len_seq l1_len rfl T.b_len (by decide +kernel) (d1 (dbv 1))) (nomark _)) (dss_one (ds_ret de_bl)) dss_nil)
  (dss_one (ds_ret (de_cmp (l_eq hr.units) (DF.de (df_lc (own := [("k", 2)]) rfl sc__law_alike.nd (di_range1 rfl T.b_range (da_cons (de_b1 call_len_seq l1_len rfl T.b_len (by decide +kernel) (d1 (dbv 1))) da_nil)) (blkOk_by (N := ["found", "due", "k"]) (sc := defScope s__law_alike) (by decide +kernel)) (fun _ _ _ _ _ => (dgn 2 sc__law_alike.nd)) (fun _ _ _ _ _ => (dts_one (dt_not (dt_val (dcall F__law_alike hr (da_cons (de_ix (dv 0) (dv 2) (fun _ _ => rfl)) (da_cons (de_ix (dv 1) (dv 2) (fun _ _ => rfl)) da_nil))))))) (fun _ _ _ _ _ => (dv 2)))) (DF.de (df_lst da_nil)) (nomark _)))))) dss_nil)
  (dss_cons (ds_if (DW.dt (dw_or (dt_cmp l_isN (dv 1) de_non (nomark _)) (dw_or1 (dt_val (de_isi (T := "str") (by decide) rfl T.b_isinstance rfl T.b_str (by decide +kernel) (dbv 1)))))) (dss_one (ds_ret (de_and (de_cmp (l_eq hr.units) (dv 0) (dv 1) (nomark _)) (de_one (de_cmp (l_eq hr.units) (de_isi (T := "str") (by decide) rfl T.b_isinstance rfl T.b_str (by decide +kernel) (dbv 0)) (de_isi (T := "str") (by decide) rfl T.b_isinstance rfl T.b_str (by decide +kernel) (dbv 1)) (nomark _)))))) dss_nil)
  (dss_one (ds_ret (de_and (de_isi (T := "int") (by decide) rfl T.b_isinstance rfl T.b_int (by decide +kernel) (dbv 0)) (de_and (de_cmp (l_eq hr.units) (de_isi (T := "bool") (by decide) rfl T.b_isinstance rfl T.b_bool (by decide +kernel) (dbv 0)) (de_isi (T := "bool") (by decide) rfl T.b_isinstance rfl T.b_bool (by decide +kernel) (dbv 1)) (nomark _)) (de_one (de_cmp (l_eq hr.units) (dv 0) (dv 1) (nomark _)))))))))) ?_
  rintro ds q hl ⟨d, rfl, ⟨i, rfl⟩ | rfl | ⟨b, rfl⟩, hq⟩
  · simp only [tdSeq, tdIfS, tdRet, tdRetN, tdNext, tdNever, tdDrop, tdBreak, tdCont, tdSet, tdOwn, tdAsg, tdAppend, tdExtend, tdPop, tdAug, tdAugSub, tdPar, tdParOO, tdParSO, tdAsgSOS, tdParSD, tdPutT, tdSortKeys, tdFor, tdLc, tdYes, gdName, gdNil, gdCons, gdTup, gdSub, tdSh, tdLent, tdC, td1, td2, tf1, tdB, tdAnd, tdOr, tdNot, tdAndV, tdOrV, tdNotV, tdIf, tdNil, tdCons, tdTup, tdLst, tdChain, tdIxB, tdRep, tdCat, tdCall, tdCallR, tiL, tiT, tiR1, tiR2, rI, rI0, rU, rLen, rInts, rBools, rInt, rTuple, rList, rIxD, nn_none, nn_int, nn_tup, noOwn, wipeD, Slot.addr, truD, List.getElem?_cons_zero, List.getElem?_cons_succ, List.set_cons_zero, List.set_cons_succ, List.map_cons, List.map_nil, List.length_cons, List.length_nil, List.cons_append, List.nil_append, List.replicate, Nat.sub_self, Nat.zero_add, Nat.add_one_sub_one, Nat.reduceAdd, Nat.reduceSub, Nat.succ_sub_succ_eq_sub, Nat.sub_zero, List.all_cons, List.all_nil, Option.isNone_none, Bool.and_self, Bool.and_true, List.reduceReplicate, true_and, and_true, wD, bD, lD, pD, if_true, if_false, Bool.not_true, Bool.not_false, Bool.false_eq_true]
    simp only [ii, ib, it, il, is', ti, tb, tt, tl, ts', li, lb, lt', ll, ls', ni, nb, nt, nl, ns', bi, bb, bt, bl', bs, si, sb, st', sl, ss, di, db, dt, dl, ds', if_true, if_false, Bool.not_true, Bool.not_false, Bool.false_eq_true, Bool.or_self, Bool.or_true, Bool.true_or, Bool.or_false, Bool.false_or]
    refine ⟨rfl, rfl, ?_⟩
    rw [show PyData.eqv (.bool false) (.bool false) = true from rfl, if_pos rfl]
    refine ⟨rfl, rfl, ?_⟩
    rw [eqv_int, decide_eq_true (rfl : i = i)]
    exact hq
  · simp only [tdSeq, tdIfS, tdRet, tdRetN, tdNext, tdNever, tdDrop, tdBreak, tdCont, tdSet, tdOwn, tdAsg, tdAppend, tdExtend, tdPop, tdAug, tdAugSub, tdPar, tdParOO, tdParSO, tdAsgSOS, tdParSD, tdPutT, tdSortKeys, tdFor, tdLc, tdYes, gdName, gdNil, gdCons, gdTup, gdSub, tdSh, tdLent, tdC, td1, td2, tf1, tdB, tdAnd, tdOr, tdNot, tdAndV, tdOrV, tdNotV, tdIf, tdNil, tdCons, tdTup, tdLst, tdChain, tdIxB, tdRep, tdCat, tdCall, tdCallR, tiL, tiT, tiR1, tiR2, rI, rI0, rU, rLen, rInts, rBools, rInt, rTuple, rList, rIxD, nn_none, nn_int, nn_tup, noOwn, wipeD, Slot.addr, truD, List.getElem?_cons_zero, List.getElem?_cons_succ, List.set_cons_zero, List.set_cons_succ, List.map_cons, List.map_nil, List.length_cons, List.length_nil, List.cons_append, List.nil_append, List.replicate, Nat.sub_self, Nat.zero_add, Nat.add_one_sub_one, Nat.reduceAdd, Nat.reduceSub, Nat.succ_sub_succ_eq_sub, Nat.sub_zero, List.all_cons, List.all_nil, Option.isNone_none, Bool.and_self, Bool.and_true, List.reduceReplicate, true_and, and_true, wD, bD, lD, pD, if_true, if_false, Bool.not_true, Bool.not_false, Bool.false_eq_true]
    simp only [ii, ib, it, il, is', ti, tb, tt, tl, ts', li, lb, lt', ll, ls', ni, nb, nt, nl, ns', bi, bb, bt, bl', bs, si, sb, st', sl, ss, di, db, dt, dl, ds', if_true, if_false, Bool.not_true, Bool.not_false, Bool.false_eq_true, Bool.or_self, Bool.or_true, Bool.true_or, Bool.or_false, Bool.false_or]
    refine ⟨rfl, rfl, ?_⟩
    rw [show PyData.eqv .none .none = true from rfl, if_pos rfl]
    exact ⟨rfl, rfl, hq⟩
  · simp only [tdSeq, tdIfS, tdRet, tdRetN, tdNext, tdNever, tdDrop, tdBreak, tdCont, tdSet, tdOwn, tdAsg, tdAppend, tdExtend, tdPop, tdAug, tdAugSub, tdPar, tdParOO, tdParSO, tdAsgSOS, tdParSD, tdPutT, tdSortKeys, tdFor, tdLc, tdYes, gdName, gdNil, gdCons, gdTup, gdSub, tdSh, tdLent, tdC, td1, td2, tf1, tdB, tdAnd, tdOr, tdNot, tdAndV, tdOrV, tdNotV, tdIf, tdNil, tdCons, tdTup, tdLst, tdChain, tdIxB, tdRep, tdCat, tdCall, tdCallR, tiL, tiT, tiR1, tiR2, rI, rI0, rU, rLen, rInts, rBools, rInt, rTuple, rList, rIxD, nn_none, nn_int, nn_tup, noOwn, wipeD, Slot.addr, truD, List.getElem?_cons_zero, List.getElem?_cons_succ, List.set_cons_zero, List.set_cons_succ, List.map_cons, List.map_nil, List.length_cons, List.length_nil, List.cons_append, List.nil_append, List.replicate, Nat.sub_self, Nat.zero_add, Nat.add_one_sub_one, Nat.reduceAdd, Nat.reduceSub, Nat.succ_sub_succ_eq_sub, Nat.sub_zero, List.all_cons, List.all_nil, Option.isNone_none, Bool.and_self, Bool.and_true, List.reduceReplicate, true_and, and_true, wD, bD, lD, pD, if_true, if_false, Bool.not_true, Bool.not_false, Bool.false_eq_true]
    simp only [ii, ib, it, il, is', ti, tb, tt, tl, ts', li, lb, lt', ll, ls', ni, nb, nt, nl, ns', bi, bb, bt, bl', bs, si, sb, st', sl, ss, di, db, dt, dl, ds', if_true, if_false, Bool.not_true, Bool.not_false, Bool.false_eq_true, Bool.or_self, Bool.or_true, Bool.true_or, Bool.or_false, Bool.false_or]
    refine ⟨rfl, rfl, ?_⟩
    rw [show PyData.eqv (.bool true) (.bool true) = true from rfl, if_pos rfl]
    refine ⟨rfl, rfl, ?_⟩
    rw [show PyData.eqv (.bool b) (.bool b) = true by cases b <;> rfl]
    exact hq
theorem fn__law_alike2 (T : Top K mg) (F__law_alike : Fn P w K mg base 1 "_law_alike" (spD K 2 sd__law_alike1)) : Fn P w K mg base 2 "_law_alike" (spD K 2 sd__law_alike2) := by
  refine defD T.d__law_alike sc__law_alike (by decide) (fun f cdv A outer s H E hr => (dss_cons (ds_if (dt_val (de_isi2 (S := "tuple") (T := "list") (by decide) (by decide) rfl T.b_isinstance rfl T.b_tuple (by decide +kernel) rfl T.b_list (by decide +kernel) (dv 1))) (dss_cons (ds_if (DW.dt (dw_or (dt_not (dt_val (de_isi2 (S := "tuple") (T := "list") (by decide) (by decide) rfl T.b_isinstance rfl T.b_tuple (by decide +kernel) rfl T.b_list (by decide +kernel) (dv 0)))) (dw_or1 (dt_cmp (l_ne hr.units) (de_isi (T := "list") (by decide) rfl T.b_isinstance rfl T.b_list (by decide +kernel) (dbv 0)) (de_isi (T := "list") (by decide) rfl T.b_isinstance rfl T.b_list (by decide +kernel) (dbv 1)) (nomark _))))) (dss_one (ds_ret de_bl)) dss_nil)
  (dss_cons (ds_if (dt_cmp (l_ne hr.units) (de_b1 call_len_seq l1_len rfl T.b_len (by decide +kernel) (d1 (dbv 0))) (de_b1 call_len_seq l1_len rfl T.b_len (by decide +kernel) (d1 (dbv 1))) (nomark _)) (dss_one (ds_ret de_bl)) dss_nil)
  (dss_one (ds_ret (de_cmp (l_eq hr.units) (DF.de (df_lc (own := [("k", 2)]) rfl sc__law_alike.nd (di_range1 rfl T.b_range (da_cons (de_b1 call_len_seq l1_len rfl T.b_len (by decide +kernel) (d1 (dbv 1))) da_nil)) (blkOk_by (N := ["found", "due", "k"]) (sc := defScope s__law_alike) (by decide +kernel)) (fun _ _ _ _ _ => (dgn 2 sc__law_alike.nd)) (fun _ _ _ _ _ => (dts_one (dt_not (dt_val (dcall F__law_alike hr (da_cons (de_ix (dv 0) (dv 2) (fun _ _ => rfl)) (da_cons (de_ix (dv 1) (dv 2) (fun _ _ => rfl)) da_nil))))))) (fun _ _ _ _ _ => (dv 2)))) (DF.de (df_lst da_nil)) (nomark _)))))) dss_nil)
  (dss_cons (ds_if (DW.dt (dw_or (dt_cmp l_isN (dv 1) de_non (nomark _)) (dw_or1 (dt_val (de_isi (T := "str") (by decide) rfl T.b_isinstance rfl T.b_str (by decide +kernel) (dbv 1)))))) (dss_one (ds_ret (de_and (de_cmp (l_eq hr.units) (dv 0) (dv 1) (nomark _)) (de_one (de_cmp (l_eq hr.units) (de_isi (T := "str") (by decide) rfl T.b_isinstance rfl T.b_str (by decide +kernel) (dbv 0)) (de_isi (T := "str") (by decide) rfl T.b_isinstance rfl T.b_str (by decide +kernel) (dbv 1)) (nomark _)))))) dss_nil)
  (dss_one (ds_ret (de_and (de_isi (T := "int") (by decide) rfl T.b_isinstance rfl T.b_int (by decide +kernel) (dbv 0)) (de_and (de_cmp (l_eq hr.units) (de_isi (T := "bool") (by decide) rfl T.b_isinstance rfl T.b_bool (by decide +kernel) (dbv 0)) (de_isi (T := "bool") (by decide) rfl T.b_isinstance rfl T.b_bool (by decide +kernel) (dbv 1)) (nomark _)) (de_one (de_cmp (l_eq hr.units) (dv 0) (dv 1) (nomark _)))))))))) ?_
  rintro ds q hl ⟨d, rfl, (⟨i, rfl⟩ | rfl | ⟨b, rfl⟩) | ⟨xs, rfl, hn, hf⟩, hq⟩
  · simp only [tdSeq, tdIfS, tdRet, tdRetN, tdNext, tdNever, tdDrop, tdBreak, tdCont, tdSet, tdOwn, tdAsg, tdAppend, tdExtend, tdPop, tdAug, tdAugSub, tdPar, tdParOO, tdParSO, tdAsgSOS, tdParSD, tdPutT, tdSortKeys, tdFor, tdLc, tdYes, gdName, gdNil, gdCons, gdTup, gdSub, tdSh, tdLent, tdC, td1, td2, tf1, tdB, tdAnd, tdOr, tdNot, tdAndV, tdOrV, tdNotV, tdIf, tdNil, tdCons, tdTup, tdLst, tdChain, tdIxB, tdRep, tdCat, tdCall, tdCallR, tiL, tiT, tiR1, tiR2, rI, rI0, rU, rLen, rInts, rBools, rInt, rTuple, rList, rIxD, nn_none, nn_int, nn_tup, noOwn, wipeD, Slot.addr, truD, List.getElem?_cons_zero, List.getElem?_cons_succ, List.set_cons_zero, List.set_cons_succ, List.map_cons, List.map_nil, List.length_cons, List.length_nil, List.cons_append, List.nil_append, List.replicate, Nat.sub_self, Nat.zero_add, Nat.add_one_sub_one, Nat.reduceAdd, Nat.reduceSub, Nat.succ_sub_succ_eq_sub, Nat.sub_zero, List.all_cons, List.all_nil, Option.isNone_none, Bool.and_self, Bool.and_true, List.reduceReplicate, true_and, and_true, wD, bD, lD, pD, if_true, if_false, Bool.not_true, Bool.not_false, Bool.false_eq_true]
    simp only [ii, ib, it, il, is', ti, tb, tt, tl, ts', li, lb, lt', ll, ls', ni, nb, nt, nl, ns', bi, bb, bt, bl', bs, si, sb, st', sl, ss, di, db, dt, dl, ds', if_true, if_false, Bool.not_true, Bool.not_false, Bool.false_eq_true, Bool.or_self, Bool.or_true, Bool.true_or, Bool.or_false, Bool.false_or]
    refine ⟨rfl, rfl, ?_⟩
    rw [show PyData.eqv (.bool false) (.bool false) = true from rfl, if_pos rfl]
    refine ⟨rfl, rfl, ?_⟩
    rw [eqv_int, decide_eq_true (rfl : i = i)]
    exact hq
  · simp only [tdSeq, tdIfS, tdRet, tdRetN, tdNext, tdNever, tdDrop, tdBreak, tdCont, tdSet, tdOwn, tdAsg, tdAppend, tdExtend, tdPop, tdAug, tdAugSub, tdPar, tdParOO, tdParSO, tdAsgSOS, tdParSD, tdPutT, tdSortKeys, tdFor, tdLc, tdYes, gdName, gdNil, gdCons, gdTup, gdSub, tdSh, tdLent, tdC, td1, td2, tf1, tdB, tdAnd, tdOr, tdNot, tdAndV, tdOrV, tdNotV, tdIf, tdNil, tdCons, tdTup, tdLst, tdChain, tdIxB, tdRep, tdCat, tdCall, tdCallR, tiL, tiT, tiR1, tiR2, rI, rI0, rU, rLen, rInts, rBools, rInt, rTuple, rList, rIxD, nn_none, nn_int, nn_tup, noOwn, wipeD, Slot.addr, truD, List.getElem?_cons_zero, List.getElem?_cons_succ, List.set_cons_zero, List.set_cons_succ, List.map_cons, List.map_nil, List.length_cons, List.length_nil, List.cons_append, List.nil_append, List.replicate, Nat.sub_self, Nat.zero_add, Nat.add_one_sub_one, Nat.reduceAdd, Nat.reduceSub, Nat.succ_sub_succ_eq_sub, Nat.sub_zero, List.all_cons, List.all_nil, Option.isNone_none, Bool.and_self, Bool.and_true, List.reduceReplicate, true_and, and_true, wD, bD, lD, pD, if_true, if_false, Bool.not_true, Bool.not_false, Bool.false_eq_true]
    simp only [ii, ib, it, il, is', ti, tb, tt, tl, ts', li, lb, lt', ll, ls', ni, nb, nt, nl, ns', bi, bb, bt, bl', bs, si, sb, st', sl, ss, di, db, dt, dl, ds', if_true, if_false, Bool.not_true, Bool.not_false, Bool.false_eq_true, Bool.or_self, Bool.or_true, Bool.true_or, Bool.or_false, Bool.false_or]
    refine ⟨rfl, rfl, ?_⟩
    rw [show PyData.eqv .none .none = true from rfl, if_pos rfl]
    exact ⟨rfl, rfl, hq⟩
  · simp only [tdSeq, tdIfS, tdRet, tdRetN, tdNext, tdNever, tdDrop, tdBreak, tdCont, tdSet, tdOwn, tdAsg, tdAppend, tdExtend, tdPop, tdAug, tdAugSub, tdPar, tdParOO, tdParSO, tdAsgSOS, tdParSD, tdPutT, tdSortKeys, tdFor, tdLc, tdYes, gdName, gdNil, gdCons, gdTup, gdSub, tdSh, tdLent, tdC, td1, td2, tf1, tdB, tdAnd, tdOr, tdNot, tdAndV, tdOrV, tdNotV, tdIf, tdNil, tdCons, tdTup, tdLst, tdChain, tdIxB, tdRep, tdCat, tdCall, tdCallR, tiL, tiT, tiR1, tiR2, rI, rI0, rU, rLen, rInts, rBools, rInt, rTuple, rList, rIxD, nn_none, nn_int, nn_tup, noOwn, wipeD, Slot.addr, truD, List.getElem?_cons_zero, List.getElem?_cons_succ, List.set_cons_zero, List.set_cons_succ, List.map_cons, List.map_nil, List.length_cons, List.length_nil, List.cons_append, List.nil_append, List.replicate, Nat.sub_self, Nat.zero_add, Nat.add_one_sub_one, Nat.reduceAdd, Nat.reduceSub, Nat.succ_sub_succ_eq_sub, Nat.sub_zero, List.all_cons, List.all_nil, Option.isNone_none, Bool.and_self, Bool.and_true, List.reduceReplicate, true_and, and_true, wD, bD, lD, pD, if_true, if_false, Bool.not_true, Bool.not_false, Bool.false_eq_true]
    simp only [ii, ib, it, il, is', ti, tb, tt, tl, ts', li, lb, lt', ll, ls', ni, nb, nt, nl, ns', bi, bb, bt, bl', bs, si, sb, st', sl, ss, di, db, dt, dl, ds', if_true, if_false, Bool.not_true, Bool.not_false, Bool.false_eq_true, Bool.or_self, Bool.or_true, Bool.true_or, Bool.or_false, Bool.false_or]
    refine ⟨rfl, rfl, ?_⟩
    rw [show PyData.eqv (.bool true) (.bool true) = true from rfl, if_pos rfl]
    refine ⟨rfl, rfl, ?_⟩
    rw [show PyData.eqv (.bool b) (.bool b) = true by cases b <;> rfl]
    exact hq
  · simp only [tdSeq, tdIfS, tdRet, tdRetN, tdNext, tdNever, tdDrop, tdBreak, tdCont, tdSet, tdOwn, tdAsg, tdAppend, tdExtend, tdPop, tdAug, tdAugSub, tdPar, tdParOO, tdParSO, tdAsgSOS, tdParSD, tdPutT, tdSortKeys, tdFor, tdLc, tdYes, gdName, gdNil, gdCons, gdTup, gdSub, tdSh, tdLent, tdC, td1, td2, tf1, tdB, tdAnd, tdOr, tdNot, tdAndV, tdOrV, tdNotV, tdIf, tdNil, tdCons, tdTup, tdLst, tdChain, tdIxB, tdRep, tdCat, tdCall, tdCallR, tiL, tiT, tiR1, tiR2, rI, rI0, rU, rLen, rInts, rBools, rInt, rTuple, rList, rIxD, nn_none, nn_int, nn_tup, noOwn, wipeD, Slot.addr, truD, List.getElem?_cons_zero, List.getElem?_cons_succ, List.set_cons_zero, List.set_cons_succ, List.map_cons, List.map_nil, List.length_cons, List.length_nil, List.cons_append, List.nil_append, List.replicate, Nat.sub_self, Nat.zero_add, Nat.add_one_sub_one, Nat.reduceAdd, Nat.reduceSub, Nat.succ_sub_succ_eq_sub, Nat.sub_zero, List.all_cons, List.all_nil, Option.isNone_none, Bool.and_self, Bool.and_true, List.reduceReplicate, true_and, and_true, wD, bD, lD, pD, if_true, if_false, Bool.not_true, Bool.not_false, Bool.false_eq_true]
    simp only [ii, ib, it, il, is', ti, tb, tt, tl, ts', li, lb, lt', ll, ls', ni, nb, nt, nl, ns', bi, bb, bt, bl', bs, si, sb, st', sl, ss, di, db, dt, dl, ds', if_true, if_false, Bool.not_true, Bool.not_false, Bool.false_eq_true, Bool.or_self, Bool.or_true, Bool.true_or, Bool.or_false, Bool.false_or]
    refine ⟨rfl, rfl, ?_⟩
    rw [show PyData.eqv (.bool false) (.bool false) = true from rfl]
    simp only [tdSeq, tdIfS, tdRet, tdRetN, tdNext, tdNever, tdDrop, tdBreak, tdCont, tdSet, tdOwn, tdAsg, tdAppend, tdExtend, tdPop, tdAug, tdAugSub, tdPar, tdParOO, tdParSO, tdAsgSOS, tdParSD, tdPutT, tdSortKeys, tdFor, tdLc, tdYes, gdName, gdNil, gdCons, gdTup, gdSub, tdSh, tdLent, tdC, td1, td2, tf1, tdB, tdAnd, tdOr, tdNot, tdAndV, tdOrV, tdNotV, tdIf, tdNil, tdCons, tdTup, tdLst, tdChain, tdIxB, tdRep, tdCat, tdCall, tdCallR, tiL, tiT, tiR1, tiR2, rI, rI0, rU, rLen, rInts, rBools, rInt, rTuple, rList, rIxD, nn_none, nn_int, nn_tup, noOwn, wipeD, Slot.addr, truD, List.getElem?_cons_zero, List.getElem?_cons_succ, List.set_cons_zero, List.set_cons_succ, List.map_cons, List.map_nil, List.length_cons, List.length_nil, List.cons_append, List.nil_append, List.replicate, Nat.sub_self, Nat.zero_add, Nat.add_one_sub_one, Nat.reduceAdd, Nat.reduceSub, Nat.succ_sub_succ_eq_sub, Nat.sub_zero, List.all_cons, List.all_nil, Option.isNone_none, Bool.and_self, Bool.and_true, List.reduceReplicate, true_and, and_true, wD, bD, lD, pD, if_true, if_false, Bool.not_true, Bool.not_false, Bool.false_eq_true]
    refine ⟨rfl, rfl, ?_⟩
    rw [eqv_int, decide_eq_true (rfl : (xs.length : Int) = xs.length)]
    simp only [tdSeq, tdIfS, tdRet, tdRetN, tdNext, tdNever, tdDrop, tdBreak, tdCont, tdSet, tdOwn, tdAsg, tdAppend, tdExtend, tdPop, tdAug, tdAugSub, tdPar, tdParOO, tdParSO, tdAsgSOS, tdParSD, tdPutT, tdSortKeys, tdFor, tdLc, tdYes, gdName, gdNil, gdCons, gdTup, gdSub, tdSh, tdLent, tdC, td1, td2, tf1, tdB, tdAnd, tdOr, tdNot, tdAndV, tdOrV, tdNotV, tdIf, tdNil, tdCons, tdTup, tdLst, tdChain, tdIxB, tdRep, tdCat, tdCall, tdCallR, tiL, tiT, tiR1, tiR2, rI, rI0, rU, rLen, rInts, rBools, rInt, rTuple, rList, rIxD, nn_none, nn_int, nn_tup, noOwn, wipeD, Slot.addr, truD, List.getElem?_cons_zero, List.getElem?_cons_succ, List.set_cons_zero, List.set_cons_succ, List.map_cons, List.map_nil, List.length_cons, List.length_nil, List.cons_append, List.nil_append, List.replicate, Nat.sub_self, Nat.zero_add, Nat.add_one_sub_one, Nat.reduceAdd, Nat.reduceSub, Nat.succ_sub_succ_eq_sub, Nat.sub_zero, List.all_cons, List.all_nil, Option.isNone_none, Bool.and_self, Bool.and_true, List.reduceReplicate, true_and, and_true, wD, bD, lD, pD, if_true, if_false, Bool.not_true, Bool.not_false, Bool.false_eq_true]
    refine ⟨⟨by omega, by omega⟩, ?_⟩
    refine wLc_map (fun (j : Nat) => .int (0 + (j : Int))) (fun _ => false) (fun (j : Nat) => .int (j : Int)) (List.range xs.length) (by rw [List.length_range]; unfold sizeLine; omega) ?_ ?_
    · intro j hj k1 k2 hk1 hk2
      have hj' := List.mem_range.mp hj
      rw [Int.zero_add]
      simp only [tdSeq, tdIfS, tdRet, tdRetN, tdNext, tdNever, tdDrop, tdBreak, tdCont, tdSet, tdOwn, tdAsg, tdAppend, tdExtend, tdPop, tdAug, tdAugSub, tdPar, tdParOO, tdParSO, tdAsgSOS, tdParSD, tdPutT, tdSortKeys, tdFor, tdLc, tdYes, gdName, gdNil, gdCons, gdTup, gdSub, tdSh, tdLent, tdC, td1, td2, tf1, tdB, tdAnd, tdOr, tdNot, tdAndV, tdOrV, tdNotV, tdIf, tdNil, tdCons, tdTup, tdLst, tdChain, tdIxB, tdRep, tdCat, tdCall, tdCallR, tiL, tiT, tiR1, tiR2, rI, rI0, rU, rLen, rInts, rBools, rInt, rTuple, rList, rIxD, nn_none, nn_int, nn_tup, noOwn, wipeD, Slot.addr, truD, List.getElem?_cons_zero, List.getElem?_cons_succ, List.set_cons_zero, List.set_cons_succ, List.map_cons, List.map_nil, List.length_cons, List.length_nil, List.cons_append, List.nil_append, List.replicate, Nat.sub_self, Nat.zero_add, Nat.add_one_sub_one, Nat.reduceAdd, Nat.reduceSub, Nat.succ_sub_succ_eq_sub, Nat.sub_zero, List.all_cons, List.all_nil, Option.isNone_none, Bool.and_self, Bool.and_true, List.reduceReplicate, true_and, and_true, wD, bD, lD, pD, if_true, if_false, Bool.not_true, Bool.not_false, Bool.false_eq_true]
      refine ⟨xs[j], by rw [atI_nat hj', List.getElem?_eq_getElem hj'], xs[j], by rw [atI_nat hj', List.getElem?_eq_getElem hj'], _, rfl, hf _ (List.getElem_mem hj'), ?_⟩
      simp only [tdSeq, tdIfS, tdRet, tdRetN, tdNext, tdNever, tdDrop, tdBreak, tdCont, tdSet, tdOwn, tdAsg, tdAppend, tdExtend, tdPop, tdAug, tdAugSub, tdPar, tdParOO, tdParSO, tdAsgSOS, tdParSD, tdPutT, tdSortKeys, tdFor, tdLc, tdYes, gdName, gdNil, gdCons, gdTup, gdSub, tdSh, tdLent, tdC, td1, td2, tf1, tdB, tdAnd, tdOr, tdNot, tdAndV, tdOrV, tdNotV, tdIf, tdNil, tdCons, tdTup, tdLst, tdChain, tdIxB, tdRep, tdCat, tdCall, tdCallR, tiL, tiT, tiR1, tiR2, rI, rI0, rU, rLen, rInts, rBools, rInt, rTuple, rList, rIxD, nn_none, nn_int, nn_tup, noOwn, wipeD, Slot.addr, truD, List.getElem?_cons_zero, List.getElem?_cons_succ, List.set_cons_zero, List.set_cons_succ, List.map_cons, List.map_nil, List.length_cons, List.length_nil, List.cons_append, List.nil_append, List.replicate, Nat.sub_self, Nat.zero_add, Nat.add_one_sub_one, Nat.reduceAdd, Nat.reduceSub, Nat.succ_sub_succ_eq_sub, Nat.sub_zero, List.all_cons, List.all_nil, Option.isNone_none, Bool.and_self, Bool.and_true, List.reduceReplicate, true_and, and_true, wD, bD, lD, pD, if_true, if_false, Bool.not_true, Bool.not_false, Bool.false_eq_true]
      exact hk2 rfl
    · have : (List.range xs.length).filter (fun _ => false) = [] := List.filter_eq_nil_iff.mpr fun _ _ h => nomatch h
      rw [this]
      exact ⟨by decide, rfl, rfl, hq⟩
theorem fn__law_alike3 (T : Top K mg) (F__law_alike : Fn P w K mg base 2 "_law_alike" (spD K 2 sd__law_alike2)) : Fn P w K mg base 3 "_law_alike" (spD K 2 sd__law_alike3) := by
  refine defD T.d__law_alike sc__law_alike (by decide) (fun f cdv A outer s H E hr => (dss_cons (ds_if (dt_val (de_isi2 (S := "tuple") (T := "list") (by decide) (by decide) rfl T.b_isinstance rfl T.b_tuple (by decide +kernel) rfl T.b_list (by decide +kernel) (dv 1))) (dss_cons (ds_if (DW.dt (dw_or (dt_not (dt_val (de_isi2 (S := "tuple") (T := "list") (by decide) (by decide) rfl T.b_isinstance rfl T.b_tuple (by decide +kernel) rfl T.b_list (by decide +kernel) (dv 0)))) (dw_or1 (dt_cmp (l_ne hr.units) (de_isi (T := "list") (by decide) rfl T.b_isinstance rfl T.b_list (by decide +kernel) (dbv 0)) (de_isi (T := "list") (by decide) rfl T.b_isinstance rfl T.b_list (by decide +kernel) (dbv 1)) (nomark _))))) (dss_one (ds_ret de_bl)) dss_nil)
  (dss_cons (ds_if (dt_cmp (l_ne hr.units) (de_b1 call_len_seq l1_len rfl T.b_len (by decide +kernel) (d1 (dbv 0))) (de_b1 call_len_seq l1_len rfl T.b_len (by decide +kernel) (d1 (dbv 1))) (nomark _)) (dss_one (ds_ret de_bl)) dss_nil)
  (dss_one (ds_ret (de_cmp (l_eq hr.units) (DF.de (df_lc (own := [("k", 2)]) rfl sc__law_alike.nd (di_range1 rfl T.b_range (da_cons (de_b1 call_len_seq l1_len rfl T.b_len (by decide +kernel) (d1 (dbv 1))) da_nil)) (blkOk_by (N := ["found", "due", "k"]) (sc := defScope s__law_alike) (by decide +kernel)) (fun _ _ _ _ _ => (dgn 2 sc__law_alike.nd)) (fun _ _ _ _ _ => (dts_one (dt_not (dt_val (dcall F__law_alike hr (da_cons (de_ix (dv 0) (dv 2) (fun _ _ => rfl)) (da_cons (de_ix (dv 1) (dv 2) (fun _ _ => rfl)) da_nil))))))) (fun _ _ _ _ _ => (dv 2)))) (DF.de (df_lst da_nil)) (nomark _)))))) dss_nil)
  (dss_cons (ds_if (DW.dt (dw_or (dt_cmp l_isN (dv 1) de_non (nomark _)) (dw_or1 (dt_val (de_isi (T := "str") (by decide) rfl T.b_isinstance rfl T.b_str (by decide +kernel) (dbv 1)))))) (dss_one (ds_ret (de_and (de_cmp (l_eq hr.units) (dv 0) (dv 1) (nomark _)) (de_one (de_cmp (l_eq hr.units) (de_isi (T := "str") (by decide) rfl T.b_isinstance rfl T.b_str (by decide +kernel) (dbv 0)) (de_isi (T := "str") (by decide) rfl T.b_isinstance rfl T.b_str (by decide +kernel) (dbv 1)) (nomark _)))))) dss_nil)
  (dss_one (ds_ret (de_and (de_isi (T := "int") (by decide) rfl T.b_isinstance rfl T.b_int (by decide +kernel) (dbv 0)) (de_and (de_cmp (l_eq hr.units) (de_isi (T := "bool") (by decide) rfl T.b_isinstance rfl T.b_bool (by decide +kernel) (dbv 0)) (de_isi (T := "bool") (by decide) rfl T.b_isinstance rfl T.b_bool (by decide +kernel) (dbv 1)) (nomark _)) (de_one (de_cmp (l_eq hr.units) (dv 0) (dv 1) (nomark _)))))))))) ?_
  rintro ds q hl ⟨d, rfl, (⟨i, rfl⟩ | rfl | ⟨b, rfl⟩) | ⟨xs, rfl, hn, hf⟩, hq⟩
  · simp only [tdSeq, tdIfS, tdRet, tdRetN, tdNext, tdNever, tdDrop, tdBreak, tdCont, tdSet, tdOwn, tdAsg, tdAppend, tdExtend, tdPop, tdAug, tdAugSub, tdPar, tdParOO, tdParSO, tdAsgSOS, tdParSD, tdPutT, tdSortKeys, tdFor, tdLc, tdYes, gdName, gdNil, gdCons, gdTup, gdSub, tdSh, tdLent, tdC, td1, td2, tf1, tdB, tdAnd, tdOr, tdNot, tdAndV, tdOrV, tdNotV, tdIf, tdNil, tdCons, tdTup, tdLst, tdChain, tdIxB, tdRep, tdCat, tdCall, tdCallR, tiL, tiT, tiR1, tiR2, rI, rI0, rU, rLen, rInts, rBools, rInt, rTuple, rList, rIxD, nn_none, nn_int, nn_tup, noOwn, wipeD, Slot.addr, truD, List.getElem?_cons_zero, List.getElem?_cons_succ, List.set_cons_zero, List.set_cons_succ, List.map_cons, List.map_nil, List.length_cons, List.length_nil, List.cons_append, List.nil_append, List.replicate, Nat.sub_self, Nat.zero_add, Nat.add_one_sub_one, Nat.reduceAdd, Nat.reduceSub, Nat.succ_sub_succ_eq_sub, Nat.sub_zero, List.all_cons, List.all_nil, Option.isNone_none, Bool.and_self, Bool.and_true, List.reduceReplicate, true_and, and_true, wD, bD, lD, pD, if_true, if_false, Bool.not_true, Bool.not_false, Bool.false_eq_true]
    simp only [ii, ib, it, il, is', ti, tb, tt, tl, ts', li, lb, lt', ll, ls', ni, nb, nt, nl, ns', bi, bb, bt, bl', bs, si, sb, st', sl, ss, di, db, dt, dl, ds', if_true, if_false, Bool.not_true, Bool.not_false, Bool.false_eq_true, Bool.or_self, Bool.or_true, Bool.true_or, Bool.or_false, Bool.false_or]
    refine ⟨rfl, rfl, ?_⟩
    rw [show PyData.eqv (.bool false) (.bool false) = true from rfl, if_pos rfl]
    refine ⟨rfl, rfl, ?_⟩
    rw [eqv_int, decide_eq_true (rfl : i = i)]
    exact hq
  · simp only [tdSeq, tdIfS, tdRet, tdRetN, tdNext, tdNever, tdDrop, tdBreak, tdCont, tdSet, tdOwn, tdAsg, tdAppend, tdExtend, tdPop, tdAug, tdAugSub, tdPar, tdParOO, tdParSO, tdAsgSOS, tdParSD, tdPutT, tdSortKeys, tdFor, tdLc, tdYes, gdName, gdNil, gdCons, gdTup, gdSub, tdSh, tdLent, tdC, td1, td2, tf1, tdB, tdAnd, tdOr, tdNot, tdAndV, tdOrV, tdNotV, tdIf, tdNil, tdCons, tdTup, tdLst, tdChain, tdIxB, tdRep, tdCat, tdCall, tdCallR, tiL, tiT, tiR1, tiR2, rI, rI0, rU, rLen, rInts, rBools, rInt, rTuple, rList, rIxD, nn_none, nn_int, nn_tup, noOwn, wipeD, Slot.addr, truD, List.getElem?_cons_zero, List.getElem?_cons_succ, List.set_cons_zero, List.set_cons_succ, List.map_cons, List.map_nil, List.length_cons, List.length_nil, List.cons_append, List.nil_append, List.replicate, Nat.sub_self, Nat.zero_add, Nat.add_one_sub_one, Nat.reduceAdd, Nat.reduceSub, Nat.succ_sub_succ_eq_sub, Nat.sub_zero, List.all_cons, List.all_nil, Option.isNone_none, Bool.and_self, Bool.and_true, List.reduceReplicate, true_and, and_true, wD, bD, lD, pD, if_true, if_false, Bool.not_true, Bool.not_false, Bool.false_eq_true]
    simp only [ii, ib, it, il, is', ti, tb, tt, tl, ts', li, lb, lt', ll, ls', ni, nb, nt, nl, ns', bi, bb, bt, bl', bs, si, sb, st', sl, ss, di, db, dt, dl, ds', if_true, if_false, Bool.not_true, Bool.not_false, Bool.false_eq_true, Bool.or_self, Bool.or_true, Bool.true_or, Bool.or_false, Bool.false_or]
    refine ⟨rfl, rfl, ?_⟩
    rw [show PyData.eqv .none .none = true from rfl, if_pos rfl]
    exact ⟨rfl, rfl, hq⟩
  · simp only [tdSeq, tdIfS, tdRet, tdRetN, tdNext, tdNever, tdDrop, tdBreak, tdCont, tdSet, tdOwn, tdAsg, tdAppend, tdExtend, tdPop, tdAug, tdAugSub, tdPar, tdParOO, tdParSO, tdAsgSOS, tdParSD, tdPutT, tdSortKeys, tdFor, tdLc, tdYes, gdName, gdNil, gdCons, gdTup, gdSub, tdSh, tdLent, tdC, td1, td2, tf1, tdB, tdAnd, tdOr, tdNot, tdAndV, tdOrV, tdNotV, tdIf, tdNil, tdCons, tdTup, tdLst, tdChain, tdIxB, tdRep, tdCat, tdCall, tdCallR, tiL, tiT, tiR1, tiR2, rI, rI0, rU, rLen, rInts, rBools, rInt, rTuple, rList, rIxD, nn_none, nn_int, nn_tup, noOwn, wipeD, Slot.addr, truD, List.getElem?_cons_zero, List.getElem?_cons_succ, List.set_cons_zero, List.set_cons_succ, List.map_cons, List.map_nil, List.length_cons, List.length_nil, List.cons_append, List.nil_append, List.replicate, Nat.sub_self, Nat.zero_add, Nat.add_one_sub_one, Nat.reduceAdd, Nat.reduceSub, Nat.succ_sub_succ_eq_sub, Nat.sub_zero, List.all_cons, List.all_nil, Option.isNone_none, Bool.and_self, Bool.and_true, List.reduceReplicate, true_and, and_true, wD, bD, lD, pD, if_true, if_false, Bool.not_true, Bool.not_false, Bool.false_eq_true]
    simp only [ii, ib, it, il, is', ti, tb, tt, tl, ts', li, lb, lt', ll, ls', ni, nb, nt, nl, ns', bi, bb, bt, bl', bs, si, sb, st', sl, ss, di, db, dt, dl, ds', if_true, if_false, Bool.not_true, Bool.not_false, Bool.false_eq_true, Bool.or_self, Bool.or_true, Bool.true_or, Bool.or_false, Bool.false_or]
    refine ⟨rfl, rfl, ?_⟩
    rw [show PyData.eqv (.bool true) (.bool true) = true from rfl, if_pos rfl]
    refine ⟨rfl, rfl, ?_⟩
    rw [show PyData.eqv (.bool b) (.bool b) = true by cases b <;> rfl]
    exact hq
  · simp only [tdSeq, tdIfS, tdRet, tdRetN, tdNext, tdNever, tdDrop, tdBreak, tdCont, tdSet, tdOwn, tdAsg, tdAppend, tdExtend, tdPop, tdAug, tdAugSub, tdPar, tdParOO, tdParSO, tdAsgSOS, tdParSD, tdPutT, tdSortKeys, tdFor, tdLc, tdYes, gdName, gdNil, gdCons, gdTup, gdSub, tdSh, tdLent, tdC, td1, td2, tf1, tdB, tdAnd, tdOr, tdNot, tdAndV, tdOrV, tdNotV, tdIf, tdNil, tdCons, tdTup, tdLst, tdChain, tdIxB, tdRep, tdCat, tdCall, tdCallR, tiL, tiT, tiR1, tiR2, rI, rI0, rU, rLen, rInts, rBools, rInt, rTuple, rList, rIxD, nn_none, nn_int, nn_tup, noOwn, wipeD, Slot.addr, truD, List.getElem?_cons_zero, List.getElem?_cons_succ, List.set_cons_zero, List.set_cons_succ, List.map_cons, List.map_nil, List.length_cons, List.length_nil, List.cons_append, List.nil_append, List.replicate, Nat.sub_self, Nat.zero_add, Nat.add_one_sub_one, Nat.reduceAdd, Nat.reduceSub, Nat.succ_sub_succ_eq_sub, Nat.sub_zero, List.all_cons, List.all_nil, Option.isNone_none, Bool.and_self, Bool.and_true, List.reduceReplicate, true_and, and_true, wD, bD, lD, pD, if_true, if_false, Bool.not_true, Bool.not_false, Bool.false_eq_true]
    simp only [ii, ib, it, il, is', ti, tb, tt, tl, ts', li, lb, lt', ll, ls', ni, nb, nt, nl, ns', bi, bb, bt, bl', bs, si, sb, st', sl, ss, di, db, dt, dl, ds', if_true, if_false, Bool.not_true, Bool.not_false, Bool.false_eq_true, Bool.or_self, Bool.or_true, Bool.true_or, Bool.or_false, Bool.false_or]
    refine ⟨rfl, rfl, ?_⟩
    rw [show PyData.eqv (.bool false) (.bool false) = true from rfl]
    simp only [tdSeq, tdIfS, tdRet, tdRetN, tdNext, tdNever, tdDrop, tdBreak, tdCont, tdSet, tdOwn, tdAsg, tdAppend, tdExtend, tdPop, tdAug, tdAugSub, tdPar, tdParOO, tdParSO, tdAsgSOS, tdParSD, tdPutT, tdSortKeys, tdFor, tdLc, tdYes, gdName, gdNil, gdCons, gdTup, gdSub, tdSh, tdLent, tdC, td1, td2, tf1, tdB, tdAnd, tdOr, tdNot, tdAndV, tdOrV, tdNotV, tdIf, tdNil, tdCons, tdTup, tdLst, tdChain, tdIxB, tdRep, tdCat, tdCall, tdCallR, tiL, tiT, tiR1, tiR2, rI, rI0, rU, rLen, rInts, rBools, rInt, rTuple, rList, rIxD, nn_none, nn_int, nn_tup, noOwn, wipeD, Slot.addr, truD, List.getElem?_cons_zero, List.getElem?_cons_succ, List.set_cons_zero, List.set_cons_succ, List.map_cons, List.map_nil, List.length_cons, List.length_nil, List.cons_append, List.nil_append, List.replicate, Nat.sub_self, Nat.zero_add, Nat.add_one_sub_one, Nat.reduceAdd, Nat.reduceSub, Nat.succ_sub_succ_eq_sub, Nat.sub_zero, List.all_cons, List.all_nil, Option.isNone_none, Bool.and_self, Bool.and_true, List.reduceReplicate, true_and, and_true, wD, bD, lD, pD, if_true, if_false, Bool.not_true, Bool.not_false, Bool.false_eq_true]
    refine ⟨rfl, rfl, ?_⟩
    rw [eqv_int, decide_eq_true (rfl : (xs.length : Int) = xs.length)]
    simp only [tdSeq, tdIfS, tdRet, tdRetN, tdNext, tdNever, tdDrop, tdBreak, tdCont, tdSet, tdOwn, tdAsg, tdAppend, tdExtend, tdPop, tdAug, tdAugSub, tdPar, tdParOO, tdParSO, tdAsgSOS, tdParSD, tdPutT, tdSortKeys, tdFor, tdLc, tdYes, gdName, gdNil, gdCons, gdTup, gdSub, tdSh, tdLent, tdC, td1, td2, tf1, tdB, tdAnd, tdOr, tdNot, tdAndV, tdOrV, tdNotV, tdIf, tdNil, tdCons, tdTup, tdLst, tdChain, tdIxB, tdRep, tdCat, tdCall, tdCallR, tiL, tiT, tiR1, tiR2, rI, rI0, rU, rLen, rInts, rBools, rInt, rTuple, rList, rIxD, nn_none, nn_int, nn_tup, noOwn, wipeD, Slot.addr, truD, List.getElem?_cons_zero, List.getElem?_cons_succ, List.set_cons_zero, List.set_cons_succ, List.map_cons, List.map_nil, List.length_cons, List.length_nil, List.cons_append, List.nil_append, List.replicate, Nat.sub_self, Nat.zero_add, Nat.add_one_sub_one, Nat.reduceAdd, Nat.reduceSub, Nat.succ_sub_succ_eq_sub, Nat.sub_zero, List.all_cons, List.all_nil, Option.isNone_none, Bool.and_self, Bool.and_true, List.reduceReplicate, true_and, and_true, wD, bD, lD, pD, if_true, if_false, Bool.not_true, Bool.not_false, Bool.false_eq_true]
    refine ⟨⟨by omega, by omega⟩, ?_⟩
    refine wLc_map (fun (j : Nat) => .int (0 + (j : Int))) (fun _ => false) (fun (j : Nat) => .int (j : Int)) (List.range xs.length) (by rw [List.length_range]; unfold sizeLine; omega) ?_ ?_
    · intro j hj k1 k2 hk1 hk2
      have hj' := List.mem_range.mp hj
      rw [Int.zero_add]
      simp only [tdSeq, tdIfS, tdRet, tdRetN, tdNext, tdNever, tdDrop, tdBreak, tdCont, tdSet, tdOwn, tdAsg, tdAppend, tdExtend, tdPop, tdAug, tdAugSub, tdPar, tdParOO, tdParSO, tdAsgSOS, tdParSD, tdPutT, tdSortKeys, tdFor, tdLc, tdYes, gdName, gdNil, gdCons, gdTup, gdSub, tdSh, tdLent, tdC, td1, td2, tf1, tdB, tdAnd, tdOr, tdNot, tdAndV, tdOrV, tdNotV, tdIf, tdNil, tdCons, tdTup, tdLst, tdChain, tdIxB, tdRep, tdCat, tdCall, tdCallR, tiL, tiT, tiR1, tiR2, rI, rI0, rU, rLen, rInts, rBools, rInt, rTuple, rList, rIxD, nn_none, nn_int, nn_tup, noOwn, wipeD, Slot.addr, truD, List.getElem?_cons_zero, List.getElem?_cons_succ, List.set_cons_zero, List.set_cons_succ, List.map_cons, List.map_nil, List.length_cons, List.length_nil, List.cons_append, List.nil_append, List.replicate, Nat.sub_self, Nat.zero_add, Nat.add_one_sub_one, Nat.reduceAdd, Nat.reduceSub, Nat.succ_sub_succ_eq_sub, Nat.sub_zero, List.all_cons, List.all_nil, Option.isNone_none, Bool.and_self, Bool.and_true, List.reduceReplicate, true_and, and_true, wD, bD, lD, pD, if_true, if_false, Bool.not_true, Bool.not_false, Bool.false_eq_true]
      refine ⟨xs[j], by rw [atI_nat hj', List.getElem?_eq_getElem hj'], xs[j], by rw [atI_nat hj', List.getElem?_eq_getElem hj'], _, rfl, hf _ (List.getElem_mem hj'), ?_⟩
      simp only [tdSeq, tdIfS, tdRet, tdRetN, tdNext, tdNever, tdDrop, tdBreak, tdCont, tdSet, tdOwn, tdAsg, tdAppend, tdExtend, tdPop, tdAug, tdAugSub, tdPar, tdParOO, tdParSO, tdAsgSOS, tdParSD, tdPutT, tdSortKeys, tdFor, tdLc, tdYes, gdName, gdNil, gdCons, gdTup, gdSub, tdSh, tdLent, tdC, td1, td2, tf1, tdB, tdAnd, tdOr, tdNot, tdAndV, tdOrV, tdNotV, tdIf, tdNil, tdCons, tdTup, tdLst, tdChain, tdIxB, tdRep, tdCat, tdCall, tdCallR, tiL, tiT, tiR1, tiR2, rI, rI0, rU, rLen, rInts, rBools, rInt, rTuple, rList, rIxD, nn_none, nn_int, nn_tup, noOwn, wipeD, Slot.addr, truD, List.getElem?_cons_zero, List.getElem?_cons_succ, List.set_cons_zero, List.set_cons_succ, List.map_cons, List.map_nil, List.length_cons, List.length_nil, List.cons_append, List.nil_append, List.replicate, Nat.sub_self, Nat.zero_add, Nat.add_one_sub_one, Nat.reduceAdd, Nat.reduceSub, Nat.succ_sub_succ_eq_sub, Nat.sub_zero, List.all_cons, List.all_nil, Option.isNone_none, Bool.and_self, Bool.and_true, List.reduceReplicate, true_and, and_true, wD, bD, lD, pD, if_true, if_false, Bool.not_true, Bool.not_false, Bool.false_eq_true]
      exact hk2 rfl
    · have : (List.range xs.length).filter (fun _ => false) = [] := List.filter_eq_nil_iff.mpr fun _ _ h => nomatch h
      rw [this]
      exact ⟨by decide, rfl, rfl, hq⟩
theorem fn__law_heads (T : Top K mg) : Fn P w K mg base 1 "_law_heads" (spD K 1 sd__law_heads) := by
  refine defD T.d__law_heads sc__law_heads (by decide) (fun f cdv A outer s H E hr => (dss_one (ds_ret (DF.de (df_lc (own := [("k", 1)]) rfl sc__law_heads.nd (di_range1 rfl T.b_range (da_cons (de_b1 call_len_seq l1_len rfl T.b_len (by decide +kernel) (d1 (dbv 0))) da_nil)) (blkOk_by (N := ["laying", "k"]) (sc := defScope s__law_heads) (by decide +kernel)) (fun _ _ _ _ _ => (dgn 1 sc__law_heads.nd)) (fun _ _ _ _ _ => (dts_one (dt_cmp (l_eq hr.units) (de_ix (dv 0) (dv 1) (fun _ _ => rfl)) de_int (nomark _)))) (fun _ _ _ _ _ => (dv 1))))))) ?_
  rintro ds q hl ⟨ls, rfl | rfl, hn, hq⟩
  all_goals
    simp only [tdSeq, tdIfS, tdRet, tdRetN, tdNext, tdNever, tdDrop, tdBreak, tdCont, tdSet, tdOwn, tdAsg, tdAppend, tdExtend, tdPop, tdAug, tdAugSub, tdPar, tdParOO, tdParSO, tdAsgSOS, tdParSD, tdPutT, tdSortKeys, tdFor, tdLc, tdYes, gdName, gdNil, gdCons, gdTup, gdSub, tdSh, tdLent, tdC, td1, td2, tf1, tdB, tdAnd, tdOr, tdNot, tdAndV, tdOrV, tdNotV, tdIf, tdNil, tdCons, tdTup, tdLst, tdChain, tdIxB, tdRep, tdCat, tdCall, tdCallR, tiL, tiT, tiR1, tiR2, rI, rI0, rU, rLen, rInts, rBools, rInt, rTuple, rList, rIxD, nn_none, nn_int, nn_tup, noOwn, wipeD, Slot.addr, truD, List.getElem?_cons_zero, List.getElem?_cons_succ, List.set_cons_zero, List.set_cons_succ, List.map_cons, List.map_nil, List.length_cons, List.length_nil, List.cons_append, List.nil_append, List.replicate, Nat.sub_self, Nat.zero_add, Nat.add_one_sub_one, Nat.reduceAdd, Nat.reduceSub, Nat.succ_sub_succ_eq_sub, Nat.sub_zero, List.all_cons, List.all_nil, Option.isNone_none, Bool.and_self, Bool.and_true, List.reduceReplicate, true_and, and_true, wD, bD, lD, pD, if_true, if_false, Bool.not_true, Bool.not_false, Bool.false_eq_true]
    rw [List.length_map]
    refine ⟨⟨by omega, by omega⟩, ?_⟩
    refine wLc_map (fun (j : Nat) => .int (0 + (j : Int))) (fun j => decide (ls[j]? = some 1)) (fun j => .int (j : Int)) (List.range ls.length) (by rw [List.length_range]; unfold sizeLine; omega) ?_ ?_
    · intro j hj k1 k2 hk1 hk2
      have hj' := List.mem_range.mp hj
      rw [Int.zero_add]
      simp only [tdSeq, tdIfS, tdRet, tdRetN, tdNext, tdNever, tdDrop, tdBreak, tdCont, tdSet, tdOwn, tdAsg, tdAppend, tdExtend, tdPop, tdAug, tdAugSub, tdPar, tdParOO, tdParSO, tdAsgSOS, tdParSD, tdPutT, tdSortKeys, tdFor, tdLc, tdYes, gdName, gdNil, gdCons, gdTup, gdSub, tdSh, tdLent, tdC, td1, td2, tf1, tdB, tdAnd, tdOr, tdNot, tdAndV, tdOrV, tdNotV, tdIf, tdNil, tdCons, tdTup, tdLst, tdChain, tdIxB, tdRep, tdCat, tdCall, tdCallR, tiL, tiT, tiR1, tiR2, rI, rI0, rU, rLen, rInts, rBools, rInt, rTuple, rList, rIxD, nn_none, nn_int, nn_tup, noOwn, wipeD, Slot.addr, truD, List.getElem?_cons_zero, List.getElem?_cons_succ, List.set_cons_zero, List.set_cons_succ, List.map_cons, List.map_nil, List.length_cons, List.length_nil, List.cons_append, List.nil_append, List.replicate, Nat.sub_self, Nat.zero_add, Nat.add_one_sub_one, Nat.reduceAdd, Nat.reduceSub, Nat.succ_sub_succ_eq_sub, Nat.sub_zero, List.all_cons, List.all_nil, Option.isNone_none, Bool.and_self, Bool.and_true, List.reduceReplicate, true_and, and_true, wD, bD, lD, pD, if_true, if_false, Bool.not_true, Bool.not_false, Bool.false_eq_true]
      refine ⟨.int ls[j], by rw [atI_nat (by rw [List.length_map]; exact hj'), List.getElem?_map, List.getElem?_eq_getElem hj']; rfl, sh_int _, sh_int _, ?_⟩
      rw [eqv_int]
      have e : decide (ls[j] = 1) = decide (ls[j]? = some 1) := by rw [List.getElem?_eq_getElem hj']; simp
      rw [e]
      by_cases h : decide (ls[j]? = some 1) = true
      · rw [if_pos h]; exact hk1 h
      · rw [if_neg h]; exact hk2 (Bool.eq_false_iff.mpr h)
    · unfold headsL at hq
      rw [List.map_map] at hq
      exact hq
theorem fn__law_pick (T : Top K mg) (F__law_taken : Fn P w K mg base 1 "_law_taken" (spR K 1 sd__law_taken)) : Fn P w K mg base 2 "_law_pick" (spR K 1 sd__law_pick) := by
  refine defR (n := 1) T.d__law_pick sc__law_pick rfl (by decide) (fun f cdv A outer s H E hr => (dss_one (ds_ret (de_ix (dv 1) (dcallR 0 F__law_taken hr (da_cons (de_b1 call_len_seq l1_len rfl T.b_len (by decide +kernel) (d1 (dbv 1))) da_nil)) (fun _ _ => rfl))))) ?_
  rintro ds q hl ⟨xs, rfl | rfl, h0, h1, hq⟩
  all_goals
    simp only [tdSeq, tdIfS, tdRet, tdRetN, tdNext, tdNever, tdDrop, tdBreak, tdCont, tdSet, tdOwn, tdAsg, tdAppend, tdExtend, tdPop, tdAug, tdAugSub, tdPar, tdParOO, tdParSO, tdAsgSOS, tdParSD, tdPutT, tdSortKeys, tdFor, tdLc, tdYes, gdName, gdNil, gdCons, gdTup, gdSub, tdSh, tdLent, tdC, td1, td2, tf1, tdB, tdAnd, tdOr, tdNot, tdAndV, tdOrV, tdNotV, tdIf, tdNil, tdCons, tdTup, tdLst, tdChain, tdIxB, tdRep, tdCat, tdCall, tdCallR, tiL, tiT, tiR1, tiR2, rI, rI0, rU, rLen, rInts, rBools, rInt, rTuple, rList, rIxD, nn_none, nn_int, nn_tup, noOwn, wipeD, Slot.addr, truD, List.getElem?_cons_zero, List.getElem?_cons_succ, List.set_cons_zero, List.set_cons_succ, List.map_cons, List.map_nil, List.length_cons, List.length_nil, List.cons_append, List.nil_append, List.replicate, Nat.sub_self, Nat.zero_add, Nat.add_one_sub_one, Nat.reduceAdd, Nat.reduceSub, Nat.succ_sub_succ_eq_sub, Nat.sub_zero, List.all_cons, List.all_nil, Option.isNone_none, Bool.and_self, Bool.and_true, List.reduceReplicate, true_and, and_true, wD, bD, lD, pD, if_true, if_false, Bool.not_true, Bool.not_false, Bool.false_eq_true]
    refine ⟨_, rfl, by omega, by omega, fun k g0 g1 => ?_⟩
    obtain ⟨a, rfl⟩ := Int.eq_ofNat_of_zero_le g0
    have ha : a < xs.length := by omega
    simp only [tdSeq, tdIfS, tdRet, tdRetN, tdNext, tdNever, tdDrop, tdBreak, tdCont, tdSet, tdOwn, tdAsg, tdAppend, tdExtend, tdPop, tdAug, tdAugSub, tdPar, tdParOO, tdParSO, tdAsgSOS, tdParSD, tdPutT, tdSortKeys, tdFor, tdLc, tdYes, gdName, gdNil, gdCons, gdTup, gdSub, tdSh, tdLent, tdC, td1, td2, tf1, tdB, tdAnd, tdOr, tdNot, tdAndV, tdOrV, tdNotV, tdIf, tdNil, tdCons, tdTup, tdLst, tdChain, tdIxB, tdRep, tdCat, tdCall, tdCallR, tiL, tiT, tiR1, tiR2, rI, rI0, rU, rLen, rInts, rBools, rInt, rTuple, rList, rIxD, nn_none, nn_int, nn_tup, noOwn, wipeD, Slot.addr, truD, List.getElem?_cons_zero, List.getElem?_cons_succ, List.set_cons_zero, List.set_cons_succ, List.map_cons, List.map_nil, List.length_cons, List.length_nil, List.cons_append, List.nil_append, List.replicate, Nat.sub_self, Nat.zero_add, Nat.add_one_sub_one, Nat.reduceAdd, Nat.reduceSub, Nat.succ_sub_succ_eq_sub, Nat.sub_zero, List.all_cons, List.all_nil, Option.isNone_none, Bool.and_self, Bool.and_true, List.reduceReplicate, true_and, and_true, wD, bD, lD, pD, if_true, if_false, Bool.not_true, Bool.not_false, Bool.false_eq_true]
    exact ⟨_, by rw [atI_nat ha, List.getElem?_eq_getElem ha], hq _ (List.getElem_mem ha)⟩
theorem ok_law {f : Addr} {fd : FuncData} (T : Top K mg) (F : Fun K "law" "law" s_law f fd) (F__law_layings : Fn P w K mg base 1 "_law_layings" (spD K 1 sd__law_layings)) (F_orders_by_falls : Fn P w K mg base 4 "orders_by_falls" (spD K 1 sd_orders_by_falls)) (F__law_heads : Fn P w K mg base 1 "_law_heads" (spD K 1 sd__law_heads)) (F__law_pick : Fn P w K mg base 2 "_law_pick" (spR K 1 sd__law_pick)) (F__law_alike : Fn P w K mg base 3 "_law_alike" (spD K 2 sd__law_alike3)) (F__law_taken : Fn P w K mg base 1 "_law_taken" (spR K 1 sd__law_taken)) (F_rows_by_falls : Fn P w K mg base 4 "rows_by_falls" (spD K 1 sd_rows_by_falls)) (F_row_turned : Fn P w K mg base 6 "row_turned" (spD K 2 sd_row_turned)) (F_row_count : Fn P w K mg base 7 "row_count" (spD K 1 sd_row_count)) (F_row_falls : Fn P w K mg base 6 "row_falls" (spD K 1 sd_row_falls)) (F_row_mirrored : Fn P w K mg base 6 "row_mirrored" (spD K 1 sd_row_mirrored)) : FnOk P w K mg base CX0 8 f fd ["script"] (spD K 1 sdLaw) := by
  refine fnL (m := 13) F sc_law rfl rfl (fun cdv A outer s H E hr => ⟨(down 1 sc_law.nd (df_lst (da_cons (dv 0) (da_cons de_int (da_cons de_int (da_cons de_int da_nil)))))), (dss_cons (dset 2 sc_law.nd (de_op l_add de_int (dcallR 1 F__law_taken hr (da_cons de_int da_nil))))
  (dss_cons (ds_parOO (i := 3) (j := 4) rfl sc_law.nd rfl rfl (by decide) rfl rfl (df_rep (df_lst (da_cons de_int da_nil)) (dv 2)) (df_rep (df_lst (da_cons de_int da_nil)) (dv 2)) (by rfl))
  (dss_cons (ds_for PassesOwn.never rfl (di_list (dcall F__law_layings hr (da_cons (dv 2) da_nil))) (dgn 5 sc_law.nd)
   (dss_one (ds_if (dt_cmp (l_eq hr.units) (de_op l_mod (de_t1 call_int1 l1_int rfl T.b_int (by decide +kernel) (d1 (DE.lend (de_b1 (cr_sum2 rfl) l1_sum2 rfl T.b_sum (by decide +kernel) (d1 (dbv 5)))))) de_int) de_int (nomark _)) (dss_cons (dset 6 sc_law.nd (de_b1 call_len_seq l1_len rfl T.b_len (by decide +kernel) (d1 (DE.lend (dcall F_row_falls hr (da_cons (dv 5) da_nil))))))
  (dss_one (ds_asg (de_tup (da_cons (de_op l_add (de_ixB (dbv 3) (dv 6) (fun _ _ => rfl)) (dcall F_row_count hr (da_cons (dv 5) da_nil))) (da_cons (de_op l_add (de_ixB (dbv 4) (dv 6) (fun _ _ => rfl)) de_int) da_nil))) (dg_tup (n := 2) rfl (dgs_cons (dgsub 3 (dv 6)) (dgs_cons (dgsub 4 (dv 6)) dgs_nil)))))) dss_nil)))
  (dss_cons (ds_if (DW.dt (dw_or (dt_not (dt_val (dcall F__law_alike hr (da_cons (dcall F_orders_by_falls hr (da_cons (dv 2) da_nil)) (da_cons (de_t1 call_tuple_of l1_tuple rfl T.b_tuple (by decide +kernel) (d1 (dbv 3))) da_nil))))) (dw_or1 (dt_not (dt_val (dcall F__law_alike hr (da_cons (dcall F_rows_by_falls hr (da_cons (dv 2) da_nil)) (da_cons (de_t1 call_tuple_of l1_tuple rfl T.b_tuple (by decide +kernel) (d1 (dbv 4))) da_nil)))))))) (dss_one (ds_ret de_bl)) dss_nil)
  (dss_cons (by first | exact ds_par (i := 7) (j := 8) rfl sc_law.nd rfl rfl (by decide) rfl rfl (de_op l_add de_int (dcallR 1 F__law_taken hr (da_cons de_int da_nil))) de_int (by rfl) | exact ds_asg (de_tup (da_cons (de_op l_add de_int (dcallR 1 F__law_taken hr (da_cons de_int da_nil))) (da_cons de_int da_nil))) (dg_tup (n := 2) rfl (dgs_cons (dgn 7 sc_law.nd) (dgs_cons (dgn 8 sc_law.nd) dgs_nil))))
  (dss_cons (ds_for PassesOwn.never rfl (di_range2 rfl T.b_range (da_cons de_int (da_cons (de_op l_add (dv 7) de_int) da_nil))) (dgn 9 sc_law.nd)
   (dss_one (dset 8 sc_law.nd (de_op l_mul (dv 8) (dv 9)))))
  (dss_cons (dset 10 sc_law.nd (dcall F_orders_by_falls hr (da_cons (dv 7) da_nil)))
  (dss_cons (ds_if (DW.dt (dw_or (dt_cmp (l_ne hr.units) (de_b1 (cr_sum2 rfl) l1_sum2 rfl T.b_sum (by decide +kernel) (d1 (dbv 10))) (dv 8) (nomark _)) (dw_or (dt_cmp (l_ne hr.units) (dv 10) (de_back (dv 10) (de_un l_neg de_int)) (nomark _)) (dw_or1 (dt_cmp (l_ne hr.units) (de_ix (dv 10) de_int (fun _ _ => rfl)) de_int (nomark _)))))) (dss_one (ds_ret de_bl)) dss_nil)
  (dss_cons (ds_if (dt_cmp (l_ne hr.units) (dcall F_rows_by_falls hr (da_cons (dv 7) da_nil)) (de_back (dcall F_rows_by_falls hr (da_cons (dv 7) da_nil)) (de_un l_neg de_int)) (nomark _)) (dss_one (ds_ret de_bl)) dss_nil)
  (dss_cons (dset 5 sc_law.nd (de_t1 call_tuple_of l1_tuple rfl T.b_tuple (by decide +kernel) (d1 (DE.lend (DF.de (df_lc (own := [("k", 9)]) rfl sc_law.nd (di_range1 rfl T.b_range (da_cons (dv 7) da_nil)) (blkOk_by (N := ["script", "row", "many", "orders", "rows", "coins", "falls", "size", "whole", "k", "told", "some", "place", "left", "right"]) (sc := defScope s_law) (by decide +kernel)) (fun _ _ _ _ _ => (dgn 9 sc_law.nd)) (fun _ _ _ _ _ => dts_nil) (fun _ _ _ _ _ => (dcallR 1 F__law_taken hr (da_cons de_int da_nil)))))))))
  (dss_cons (ds_if (DW.dt (dw_or (dt_not (dt_val (dcall F__law_alike hr (da_cons (dcall F_row_mirrored hr (da_cons (dv 5) da_nil)) (da_cons (de_back (dv 5) (de_un l_neg de_int)) da_nil))))) (dw_or1 (dt_cmp (l_ne hr.units) (dcall F_row_count hr (da_cons (dcall F_row_mirrored hr (da_cons (dv 5) da_nil)) da_nil)) (dcall F_row_count hr (da_cons (dv 5) da_nil)) (nomark _))))) (dss_one (ds_ret de_bl)) dss_nil)
  (dss_cons (dset 11 sc_law.nd (dcall F__law_heads hr (da_cons (dv 5) da_nil)))
  (dss_cons (ds_if (dt_cmp (l_eqNil hr.units) (dv 11) (DF.de (df_lst da_nil)) (nomark _)) (dss_one (ds_ret de_bl)) dss_nil)
  (dss_cons (dset 12 sc_law.nd (dcallR 1 F__law_pick hr (da_cons (dv 11) da_nil)))
  (dss_cons (ds_parOO (i := 13) (j := 14) rfl sc_law.nd rfl rfl (by decide) rfl rfl (df_t1 call_list_of lf_list rfl T.b_list (by decide +kernel) (d1 (DE.lend (de_sliceT (dv 5) do_none (do_some (dv 12)))))) (df_t1 call_list_of lf_list rfl T.b_list (by decide +kernel) (d1 (DE.lend (de_sliceT (dv 5) (do_some (de_op l_add (dv 12) de_int)) do_none)))) (by rfl))
  (dss_cons (ds_if (dt_cmpO (l_neNil hr.units) (dbv 13) (DE.lend (DF.de (df_lst da_nil))) (nomark _)) (dss_one (ds_asg (de_op l_sub de_int (de_ixB (dbv 13) (de_un l_neg de_int) (fun _ _ => rfl))) (dgsub 13 (de_un l_neg de_int)))) dss_nil)
  (dss_cons (ds_if (dt_cmpO (l_neNil hr.units) (dbv 14) (DE.lend (DF.de (df_lst da_nil))) (nomark _)) (dss_one (ds_asg (de_op l_sub de_int (de_ixB (dbv 14) de_int (fun _ _ => rfl))) (dgsub 14 de_int))) dss_nil)
  (dss_one (ds_ret (dcall F__law_alike hr (da_cons (dcall F_row_turned hr (da_cons (dv 5) (da_cons (dv 12) da_nil))) (da_cons (de_tup (da_cons (de_t1 call_tuple_of l1_tuple rfl T.b_tuple (by decide +kernel) (d1 (dbv 13))) (da_cons (de_t1 call_tuple_of l1_tuple rfl T.b_tuple (by decide +kernel) (d1 (dbv 14))) da_nil))) da_nil))))))))))))))))))))))⟩) ?_
  intro ns hns
  unfold tdOwn
  generalize hL : LawRow ns _ _ = L
  simp only [tdSeq, tdIfS, tdRet, tdRetN, tdNext, tdNever, tdDrop, tdBreak, tdCont, tdSet, tdOwn, tdAsg, tdAppend, tdExtend, tdPop, tdAug, tdAugSub, tdPar, tdParOO, tdParSO, tdAsgSOS, tdParSD, tdPutT, tdSortKeys, tdFor, tdLc, tdYes, gdName, gdNil, gdCons, gdTup, gdSub, tdSh, tdLent, tdC, td1, td2, tf1, tdB, tdAnd, tdOr, tdNot, tdAndV, tdOrV, tdNotV, tdIf, tdNil, tdCons, tdTup, tdLst, tdChain, tdIxB, tdRep, tdCat, tdCall, tdCallR, tiL, tiT, tiR1, tiR2, rI, rI0, rU, rLen, rInts, rBools, rInt, rTuple, rList, rIxD, nn_none, nn_int, nn_tup, noOwn, wipeD, Slot.addr, truD, List.getElem?_cons_zero, List.getElem?_cons_succ, List.set_cons_zero, List.set_cons_succ, List.map_cons, List.map_nil, List.length_cons, List.length_nil, List.cons_append, List.nil_append, List.replicate, Nat.sub_self, Nat.zero_add, Nat.add_one_sub_one, Nat.reduceAdd, Nat.reduceSub, Nat.succ_sub_succ_eq_sub, Nat.sub_zero, List.all_cons, List.all_nil, Option.isNone_none, Bool.and_self, Bool.and_true, List.reduceReplicate, true_and, and_true, wD, bD, lD, pD, if_true, if_false, Bool.not_true, Bool.not_false, Bool.false_eq_true]
  refine ⟨by decide, fun a ha => ?_⟩
  rw [← hL]
  refine ⟨a, 0, 8963, 0, rfl, ⟨by decide, by decide, by decide, by decide⟩, ?_⟩
  refine seqG fun K1 hK1 => ?_
  simp only [tdSeq, tdIfS, tdRet, tdRetN, tdNext, tdNever, tdDrop, tdBreak, tdCont, tdSet, tdOwn, tdAsg, tdAppend, tdExtend, tdPop, tdAug, tdAugSub, tdPar, tdParOO, tdParSO, tdAsgSOS, tdParSD, tdPutT, tdSortKeys, tdFor, tdLc, tdYes, gdName, gdNil, gdCons, gdTup, gdSub, tdSh, tdLent, tdC, td1, td2, tf1, tdB, tdAnd, tdOr, tdNot, tdAndV, tdOrV, tdNotV, tdIf, tdNil, tdCons, tdTup, tdLst, tdChain, tdIxB, tdRep, tdCat, tdCall, tdCallR, tiL, tiT, tiR1, tiR2, rI, rI0, rU, rLen, rInts, rBools, rInt, rTuple, rList, rIxD, nn_none, nn_int, nn_tup, noOwn, wipeD, Slot.addr, truD, List.getElem?_cons_zero, List.getElem?_cons_succ, List.set_cons_zero, List.set_cons_succ, List.map_cons, List.map_nil, List.length_cons, List.length_nil, List.cons_append, List.nil_append, List.replicate, Nat.sub_self, Nat.zero_add, Nat.add_one_sub_one, Nat.reduceAdd, Nat.reduceSub, Nat.succ_sub_succ_eq_sub, Nat.sub_zero, List.all_cons, List.all_nil, Option.isNone_none, Bool.and_self, Bool.and_true, List.reduceReplicate, true_and, and_true, wD, bD, lD, pD, if_true, if_false, Bool.not_true, Bool.not_false, Bool.false_eq_true]
  refine ⟨7, rfl, by decide, by decide, fun z z0 z7 => ?_⟩
  obtain ⟨m, em, m1, m7⟩ : ∃ m : Nat, 1 + z = (m : Int) ∧ 1 ≤ m ∧ m ≤ 7 := ⟨(1 + z).toNat, by omega, by omega, by omega⟩
  dsimp only
  rw [em]
  rw [hK1]; clear hK1 K1
  refine seqG fun K1 hK1 => ?_
  unfold tdParOO
  try simp only [tdSeq, tdIfS, tdRet, tdRetN, tdNext, tdNever, tdDrop, tdBreak, tdCont, tdSet, tdOwn, tdAsg, tdAppend, tdExtend, tdPop, tdAug, tdAugSub, tdPar, tdParOO, tdParSO, tdAsgSOS, tdParSD, tdPutT, tdSortKeys, tdFor, tdLc, tdYes, gdName, gdNil, gdCons, gdTup, gdSub, tdSh, tdLent, tdC, td1, td2, tf1, tdB, tdAnd, tdOr, tdNot, tdAndV, tdOrV, tdNotV, tdIf, tdNil, tdCons, tdTup, tdLst, tdChain, tdIxB, tdRep, tdCat, tdCall, tdCallR, tiL, tiT, tiR1, tiR2, rI, rI0, rU, rLen, rInts, rBools, rInt, rTuple, rList, rIxD, nn_none, nn_int, nn_tup, noOwn, wipeD, Slot.addr, truD, List.getElem?_cons_zero, List.getElem?_cons_succ, List.set_cons_zero, List.set_cons_succ, List.map_cons, List.map_nil, List.length_cons, List.length_nil, List.cons_append, List.nil_append, List.replicate, Nat.sub_self, Nat.zero_add, Nat.add_one_sub_one, Nat.reduceAdd, Nat.reduceSub, Nat.succ_sub_succ_eq_sub, Nat.sub_zero, List.all_cons, List.all_nil, Option.isNone_none, Bool.and_self, Bool.and_true, List.reduceReplicate, true_and, and_true, wD, bD, lD, pD, if_true, if_false, Bool.not_true, Bool.not_false, Bool.false_eq_true]
  rw [Int.toNat_natCast]
  refine ⟨by decide, ⟨by omega, by omega, by unfold sizeLine; omega⟩, by decide, ⟨by omega, by omega, by unfold sizeLine; omega⟩, fun l1 l2 hl1 hl2 hl12 => ?_⟩
  have e0 : ∀ (g : Nat → Nat), (∀ f, g f = 0) → (List.replicate m [PyData.int 0]).flatten = (List.range m).map fun f => PyData.int ((g f : Nat) : Int) := fun g hg => by
    have gen : ∀ m : Nat, (List.replicate m [PyData.int 0]).flatten = (List.range m).map fun f => PyData.int ((g f : Nat) : Int) := fun m => by
      induction m with
      | zero => rfl
      | succ m ih => rw [List.replicate_succ', List.flatten_append, ih, List.range_succ, List.map_append, List.map_cons, hg]; rfl
    exact gen m
  have hp : 2 ^ m ≤ 2 ^ 7 := Nat.pow_le_pow_right (by decide) m7
  have hlays := lays_len m
  have hfull : ∀ l ∈ lays m, Full (m : Int) l := fun l hl => (lays_full (n := (m : Int)) (by omega)).mp (by rw [Int.toNat_natCast]; exact hl)
  obtain ⟨fs1, fs2, fs3⟩ := falls_small m1 m7
  rw [hK1]; clear hK1 K1
  refine seqG fun K1 hK1 => ?_
  simp only [tdSeq, tdIfS, tdRet, tdRetN, tdNext, tdNever, tdDrop, tdBreak, tdCont, tdSet, tdOwn, tdAsg, tdAppend, tdExtend, tdPop, tdAug, tdAugSub, tdPar, tdParOO, tdParSO, tdAsgSOS, tdParSD, tdPutT, tdSortKeys, tdFor, tdLc, tdYes, gdName, gdNil, gdCons, gdTup, gdSub, tdSh, tdLent, tdC, td1, td2, tf1, tdB, tdAnd, tdOr, tdNot, tdAndV, tdOrV, tdNotV, tdIf, tdNil, tdCons, tdTup, tdLst, tdChain, tdIxB, tdRep, tdCat, tdCall, tdCallR, tiL, tiT, tiR1, tiR2, rI, rI0, rU, rLen, rInts, rBools, rInt, rTuple, rList, rIxD, nn_none, nn_int, nn_tup, noOwn, wipeD, Slot.addr, truD, List.getElem?_cons_zero, List.getElem?_cons_succ, List.set_cons_zero, List.set_cons_succ, List.map_cons, List.map_nil, List.length_cons, List.length_nil, List.cons_append, List.nil_append, List.replicate, Nat.sub_self, Nat.zero_add, Nat.add_one_sub_one, Nat.reduceAdd, Nat.reduceSub, Nat.succ_sub_succ_eq_sub, Nat.sub_zero, List.all_cons, List.all_nil, Option.isNone_none, Bool.and_self, Bool.and_true, List.reduceReplicate, true_and, and_true, wD, bD, lD, pD, if_true, if_false, Bool.not_true, Bool.not_false, Bool.false_eq_true]
  refine ⟨m, rfl, by omega, by omega, ?_⟩
  rw [Int.toNat_natCast]
  dsimp only
  refine wFor_at (fun i ρ => ∃ x5 x6, ρ = [.sh (.list (ns.map .int)), .row, .sh (.int m), .own l1 ((List.range m).map fun f => PyData.int ((ordF ((lays m).take i) f : Nat) : Int)), .own l2 ((List.range m).map fun f => PyData.int ((cntF ((lays m).take i) f : Nat) : Int)), x5, x6, .un, .un, .un, .un, .un, .un, .un, .un]) _ ?_ ?_ _ ⟨.un, .un, by rw [e0 (ordF ((lays m).take 0)) (fun f => rfl)]; try rfl⟩
  · rintro ρ ⟨x5, x6, rfl⟩
    rw [List.length_map, List.take_length]
    show K1 _
    rw [hK1]; clear hK1 K1
    refine seqG fun K1 hK1 => ?_
    simp only [tdSeq, tdIfS, tdRet, tdRetN, tdNext, tdNever, tdDrop, tdBreak, tdCont, tdSet, tdOwn, tdAsg, tdAppend, tdExtend, tdPop, tdAug, tdAugSub, tdPar, tdParOO, tdParSO, tdAsgSOS, tdParSD, tdPutT, tdSortKeys, tdFor, tdLc, tdYes, gdName, gdNil, gdCons, gdTup, gdSub, tdSh, tdLent, tdC, td1, td2, tf1, tdB, tdAnd, tdOr, tdNot, tdAndV, tdOrV, tdNotV, tdIf, tdNil, tdCons, tdTup, tdLst, tdChain, tdIxB, tdRep, tdCat, tdCall, tdCallR, tiL, tiT, tiR1, tiR2, rI, rI0, rU, rLen, rInts, rBools, rInt, rTuple, rList, rIxD, nn_none, nn_int, nn_tup, noOwn, wipeD, Slot.addr, truD, List.getElem?_cons_zero, List.getElem?_cons_succ, List.set_cons_zero, List.set_cons_succ, List.map_cons, List.map_nil, List.length_cons, List.length_nil, List.cons_append, List.nil_append, List.replicate, Nat.sub_self, Nat.zero_add, Nat.add_one_sub_one, Nat.reduceAdd, Nat.reduceSub, Nat.succ_sub_succ_eq_sub, Nat.sub_zero, List.all_cons, List.all_nil, Option.isNone_none, Bool.and_self, Bool.and_true, List.reduceReplicate, true_and, and_true, wD, bD, lD, pD, if_true, if_false, Bool.not_true, Bool.not_false, Bool.false_eq_true]
    have eo : ((List.range m).map fun f => PyData.int ((ordF (lays m) f : Nat) : Int)) = (nI (eulN (m - 1))).map PyData.int := by rw [← fs1]; unfold nI; rw [List.map_map, List.map_map]; rfl
    have ec : ((List.range m).map fun f => PyData.int ((cntF (lays m) f : Nat) : Int)) = (nI (cmbL m)).map PyData.int := by rw [← fs2]; unfold nI; rw [List.map_map, List.map_map]; rfl
    have le : (nI (eulN (m - 1))).length ≤ 7 := by unfold nI; rw [List.length_map, eulN_len]; omega
    have lc : (nI (cmbL m)).length ≤ 7 := by unfold nI cmbL; rw [List.length_map, List.length_map, List.length_range]; omega
    rw [eo, ec]
    refine ⟨m, rfl, m1, by omega, _, rfl, .inr ⟨_, rfl, by rw [List.length_map]; omega, fun x hx => by obtain ⟨y, _, rfl⟩ := List.mem_map.mp hx; exact .inl (.inl ⟨_, rfl⟩)⟩, ite_no (by decide) ?_⟩
    refine ⟨m, rfl, m1, by omega, _, rfl, .inr ⟨_, rfl, by rw [List.length_map]; omega, fun x hx => by obtain ⟨y, _, rfl⟩ := List.mem_map.mp hx; exact .inl (.inl ⟨_, rfl⟩)⟩, ite_no (by decide) ?_⟩
    generalize Slot.own l1 ((nI (eulN (m - 1))).map PyData.int) = x3
    generalize Slot.own l2 ((nI (cmbL m)).map PyData.int) = x4
    rw [hK1]; clear hK1 K1
    refine seqG fun K1 hK1 => ?_
    simp only [tdSeq, tdIfS, tdRet, tdRetN, tdNext, tdNever, tdDrop, tdBreak, tdCont, tdSet, tdOwn, tdAsg, tdAppend, tdExtend, tdPop, tdAug, tdAugSub, tdPar, tdParOO, tdParSO, tdAsgSOS, tdParSD, tdPutT, tdSortKeys, tdFor, tdLc, tdYes, gdName, gdNil, gdCons, gdTup, gdSub, tdSh, tdLent, tdC, td1, td2, tf1, tdB, tdAnd, tdOr, tdNot, tdAndV, tdOrV, tdNotV, tdIf, tdNil, tdCons, tdTup, tdLst, tdChain, tdIxB, tdRep, tdCat, tdCall, tdCallR, tiL, tiT, tiR1, tiR2, rI, rI0, rU, rLen, rInts, rBools, rInt, rTuple, rList, rIxD, nn_none, nn_int, nn_tup, noOwn, wipeD, Slot.addr, truD, List.getElem?_cons_zero, List.getElem?_cons_succ, List.set_cons_zero, List.set_cons_succ, List.map_cons, List.map_nil, List.length_cons, List.length_nil, List.cons_append, List.nil_append, List.replicate, Nat.sub_self, Nat.zero_add, Nat.add_one_sub_one, Nat.reduceAdd, Nat.reduceSub, Nat.succ_sub_succ_eq_sub, Nat.sub_zero, List.all_cons, List.all_nil, Option.isNone_none, Bool.and_self, Bool.and_true, List.reduceReplicate, true_and, and_true, wD, bD, lD, pD, if_true, if_false, Bool.not_true, Bool.not_false, Bool.false_eq_true]
    refine ⟨40, rfl, by decide, by decide, fun y2 y0 y40 => ?_⟩
    obtain ⟨sz, es, s1, s2⟩ : ∃ sz : Nat, 1 + y2 = (sz : Int) ∧ 1 ≤ sz ∧ sz ≤ 40 := ⟨(1 + y2).toNat, by omega, by omega, by omega⟩
    dsimp only
    rw [es]
    rw [hK1]; clear hK1 K1
    refine seqG fun K1 hK1 => ?_
    simp only [tdSeq, tdIfS, tdRet, tdRetN, tdNext, tdNever, tdDrop, tdBreak, tdCont, tdSet, tdOwn, tdAsg, tdAppend, tdExtend, tdPop, tdAug, tdAugSub, tdPar, tdParOO, tdParSO, tdAsgSOS, tdParSD, tdPutT, tdSortKeys, tdFor, tdLc, tdYes, gdName, gdNil, gdCons, gdTup, gdSub, tdSh, tdLent, tdC, td1, td2, tf1, tdB, tdAnd, tdOr, tdNot, tdAndV, tdOrV, tdNotV, tdIf, tdNil, tdCons, tdTup, tdLst, tdChain, tdIxB, tdRep, tdCat, tdCall, tdCallR, tiL, tiT, tiR1, tiR2, rI, rI0, rU, rLen, rInts, rBools, rInt, rTuple, rList, rIxD, nn_none, nn_int, nn_tup, noOwn, wipeD, Slot.addr, truD, List.getElem?_cons_zero, List.getElem?_cons_succ, List.set_cons_zero, List.set_cons_succ, List.map_cons, List.map_nil, List.length_cons, List.length_nil, List.cons_append, List.nil_append, List.replicate, Nat.sub_self, Nat.zero_add, Nat.add_one_sub_one, Nat.reduceAdd, Nat.reduceSub, Nat.succ_sub_succ_eq_sub, Nat.sub_zero, List.all_cons, List.all_nil, Option.isNone_none, Bool.and_self, Bool.and_true, List.reduceReplicate, true_and, and_true, wD, bD, lD, pD, if_true, if_false, Bool.not_true, Bool.not_false, Bool.false_eq_true]
    refine ⟨⟨by omega, by omega⟩, ?_⟩
    refine wFor_at (fun i ρ => ∃ x9, x9.addr = none ∧ ρ = [.sh (.list (ns.map .int)), .row, .sh (.int m), x3, x4, x5, x6, .sh (.int sz), .sh (.int ((fac (i + 1) : Nat) : Int)), x9, .un, .un, .un, .un, .un]) _ ?_ ?_ _ ⟨.un, rfl, rfl⟩
    · rintro ρ ⟨x9, hx9, rfl⟩
      rw [rangeD_len, show ((sz : Int) + 1 - 2).toNat = sz - 1 by omega, show sz - 1 + 1 = sz by omega]
      show K1 _
      rw [hK1]; clear hK1 K1
      refine seqG fun K1 hK1 => ?_
      simp only [tdSeq, tdIfS, tdRet, tdRetN, tdNext, tdNever, tdDrop, tdBreak, tdCont, tdSet, tdOwn, tdAsg, tdAppend, tdExtend, tdPop, tdAug, tdAugSub, tdPar, tdParOO, tdParSO, tdAsgSOS, tdParSD, tdPutT, tdSortKeys, tdFor, tdLc, tdYes, gdName, gdNil, gdCons, gdTup, gdSub, tdSh, tdLent, tdC, td1, td2, tf1, tdB, tdAnd, tdOr, tdNot, tdAndV, tdOrV, tdNotV, tdIf, tdNil, tdCons, tdTup, tdLst, tdChain, tdIxB, tdRep, tdCat, tdCall, tdCallR, tiL, tiT, tiR1, tiR2, rI, rI0, rU, rLen, rInts, rBools, rInt, rTuple, rList, rIxD, nn_none, nn_int, nn_tup, noOwn, wipeD, Slot.addr, truD, List.getElem?_cons_zero, List.getElem?_cons_succ, List.set_cons_zero, List.set_cons_succ, List.map_cons, List.map_nil, List.length_cons, List.length_nil, List.cons_append, List.nil_append, List.replicate, Nat.sub_self, Nat.zero_add, Nat.add_one_sub_one, Nat.reduceAdd, Nat.reduceSub, Nat.succ_sub_succ_eq_sub, Nat.sub_zero, List.all_cons, List.all_nil, Option.isNone_none, Bool.and_self, Bool.and_true, List.reduceReplicate, true_and, and_true, wD, bD, lD, pD, if_true, if_false, Bool.not_true, Bool.not_false, Bool.false_eq_true]
      refine ⟨sz, rfl, s1, s2, ?_⟩
      obtain ⟨tl, etl⟩ : ∃ tl, tl = eulN (sz - 1) := ⟨_, rfl⟩
      have htl : tl.length = sz := by rw [etl, eulN_len]; omega
      have hts : tl.sum = fac sz := by rw [etl, eulN_sum]; congr 1; omega
      have htp : tl.reverse = tl := by rw [etl]; exact eul_pal _
      have htz : tl.getD 0 0 = 1 := by rw [etl]; exact eul_zero _
      rw [← etl]
      rw [hK1]; clear hK1 K1
      refine seqG fun K1 hK1 => ?_
      unfold tdBack
      try simp only [tdSeq, tdIfS, tdRet, tdRetN, tdNext, tdNever, tdDrop, tdBreak, tdCont, tdSet, tdOwn, tdAsg, tdAppend, tdExtend, tdPop, tdAug, tdAugSub, tdPar, tdParOO, tdParSO, tdAsgSOS, tdParSD, tdPutT, tdSortKeys, tdFor, tdLc, tdYes, gdName, gdNil, gdCons, gdTup, gdSub, tdSh, tdLent, tdC, td1, td2, tf1, tdB, tdAnd, tdOr, tdNot, tdAndV, tdOrV, tdNotV, tdIf, tdNil, tdCons, tdTup, tdLst, tdChain, tdIxB, tdRep, tdCat, tdCall, tdCallR, tiL, tiT, tiR1, tiR2, rI, rI0, rU, rLen, rInts, rBools, rInt, rTuple, rList, rIxD, nn_none, nn_int, nn_tup, noOwn, wipeD, Slot.addr, truD, List.getElem?_cons_zero, List.getElem?_cons_succ, List.set_cons_zero, List.set_cons_succ, List.map_cons, List.map_nil, List.length_cons, List.length_nil, List.cons_append, List.nil_append, List.replicate, Nat.sub_self, Nat.zero_add, Nat.add_one_sub_one, Nat.reduceAdd, Nat.reduceSub, Nat.succ_sub_succ_eq_sub, Nat.sub_zero, List.all_cons, List.all_nil, Option.isNone_none, Bool.and_self, Bool.and_true, List.reduceReplicate, true_and, and_true, wD, bD, lD, pD, if_true, if_false, Bool.not_true, Bool.not_false, Bool.false_eq_true]
      have er : (List.map PyData.int (nI tl)).reverse = List.map PyData.int (nI tl) := by
        rw [← List.map_reverse]
        unfold nI
        rw [← List.map_reverse, htp]
      rw [er]
      refine ⟨nI tl, rfl, sh_int _, sh_int _, ite_no (by rw [eqv_int, nI_sum, hts, decide_eq_true rfl]; decide) ?_⟩
      refine ⟨sh_tI _, sh_tI _, ite_no (by rw [show (PyData.tuple (List.map PyData.int (nI tl))) = tI (nI tl) from rfl, eqv_tI, decide_eq_true rfl]; decide) ?_⟩
      refine ⟨.int 1, atI_nat' (k := 0) ?_, sh_int _, sh_int _, ite_no (by rw [eqv_int]; decide) ?_⟩
      · have h0 : tl[0]? = some 1 := by
          have := htz
          rw [List.getD_eq_getElem?_getD, List.getElem?_eq_getElem (by omega)] at this
          rw [List.getElem?_eq_getElem (by omega)]
          exact congrArg some this
        unfold nI
        rw [List.getElem?_map, List.getElem?_map, h0]; rfl
      rw [hK1]; clear hK1 K1
      refine seqG fun K1 hK1 => ?_
      unfold tdBack
      try simp only [tdSeq, tdIfS, tdRet, tdRetN, tdNext, tdNever, tdDrop, tdBreak, tdCont, tdSet, tdOwn, tdAsg, tdAppend, tdExtend, tdPop, tdAug, tdAugSub, tdPar, tdParOO, tdParSO, tdAsgSOS, tdParSD, tdPutT, tdSortKeys, tdFor, tdLc, tdYes, gdName, gdNil, gdCons, gdTup, gdSub, tdSh, tdLent, tdC, td1, td2, tf1, tdB, tdAnd, tdOr, tdNot, tdAndV, tdOrV, tdNotV, tdIf, tdNil, tdCons, tdTup, tdLst, tdChain, tdIxB, tdRep, tdCat, tdCall, tdCallR, tiL, tiT, tiR1, tiR2, rI, rI0, rU, rLen, rInts, rBools, rInt, rTuple, rList, rIxD, nn_none, nn_int, nn_tup, noOwn, wipeD, Slot.addr, truD, List.getElem?_cons_zero, List.getElem?_cons_succ, List.set_cons_zero, List.set_cons_succ, List.map_cons, List.map_nil, List.length_cons, List.length_nil, List.cons_append, List.nil_append, List.replicate, Nat.sub_self, Nat.zero_add, Nat.add_one_sub_one, Nat.reduceAdd, Nat.reduceSub, Nat.succ_sub_succ_eq_sub, Nat.sub_zero, List.all_cons, List.all_nil, Option.isNone_none, Bool.and_self, Bool.and_true, List.reduceReplicate, true_and, and_true, wD, bD, lD, pD, if_true, if_false, Bool.not_true, Bool.not_false, Bool.false_eq_true]
      refine ⟨sz, rfl, s1, s2, sz, rfl, s1, s2, ?_⟩
      have er2 : (List.map PyData.int (nI (cmbL sz))).reverse = List.map PyData.int (nI (cmbL sz)) := by
        rw [← List.map_reverse]
        unfold nI
        rw [← List.map_reverse, cmb_pal]
      unfold tI
      try dsimp only
      rw [er2]
      refine ⟨rfl, sh_tI _, sh_tI _, ite_no (by rw [show (PyData.tuple (List.map PyData.int (nI (cmbL sz)))) = tI (nI (cmbL sz)) from rfl, eqv_tI, decide_eq_true rfl]; decide) ?_⟩
      rw [hK1]; clear hK1 K1
      refine seqG fun K1 hK1 => ?_
      simp only [tdSeq, tdIfS, tdRet, tdRetN, tdNext, tdNever, tdDrop, tdBreak, tdCont, tdSet, tdOwn, tdAsg, tdAppend, tdExtend, tdPop, tdAug, tdAugSub, tdPar, tdParOO, tdParSO, tdAsgSOS, tdParSD, tdPutT, tdSortKeys, tdFor, tdLc, tdYes, gdName, gdNil, gdCons, gdTup, gdSub, tdSh, tdLent, tdC, td1, td2, tf1, tdB, tdAnd, tdOr, tdNot, tdAndV, tdOrV, tdNotV, tdIf, tdNil, tdCons, tdTup, tdLst, tdChain, tdIxB, tdRep, tdCat, tdCall, tdCallR, tiL, tiT, tiR1, tiR2, rI, rI0, rU, rLen, rInts, rBools, rInt, rTuple, rList, rIxD, nn_none, nn_int, nn_tup, noOwn, wipeD, Slot.addr, truD, List.getElem?_cons_zero, List.getElem?_cons_succ, List.set_cons_zero, List.set_cons_succ, List.map_cons, List.map_nil, List.length_cons, List.length_nil, List.cons_append, List.nil_append, List.replicate, Nat.sub_self, Nat.zero_add, Nat.add_one_sub_one, Nat.reduceAdd, Nat.reduceSub, Nat.succ_sub_succ_eq_sub, Nat.sub_zero, List.all_cons, List.all_nil, Option.isNone_none, Bool.and_self, Bool.and_true, List.reduceReplicate, true_and, and_true, wD, bD, lD, pD, if_true, if_false, Bool.not_true, Bool.not_false, Bool.false_eq_true]
      refine ⟨⟨by omega, by omega⟩, by have h := hx9; unfold Slot.addr at h; rw [h]; rfl, ?_⟩
      rw [Int.toNat_natCast]
      refine wLc_ind (fun ds acc => ∃ (j : Nat) (gs : List Int), j ≤ sz ∧ ds = (rangeD 0 sz).drop j ∧ acc = gs.map .int ∧ gs.length = j ∧ ∀ x ∈ gs, x = 0 ∨ x = 1) ?_ ?_ _ _ ⟨0, [], Nat.zero_le _, rfl, rfl, rfl, fun x hx => (nomatch hx)⟩
      rotate_left
      · rintro d ds acc k ⟨j, gs, hj, hd, rfl, glen, gval⟩ hk
        obtain ⟨hjn, rfl, rfl⟩ := range_stepL hd
        simp only [tdSeq, tdIfS, tdRet, tdRetN, tdNext, tdNever, tdDrop, tdBreak, tdCont, tdSet, tdOwn, tdAsg, tdAppend, tdExtend, tdPop, tdAug, tdAugSub, tdPar, tdParOO, tdParSO, tdAsgSOS, tdParSD, tdPutT, tdSortKeys, tdFor, tdLc, tdYes, gdName, gdNil, gdCons, gdTup, gdSub, tdSh, tdLent, tdC, td1, td2, tf1, tdB, tdAnd, tdOr, tdNot, tdAndV, tdOrV, tdNotV, tdIf, tdNil, tdCons, tdTup, tdLst, tdChain, tdIxB, tdRep, tdCat, tdCall, tdCallR, tiL, tiT, tiR1, tiR2, rI, rI0, rU, rLen, rInts, rBools, rInt, rTuple, rList, rIxD, nn_none, nn_int, nn_tup, noOwn, wipeD, Slot.addr, truD, List.getElem?_cons_zero, List.getElem?_cons_succ, List.set_cons_zero, List.set_cons_succ, List.map_cons, List.map_nil, List.length_cons, List.length_nil, List.cons_append, List.nil_append, List.replicate, Nat.sub_self, Nat.zero_add, Nat.add_one_sub_one, Nat.reduceAdd, Nat.reduceSub, Nat.succ_sub_succ_eq_sub, Nat.sub_zero, List.all_cons, List.all_nil, Option.isNone_none, Bool.and_self, Bool.and_true, List.reduceReplicate, true_and, and_true, wD, bD, lD, pD, if_true, if_false, Bool.not_true, Bool.not_false, Bool.false_eq_true]
        refine ⟨2, rfl, by decide, by decide, fun v v0 v2 => ⟨by rw [List.length_map]; unfold sizeLine; omega, hk _ ⟨j + 1, gs ++ [v], by omega, rfl, by rw [List.map_append]; rfl, by rw [List.length_append, glen]; rfl, fun x hx => ?_⟩⟩⟩
        rcases List.mem_append.mp hx with hx | hx
        · exact gval x hx
        · rw [List.mem_singleton.mp hx]; omega
      rintro acc ⟨j, gs, hj, hd, rfl, glen, gval⟩
      have hjs : j = sz := by
        have := congrArg List.length hd
        rw [List.length_drop, List.length_nil, rangeD_len] at this
        omega
      subst hjs
      clear hd hj
      have FG : Full (j : Int) gs := ⟨by omega, gval⟩
      have FR : Full (j : Int) gs.reverse := ⟨by rw [List.length_reverse]; omega, fun x hx => gval x (List.mem_reverse.mp hx)⟩
      rw [hK1]; clear hK1 K1
      refine seqG fun K1 hK1 => ?_
      unfold tdBack
      try simp only [tdSeq, tdIfS, tdRet, tdRetN, tdNext, tdNever, tdDrop, tdBreak, tdCont, tdSet, tdOwn, tdAsg, tdAppend, tdExtend, tdPop, tdAug, tdAugSub, tdPar, tdParOO, tdParSO, tdAsgSOS, tdParSD, tdPutT, tdSortKeys, tdFor, tdLc, tdYes, gdName, gdNil, gdCons, gdTup, gdSub, tdSh, tdLent, tdC, td1, td2, tf1, tdB, tdAnd, tdOr, tdNot, tdAndV, tdOrV, tdNotV, tdIf, tdNil, tdCons, tdTup, tdLst, tdChain, tdIxB, tdRep, tdCat, tdCall, tdCallR, tiL, tiT, tiR1, tiR2, rI, rI0, rU, rLen, rInts, rBools, rInt, rTuple, rList, rIxD, nn_none, nn_int, nn_tup, noOwn, wipeD, Slot.addr, truD, List.getElem?_cons_zero, List.getElem?_cons_succ, List.set_cons_zero, List.set_cons_succ, List.map_cons, List.map_nil, List.length_cons, List.length_nil, List.cons_append, List.nil_append, List.replicate, Nat.sub_self, Nat.zero_add, Nat.add_one_sub_one, Nat.reduceAdd, Nat.reduceSub, Nat.succ_sub_succ_eq_sub, Nat.sub_zero, List.all_cons, List.all_nil, Option.isNone_none, Bool.and_self, Bool.and_true, List.reduceReplicate, true_and, and_true, wD, bD, lD, pD, if_true, if_false, Bool.not_true, Bool.not_false, Bool.false_eq_true]
      rw [← List.map_reverse]
      refine ⟨j, gs, rfl, FG, s1, s2, _, rfl, .inr ⟨_, rfl, by rw [List.length_map, List.length_reverse]; omega, fun x hx => by obtain ⟨y, _, rfl⟩ := List.mem_map.mp hx; exact .inl (.inl ⟨_, rfl⟩)⟩, ite_no (by decide) ?_⟩
      refine ⟨j, gs, rfl, FG, s1, s2, j, gs.reverse, rfl, FR, by omega, by omega, j, gs, rfl, FG, by omega, by omega, sh_int _, sh_int _, ite_no (by rw [eqv_int, row_rev FG, decide_eq_true rfl]; decide) ?_⟩
      rw [hK1]; clear hK1 K1
      refine seqG fun K1 hK1 => ?_
      simp only [tdSeq, tdIfS, tdRet, tdRetN, tdNext, tdNever, tdDrop, tdBreak, tdCont, tdSet, tdOwn, tdAsg, tdAppend, tdExtend, tdPop, tdAug, tdAugSub, tdPar, tdParOO, tdParSO, tdAsgSOS, tdParSD, tdPutT, tdSortKeys, tdFor, tdLc, tdYes, gdName, gdNil, gdCons, gdTup, gdSub, tdSh, tdLent, tdC, td1, td2, tf1, tdB, tdAnd, tdOr, tdNot, tdAndV, tdOrV, tdNotV, tdIf, tdNil, tdCons, tdTup, tdLst, tdChain, tdIxB, tdRep, tdCat, tdCall, tdCallR, tiL, tiT, tiR1, tiR2, rI, rI0, rU, rLen, rInts, rBools, rInt, rTuple, rList, rIxD, nn_none, nn_int, nn_tup, noOwn, wipeD, Slot.addr, truD, List.getElem?_cons_zero, List.getElem?_cons_succ, List.set_cons_zero, List.set_cons_succ, List.map_cons, List.map_nil, List.length_cons, List.length_nil, List.cons_append, List.nil_append, List.replicate, Nat.sub_self, Nat.zero_add, Nat.add_one_sub_one, Nat.reduceAdd, Nat.reduceSub, Nat.succ_sub_succ_eq_sub, Nat.sub_zero, List.all_cons, List.all_nil, Option.isNone_none, Bool.and_self, Bool.and_true, List.reduceReplicate, true_and, and_true, wD, bD, lD, pD, if_true, if_false, Bool.not_true, Bool.not_false, Bool.false_eq_true]
      refine ⟨gs, .inl rfl, by omega, ?_⟩
      rw [hK1]; clear hK1 K1
      refine seqG fun K1 hK1 => ?_
      simp only [tdSeq, tdIfS, tdRet, tdRetN, tdNext, tdNever, tdDrop, tdBreak, tdCont, tdSet, tdOwn, tdAsg, tdAppend, tdExtend, tdPop, tdAug, tdAugSub, tdPar, tdParOO, tdParSO, tdAsgSOS, tdParSD, tdPutT, tdSortKeys, tdFor, tdLc, tdYes, gdName, gdNil, gdCons, gdTup, gdSub, tdSh, tdLent, tdC, td1, td2, tf1, tdB, tdAnd, tdOr, tdNot, tdAndV, tdOrV, tdNotV, tdIf, tdNil, tdCons, tdTup, tdLst, tdChain, tdIxB, tdRep, tdCat, tdCall, tdCallR, tiL, tiT, tiR1, tiR2, rI, rI0, rU, rLen, rInts, rBools, rInt, rTuple, rList, rIxD, nn_none, nn_int, nn_tup, noOwn, wipeD, Slot.addr, truD, List.getElem?_cons_zero, List.getElem?_cons_succ, List.set_cons_zero, List.set_cons_succ, List.map_cons, List.map_nil, List.length_cons, List.length_nil, List.cons_append, List.nil_append, List.replicate, Nat.sub_self, Nat.zero_add, Nat.add_one_sub_one, Nat.reduceAdd, Nat.reduceSub, Nat.succ_sub_succ_eq_sub, Nat.sub_zero, List.all_cons, List.all_nil, Option.isNone_none, Bool.and_self, Bool.and_true, List.reduceReplicate, true_and, and_true, wD, bD, lD, pD, if_true, if_false, Bool.not_true, Bool.not_false, Bool.false_eq_true]
      refine ⟨Nat.zero_le _, ?_⟩
      by_cases hne : headsL gs = []
      · rw [hne]
        exact ite_yes rfl trivial
      have hemp : ((headsL gs).map PyData.int).isEmpty = false := by
        cases q : headsL gs with
        | nil => exact absurd q hne
        | cons _ _ => rfl
      rw [hemp]
      refine ite_no (by decide) ?_
      rw [hK1]; clear hK1 K1
      refine seqG fun K1 hK1 => ?_
      simp only [tdSeq, tdIfS, tdRet, tdRetN, tdNext, tdNever, tdDrop, tdBreak, tdCont, tdSet, tdOwn, tdAsg, tdAppend, tdExtend, tdPop, tdAug, tdAugSub, tdPar, tdParOO, tdParSO, tdAsgSOS, tdParSD, tdPutT, tdSortKeys, tdFor, tdLc, tdYes, gdName, gdNil, gdCons, gdTup, gdSub, tdSh, tdLent, tdC, td1, td2, tf1, tdB, tdAnd, tdOr, tdNot, tdAndV, tdOrV, tdNotV, tdIf, tdNil, tdCons, tdTup, tdLst, tdChain, tdIxB, tdRep, tdCat, tdCall, tdCallR, tiL, tiT, tiR1, tiR2, rI, rI0, rU, rLen, rInts, rBools, rInt, rTuple, rList, rIxD, nn_none, nn_int, nn_tup, noOwn, wipeD, Slot.addr, truD, List.getElem?_cons_zero, List.getElem?_cons_succ, List.set_cons_zero, List.set_cons_succ, List.map_cons, List.map_nil, List.length_cons, List.length_nil, List.cons_append, List.nil_append, List.replicate, Nat.sub_self, Nat.zero_add, Nat.add_one_sub_one, Nat.reduceAdd, Nat.reduceSub, Nat.succ_sub_succ_eq_sub, Nat.sub_zero, List.all_cons, List.all_nil, Option.isNone_none, Bool.and_self, Bool.and_true, List.reduceReplicate, true_and, and_true, wD, bD, lD, pD, if_true, if_false, Bool.not_true, Bool.not_false, Bool.false_eq_true]
      have hpos : 0 < (headsL gs).length := List.length_pos_iff.mpr hne
      have hle : (headsL gs).length ≤ 40 := by
        rw [heads_rg FG, List.length_map]
        have := List.length_filter_le (fun k => decide (rgF gs k = 1)) (List.range gs.length)
        rw [List.length_range] at this
        omega
      refine ⟨_, .inl rfl, by rw [List.length_map]; exact hpos, by rw [List.length_map]; omega, fun x hx => ?_⟩
      obtain ⟨y, hy, rfl⟩ := List.mem_map.mp hx
      rw [heads_rg FG] at hy
      obtain ⟨t, ht, rfl⟩ := List.mem_map.mp hy
      obtain ⟨ht1, ht2⟩ := List.mem_filter.mp ht
      have ht1 := List.mem_range.mp ht1
      have ht2 := of_decide_eq_true ht2
      rw [hK1]; clear hK1 K1
      refine seqG fun K1 hK1 => ?_
      unfold tdParOO
      try simp only [tdSeq, tdIfS, tdRet, tdRetN, tdNext, tdNever, tdDrop, tdBreak, tdCont, tdSet, tdOwn, tdAsg, tdAppend, tdExtend, tdPop, tdAug, tdAugSub, tdPar, tdParOO, tdParSO, tdAsgSOS, tdParSD, tdPutT, tdSortKeys, tdFor, tdLc, tdYes, gdName, gdNil, gdCons, gdTup, gdSub, tdSh, tdLent, tdC, td1, td2, tf1, tdB, tdAnd, tdOr, tdNot, tdAndV, tdOrV, tdNotV, tdIf, tdNil, tdCons, tdTup, tdLst, tdChain, tdIxB, tdRep, tdCat, tdCall, tdCallR, tiL, tiT, tiR1, tiR2, rI, rI0, rU, rLen, rInts, rBools, rInt, rTuple, rList, rIxD, nn_none, nn_int, nn_tup, noOwn, wipeD, Slot.addr, truD, List.getElem?_cons_zero, List.getElem?_cons_succ, List.set_cons_zero, List.set_cons_succ, List.map_cons, List.map_nil, List.length_cons, List.length_nil, List.cons_append, List.nil_append, List.replicate, Nat.sub_self, Nat.zero_add, Nat.add_one_sub_one, Nat.reduceAdd, Nat.reduceSub, Nat.succ_sub_succ_eq_sub, Nat.sub_zero, List.all_cons, List.all_nil, Option.isNone_none, Bool.and_self, Bool.and_true, List.reduceReplicate, true_and, and_true, wD, bD, lD, pD, if_true, if_false, Bool.not_true, Bool.not_false, Bool.false_eq_true]
      intro l m2 hl hm hlm
      have elt : cutD (List.map PyData.int gs) none (some (t : Int)) = (gs.take t).map PyData.int := by rw [cut_to (by rw [List.length_map]; omega), List.map_take]
      have ert : cutD (List.map PyData.int gs) (some ((t : Int) + 1)) none = (gs.drop (t + 1)).map PyData.int := by rw [cut_from (by rw [List.length_map]; omega), List.map_drop]
      rw [elt, ert]
      have htl : (gs.take t).length = t := by rw [List.length_take]; omega
      have hdl : (gs.drop (t + 1)).length = j - 1 - t := by rw [List.length_drop]; omega
      have nE : ∀ l : List Int, 0 < l.length → (!(l.map PyData.int).isEmpty) = true := fun l h => by cases l with | nil => simp at h | cons _ _ => rfl
      have yE : ∀ l : List Int, l.length = 0 → ¬ (!(l.map PyData.int).isEmpty) = true := fun l h => by rw [List.length_eq_zero_iff.mp h]; decide
      generalize Slot.sh (PyData.list ((headsL gs).map PyData.int)) = x11
      rw [hK1]; clear hK1 K1
      refine seqG fun K1 hK1 => ?_
      unfold tdCmpO
      try simp only [tdSeq, tdIfS, tdRet, tdRetN, tdNext, tdNever, tdDrop, tdBreak, tdCont, tdSet, tdOwn, tdAsg, tdAppend, tdExtend, tdPop, tdAug, tdAugSub, tdPar, tdParOO, tdParSO, tdAsgSOS, tdParSD, tdPutT, tdSortKeys, tdFor, tdLc, tdYes, gdName, gdNil, gdCons, gdTup, gdSub, tdSh, tdLent, tdC, td1, td2, tf1, tdB, tdAnd, tdOr, tdNot, tdAndV, tdOrV, tdNotV, tdIf, tdNil, tdCons, tdTup, tdLst, tdChain, tdIxB, tdRep, tdCat, tdCall, tdCallR, tiL, tiT, tiR1, tiR2, rI, rI0, rU, rLen, rInts, rBools, rInt, rTuple, rList, rIxD, nn_none, nn_int, nn_tup, noOwn, wipeD, Slot.addr, truD, List.getElem?_cons_zero, List.getElem?_cons_succ, List.set_cons_zero, List.set_cons_succ, List.map_cons, List.map_nil, List.length_cons, List.length_nil, List.cons_append, List.nil_append, List.replicate, Nat.sub_self, Nat.zero_add, Nat.add_one_sub_one, Nat.reduceAdd, Nat.reduceSub, Nat.succ_sub_succ_eq_sub, Nat.sub_zero, List.all_cons, List.all_nil, Option.isNone_none, Bool.and_self, Bool.and_true, List.reduceReplicate, true_and, and_true, wD, bD, lD, pD, if_true, if_false, Bool.not_true, Bool.not_false, Bool.false_eq_true]
      suffices hs : K1 [.sh (.list (ns.map .int)), .row, .sh (.int m), x3, x4, .sh (lD gs), x6, .sh (.int j), .sh (.int ((fac j : Nat) : Int)), x9, .sh (tI (nI tl)), x11, .sh (.int (t : Int)), .own l ((lfL gs t).map .int), .own m2 ((gs.drop (t + 1)).map .int)] by
        refine ⟨Nat.zero_le _, ?_⟩
        by_cases h0 : t = 0
        · have e0 : lfL gs t = gs.take t := by subst h0; simp [lfL]
          rw [e0] at hs
          exact ite_no (yE _ (by omega)) hs
        · have ev : (gs.take t)[t - 1]? = some ((gs.take t).getD (t - 1) 0) := by rw [List.getD_eq_getElem?_getD, List.getElem?_eq_getElem (by omega)]; rfl
          refine ite_yes (nE _ (by omega)) ⟨.int ((gs.take t).getD (t - 1) 0), ?_, ?_⟩
          · rw [atI_end _ (by intro q; have := congrArg List.length q; rw [List.length_map, htl, List.length_nil] at this; omega), List.length_map, htl, List.getElem?_map, ev]; rfl
          · refine ⟨t - 1, ?_, ?_⟩
            · rw [List.length_map, htl]
              unfold ixN
              simp
              omega
            · rw [← List.map_set]
              exact hs
      rw [hK1]; clear hK1 K1
      refine seqG fun K1 hK1 => ?_
      unfold tdCmpO
      try simp only [tdSeq, tdIfS, tdRet, tdRetN, tdNext, tdNever, tdDrop, tdBreak, tdCont, tdSet, tdOwn, tdAsg, tdAppend, tdExtend, tdPop, tdAug, tdAugSub, tdPar, tdParOO, tdParSO, tdAsgSOS, tdParSD, tdPutT, tdSortKeys, tdFor, tdLc, tdYes, gdName, gdNil, gdCons, gdTup, gdSub, tdSh, tdLent, tdC, td1, td2, tf1, tdB, tdAnd, tdOr, tdNot, tdAndV, tdOrV, tdNotV, tdIf, tdNil, tdCons, tdTup, tdLst, tdChain, tdIxB, tdRep, tdCat, tdCall, tdCallR, tiL, tiT, tiR1, tiR2, rI, rI0, rU, rLen, rInts, rBools, rInt, rTuple, rList, rIxD, nn_none, nn_int, nn_tup, noOwn, wipeD, Slot.addr, truD, List.getElem?_cons_zero, List.getElem?_cons_succ, List.set_cons_zero, List.set_cons_succ, List.map_cons, List.map_nil, List.length_cons, List.length_nil, List.cons_append, List.nil_append, List.replicate, Nat.sub_self, Nat.zero_add, Nat.add_one_sub_one, Nat.reduceAdd, Nat.reduceSub, Nat.succ_sub_succ_eq_sub, Nat.sub_zero, List.all_cons, List.all_nil, Option.isNone_none, Bool.and_self, Bool.and_true, List.reduceReplicate, true_and, and_true, wD, bD, lD, pD, if_true, if_false, Bool.not_true, Bool.not_false, Bool.false_eq_true]
      suffices hs : K1 [.sh (.list (ns.map .int)), .row, .sh (.int m), x3, x4, .sh (lD gs), x6, .sh (.int j), .sh (.int ((fac j : Nat) : Int)), x9, .sh (tI (nI tl)), x11, .sh (.int (t : Int)), .own l ((lfL gs t).map .int), .own m2 ((rtL gs t).map .int)] by
        refine ⟨Nat.zero_le _, ?_⟩
        by_cases h0 : j - 1 - t = 0
        · have e0 : rtL gs t = gs.drop (t + 1) := by
            unfold rtL
            rw [List.length_eq_zero_iff.mp (show (gs.drop (t + 1)).length = 0 by omega)]; rfl
          rw [e0] at hs
          exact ite_no (yE _ (by omega)) hs
        · have ev : (gs.drop (t + 1))[0]? = some ((gs.drop (t + 1)).getD 0 0) := by rw [List.getD_eq_getElem?_getD, List.getElem?_eq_getElem (by omega)]; rfl
          refine ite_yes (nE _ (by omega)) ⟨.int ((gs.drop (t + 1)).getD 0 0), ?_, ?_⟩
          · exact atI_nat' (k := 0) (by rw [List.getElem?_map, ev]; rfl)
          · refine ⟨0, ixN_nat' (k := 0) (by rw [List.length_map, hdl]; omega), ?_⟩
            rw [← List.map_set]
            exact hs
      rw [hK1]; clear hK1 K1
      simp only [tdSeq, tdIfS, tdRet, tdRetN, tdNext, tdNever, tdDrop, tdBreak, tdCont, tdSet, tdOwn, tdAsg, tdAppend, tdExtend, tdPop, tdAug, tdAugSub, tdPar, tdParOO, tdParSO, tdAsgSOS, tdParSD, tdPutT, tdSortKeys, tdFor, tdLc, tdYes, gdName, gdNil, gdCons, gdTup, gdSub, tdSh, tdLent, tdC, td1, td2, tf1, tdB, tdAnd, tdOr, tdNot, tdAndV, tdOrV, tdNotV, tdIf, tdNil, tdCons, tdTup, tdLst, tdChain, tdIxB, tdRep, tdCat, tdCall, tdCallR, tiL, tiT, tiR1, tiR2, rI, rI0, rU, rLen, rInts, rBools, rInt, rTuple, rList, rIxD, nn_none, nn_int, nn_tup, noOwn, wipeD, Slot.addr, truD, List.getElem?_cons_zero, List.getElem?_cons_succ, List.set_cons_zero, List.set_cons_succ, List.map_cons, List.map_nil, List.length_cons, List.length_nil, List.cons_append, List.nil_append, List.replicate, Nat.sub_self, Nat.zero_add, Nat.add_one_sub_one, Nat.reduceAdd, Nat.reduceSub, Nat.succ_sub_succ_eq_sub, Nat.sub_zero, List.all_cons, List.all_nil, Option.isNone_none, Bool.and_self, Bool.and_true, List.reduceReplicate, true_and, and_true, wD, bD, lD, pD, if_true, if_false, Bool.not_true, Bool.not_false, Bool.false_eq_true]
      have l1 : (lfL gs t).length = t := by unfold lfL; rw [List.length_set]; exact htl
      have l2 : (rtL gs t).length = j - 1 - t := by unfold rtL; rw [List.length_set]; exact hdl
      refine ⟨j, t, gs, rfl, FG, by omega, by omega, ht2, ?_⟩
      refine ⟨by decide, _, rfl, .inr ⟨_, rfl, by show 2 < 1000; decide, fun x hx => ?_⟩, rfl⟩
      rcases List.mem_cons.mp hx with rfl | hx
      · exact .inr ⟨_, rfl, by rw [List.length_map]; omega, fun x hx => by obtain ⟨y, _, rfl⟩ := List.mem_map.mp hx; exact .inl ⟨_, rfl⟩⟩
      · rw [List.mem_singleton.mp hx]
        exact .inr ⟨_, rfl, by rw [List.length_map]; omega, fun x hx => by obtain ⟨y, _, rfl⟩ := List.mem_map.mp hx; exact .inl ⟨_, rfl⟩⟩
    · rintro i d ρ k hd ⟨x9, hx9, rfl⟩ hk
      obtain ⟨hi, rfl⟩ := rangeD_get hd
      try simp only [tdSeq, tdIfS, tdRet, tdRetN, tdNext, tdNever, tdDrop, tdBreak, tdCont, tdSet, tdOwn, tdAsg, tdAppend, tdExtend, tdPop, tdAug, tdAugSub, tdPar, tdParOO, tdParSO, tdAsgSOS, tdParSD, tdPutT, tdSortKeys, tdFor, tdLc, tdYes, gdName, gdNil, gdCons, gdTup, gdSub, tdSh, tdLent, tdC, td1, td2, tf1, tdB, tdAnd, tdOr, tdNot, tdAndV, tdOrV, tdNotV, tdIf, tdNil, tdCons, tdTup, tdLst, tdChain, tdIxB, tdRep, tdCat, tdCall, tdCallR, tiL, tiT, tiR1, tiR2, rI, rI0, rU, rLen, rInts, rBools, rInt, rTuple, rList, rIxD, nn_none, nn_int, nn_tup, noOwn, wipeD, Slot.addr, truD, List.getElem?_cons_zero, List.getElem?_cons_succ, List.set_cons_zero, List.set_cons_succ, List.map_cons, List.map_nil, List.length_cons, List.length_nil, List.cons_append, List.nil_append, List.replicate, Nat.sub_self, Nat.zero_add, Nat.add_one_sub_one, Nat.reduceAdd, Nat.reduceSub, Nat.succ_sub_succ_eq_sub, Nat.sub_zero, List.all_cons, List.all_nil, Option.isNone_none, Bool.and_self, Bool.and_true, List.reduceReplicate, true_and, and_true, wD, bD, lD, pD, if_true, if_false, Bool.not_true, Bool.not_false, Bool.false_eq_true]
      refine ⟨.inr ⟨by omega, by omega⟩, ?_⟩
      have e1 : ((fac (i + 1) : Nat) : Int) * (2 + (i : Int)) = ((fac (i + 1 + 1) : Nat) : Int) := by
        show _ = (((i + 1 + 1) * fac (i + 1) : Nat) : Int)
        rw [Int.natCast_mul, Int.mul_comm]
        congr 1
        omega
      rw [e1]
      exact hk _ ⟨_, rfl, rfl⟩
  · rintro i d ρ k hd ⟨x5, x6, rfl⟩ hk
    rw [List.getElem?_map] at hd
    obtain ⟨l, hl, rfl⟩ := Option.map_eq_some_iff.mp hd
    have hlm := List.mem_of_getElem? hl
    have F := hfull l hlm
    have et : (lays m).take (i + 1) = (lays m).take i ++ [l] := by rw [List.take_succ, hl]; rfl
    have eA : ∀ f, ordF ((lays m).take (i + 1)) f = ordF ((lays m).take i) f + if fallB f l = true then rcL l else 0 := fun f => by
      rw [et]
      unfold ordF
      rw [List.filter_append, List.map_append, List.sum_append_nat]
      congr 1
      by_cases q : fallB f l = true
      · rw [if_pos q]
        have : [l].filter (fallB f) = [l] := by simp [q]
        rw [this]; simp
      · rw [if_neg q]
        have : [l].filter (fallB f) = [] := by simp [q]
        rw [this]; rfl
    have eB : ∀ f, cntF ((lays m).take (i + 1)) f = cntF ((lays m).take i) f + if fallB f l = true then 1 else 0 := fun f => by
      rw [et]
      unfold cntF
      rw [List.filter_append, List.length_append]
      congr 1
      by_cases q : fallB f l = true
      · rw [if_pos q]
        have : [l].filter (fallB f) = [l] := by simp [q]
        rw [this]; rfl
      · rw [if_neg q]
        have : [l].filter (fallB f) = [] := by simp [q]
        rw [this]; rfl
    try simp only [tdSeq, tdIfS, tdRet, tdRetN, tdNext, tdNever, tdDrop, tdBreak, tdCont, tdSet, tdOwn, tdAsg, tdAppend, tdExtend, tdPop, tdAug, tdAugSub, tdPar, tdParOO, tdParSO, tdAsgSOS, tdParSD, tdPutT, tdSortKeys, tdFor, tdLc, tdYes, gdName, gdNil, gdCons, gdTup, gdSub, tdSh, tdLent, tdC, td1, td2, tf1, tdB, tdAnd, tdOr, tdNot, tdAndV, tdOrV, tdNotV, tdIf, tdNil, tdCons, tdTup, tdLst, tdChain, tdIxB, tdRep, tdCat, tdCall, tdCallR, tiL, tiT, tiR1, tiR2, rI, rI0, rU, rLen, rInts, rBools, rInt, rTuple, rList, rIxD, nn_none, nn_int, nn_tup, noOwn, wipeD, Slot.addr, truD, List.getElem?_cons_zero, List.getElem?_cons_succ, List.set_cons_zero, List.set_cons_succ, List.map_cons, List.map_nil, List.length_cons, List.length_nil, List.cons_append, List.nil_append, List.replicate, Nat.sub_self, Nat.zero_add, Nat.add_one_sub_one, Nat.reduceAdd, Nat.reduceSub, Nat.succ_sub_succ_eq_sub, Nat.sub_zero, List.all_cons, List.all_nil, Option.isNone_none, Bool.and_self, Bool.and_true, List.reduceReplicate, true_and, and_true, wD, bD, lD, pD, if_true, if_false, Bool.not_true, Bool.not_false, Bool.false_eq_true]
    refine ⟨l, rfl, by decide, sh_int _, sh_int _, ?_⟩
    rw [eqv_int]
    by_cases ho : l.sum % 2 = 1
    · have hf := fs3 l hlm ho
      obtain ⟨f0, ef0⟩ : ∃ f0, f0 = (evF l).length := ⟨_, rfl⟩
      rw [← ef0] at hf
      have fb : ∀ f, fallB f l = true ↔ f = f0 := fun f => by
        unfold fallB
        rw [decide_eq_true ho, Bool.true_and, decide_eq_true_eq, ← ef0]
        exact ⟨fun z => z.symm, fun z => z.symm⟩
      refine ite_yes (decide_eq_true ho) ⟨m, l, rfl, F, by omega, by omega, ?_⟩
      rw [if_neg (by omega)]
      unfold tI
      try dsimp only
      rw [List.length_map, ← ef0]
      have es : ∀ (A B : Nat → Nat), (∀ f, f ≠ f0 → A f = B f) → ((List.range m).map fun f => PyData.int ((A f : Nat) : Int)).set f0 (.int ((B f0 : Nat) : Int)) = (List.range m).map fun f => PyData.int ((B f : Nat) : Int) := fun A B h => by
        refine List.ext_getElem? fun j => ?_
        rw [List.getElem?_set, List.length_map, List.length_range, List.getElem?_map, List.getElem?_map]
        by_cases hj : j < m
        · rw [List.getElem?_range hj]
          by_cases q1 : f0 = j
          · subst q1; rw [if_pos rfl, if_pos hj]; rfl
          · rw [if_neg q1]
            show some (PyData.int ((A j : Nat) : Int)) = some (PyData.int ((B j : Nat) : Int))
            rw [h j fun z => q1 z.symm]
        · rw [if_neg (by omega), List.getElem?_eq_none_iff.mpr (by rw [List.length_range]; omega)]; rfl
      have e1 := es (ordF ((lays m).take i)) (ordF ((lays m).take (i + 1))) fun f hf => by rw [eA f, if_neg (fun z => hf ((fb f).mp z))]; rfl
      have e2 := es (cntF ((lays m).take i)) (cntF ((lays m).take (i + 1))) fun f hf => by rw [eB f, if_neg (fun z => hf ((fb f).mp z))]; rfl
      rw [eA f0, if_pos ((fb f0).mpr rfl)] at e1
      rw [eB f0, if_pos ((fb f0).mpr rfl)] at e2
      refine ⟨.int ((ordF ((lays m).take i) f0 : Nat) : Int), atI_nat' (by rw [List.getElem?_map, List.getElem?_range hf]; rfl), m, l, rfl, F, by omega, by omega, ?_⟩
      refine ⟨.int ((cntF ((lays m).take i) f0 : Nat) : Int), atI_nat' (by rw [List.getElem?_map, List.getElem?_range hf]; rfl), by decide, f0, ixN_nat' (by rw [List.length_map, List.length_range]; exact hf), f0, ixN_nat' (by rw [List.length_map, List.length_range]; exact hf), ?_⟩
      try dsimp only
      rw [← Int.natCast_add, e1, show ((cntF ((lays m).take i) f0 : Nat) : Int) + 1 = ((cntF ((lays m).take i) f0 + 1 : Nat) : Int) from rfl, e2]
      exact hk _ ⟨_, _, rfl⟩
    · have fb : ∀ f, ¬ fallB f l = true := fun f z => by
        unfold fallB at z
        rw [decide_eq_false ho, Bool.false_and] at z
        cases z
      have e1 : ordF ((lays m).take i) = ordF ((lays m).take (i + 1)) := funext fun f => by rw [eA f, if_neg (fb f)]; rfl
      have e2 : cntF ((lays m).take i) = cntF ((lays m).take (i + 1)) := funext fun f => by rw [eB f, if_neg (fb f)]; rfl
      refine ite_no (by simpa using ho) ?_
      rw [e1, e2]
      exact hk _ ⟨_, _, rfl⟩
end
theorem def_mk {K : PySem.W.Frag} {h : Heap} {mg : Str → Option Value} {x : Str} {st : Stmt} {ps : List Str} {f : Addr} {oc : Value} {od an : Option Addr} {osl : Array (Option Value)} {kV doc pm cdv ct : Value} (X : K.In h) (G : h.Ns mainGlobals mg)
    (a : PySem.W.nsIn K mainGlobals x = some (some (.ref f))) (l : K.lookup f = some ⟨oc, od, .func (PySem.W.fnOf x x (defArgs st) (defBody st) (defScope st) .none kV doc pm an cdv ct), osl⟩) (c : PySem.W.codeIn K cdv x = true) (k : PySem.W.keepIn K (.ref f) = true)
    (hb : ∀ (kV doc pm : Value) (an : Option Addr) (cdv ct : Value) (us : List Value), us.length = ps.length → bindArgs (PySem.W.fnOf x x (defArgs st) (defBody st) (defScope st) .none kV doc pm an cdv ct) ⟨us, []⟩ = pure (ps.zip us)) : Def K mg x st ps :=
  ⟨_, _, fun_mk l c k, PySem.W.mg_of X G a, (fun_mk l c k).binds hb⟩
set_option maxHeartbeats 0 in
theorem all_mk {l : PySem.W.OpenLaw} {w : World} {K : PySem.W.Frag} {h : Heap} {mg : Str → Option Value} {fa : Addr} (X : K.In h) (G : h.Ns mainGlobals mg) (hfa : mg "law" = some (.ref fa))
    {f0 : Addr} {od0 an0 : Option Addr} {sl0 : Array (Option Value)} {oc0 kV0 dc0 pm0 cd0 ct0 : Value} (a0 : PySem.W.nsIn K mainGlobals "is_integer" = some (some (.ref f0))) (l0 : K.lookup f0 = some ⟨oc0, od0, .func (PySem.W.fnOf "is_integer" "is_integer" (defArgs s_is_integer) (defBody s_is_integer) (defScope s_is_integer) .none kV0 dc0 pm0 an0 cd0 ct0), sl0⟩) (c0 : PySem.W.codeIn K cd0 "is_integer" = true) (k0 : PySem.W.keepIn K (.ref f0) = true)
    {f1 : Addr} {od1 an1 : Option Addr} {sl1 : Array (Option Value)} {oc1 kV1 dc1 pm1 cd1 ct1 : Value} (a1 : PySem.W.nsIn K mainGlobals "is_between" = some (some (.ref f1))) (l1 : K.lookup f1 = some ⟨oc1, od1, .func (PySem.W.fnOf "is_between" "is_between" (defArgs s_is_between) (defBody s_is_between) (defScope s_is_between) .none kV1 dc1 pm1 an1 cd1 ct1), sl1⟩) (c1 : PySem.W.codeIn K cd1 "is_between" = true) (k1 : PySem.W.keepIn K (.ref f1) = true)
    {f2 : Addr} {od2 an2 : Option Addr} {sl2 : Array (Option Value)} {oc2 kV2 dc2 pm2 cd2 ct2 : Value} (a2 : PySem.W.nsIn K mainGlobals "is_tuple_of" = some (some (.ref f2))) (l2 : K.lookup f2 = some ⟨oc2, od2, .func (PySem.W.fnOf "is_tuple_of" "is_tuple_of" (defArgs s_is_tuple_of) (defBody s_is_tuple_of) (defScope s_is_tuple_of) .none kV2 dc2 pm2 an2 cd2 ct2), sl2⟩) (c2 : PySem.W.codeIn K cd2 "is_tuple_of" = true) (k2 : PySem.W.keepIn K (.ref f2) = true)
    {f3 : Addr} {od3 an3 : Option Addr} {sl3 : Array (Option Value)} {oc3 kV3 dc3 pm3 cd3 ct3 : Value} (a3 : PySem.W.nsIn K mainGlobals "is_bits" = some (some (.ref f3))) (l3 : K.lookup f3 = some ⟨oc3, od3, .func (PySem.W.fnOf "is_bits" "is_bits" (defArgs s_is_bits) (defBody s_is_bits) (defScope s_is_bits) .none kV3 dc3 pm3 an3 cd3 ct3), sl3⟩) (c3 : PySem.W.codeIn K cd3 "is_bits" = true) (k3 : PySem.W.keepIn K (.ref f3) = true)
    {f4 : Addr} {od4 an4 : Option Addr} {sl4 : Array (Option Value)} {oc4 kV4 dc4 pm4 cd4 ct4 : Value} (a4 : PySem.W.nsIn K mainGlobals "is_coins" = some (some (.ref f4))) (l4 : K.lookup f4 = some ⟨oc4, od4, .func (PySem.W.fnOf "is_coins" "is_coins" (defArgs s_is_coins) (defBody s_is_coins) (defScope s_is_coins) .none kV4 dc4 pm4 an4 cd4 ct4), sl4⟩) (c4 : PySem.W.codeIn K cd4 "is_coins" = true) (k4 : PySem.W.keepIn K (.ref f4) = true)
    {f5 : Addr} {od5 an5 : Option Addr} {sl5 : Array (Option Value)} {oc5 kV5 dc5 pm5 cd5 ct5 : Value} (a5 : PySem.W.nsIn K mainGlobals "check_row" = some (some (.ref f5))) (l5 : K.lookup f5 = some ⟨oc5, od5, .func (PySem.W.fnOf "check_row" "check_row" (defArgs s_check_row) (defBody s_check_row) (defScope s_check_row) .none kV5 dc5 pm5 an5 cd5 ct5), sl5⟩) (c5 : PySem.W.codeIn K cd5 "check_row" = true) (k5 : PySem.W.keepIn K (.ref f5) = true)
    {f6 : Addr} {od6 an6 : Option Addr} {sl6 : Array (Option Value)} {oc6 kV6 dc6 pm6 cd6 ct6 : Value} (a6 : PySem.W.nsIn K mainGlobals "check_head" = some (some (.ref f6))) (l6 : K.lookup f6 = some ⟨oc6, od6, .func (PySem.W.fnOf "check_head" "check_head" (defArgs s_check_head) (defBody s_check_head) (defScope s_check_head) .none kV6 dc6 pm6 an6 cd6 ct6), sl6⟩) (c6 : PySem.W.codeIn K cd6 "check_head" = true) (k6 : PySem.W.keepIn K (.ref f6) = true)
    {f7 : Addr} {od7 an7 : Option Addr} {sl7 : Array (Option Value)} {oc7 kV7 dc7 pm7 cd7 ct7 : Value} (a7 : PySem.W.nsIn K mainGlobals "check_count" = some (some (.ref f7))) (l7 : K.lookup f7 = some ⟨oc7, od7, .func (PySem.W.fnOf "check_count" "check_count" (defArgs s_check_count) (defBody s_check_count) (defScope s_check_count) .none kV7 dc7 pm7 an7 cd7 ct7), sl7⟩) (c7 : PySem.W.codeIn K cd7 "check_count" = true) (k7 : PySem.W.keepIn K (.ref f7) = true)
    {f8 : Addr} {od8 an8 : Option Addr} {sl8 : Array (Option Value)} {oc8 kV8 dc8 pm8 cd8 ct8 : Value} (a8 : PySem.W.nsIn K mainGlobals "places_in" = some (some (.ref f8))) (l8 : K.lookup f8 = some ⟨oc8, od8, .func (PySem.W.fnOf "places_in" "places_in" (defArgs s_places_in) (defBody s_places_in) (defScope s_places_in) .none kV8 dc8 pm8 an8 cd8 ct8), sl8⟩) (c8 : PySem.W.codeIn K cd8 "places_in" = true) (k8 : PySem.W.keepIn K (.ref f8) = true)
    {f9 : Addr} {od9 an9 : Option Addr} {sl9 : Array (Option Value)} {oc9 kV9 dc9 pm9 cd9 ct9 : Value} (a9 : PySem.W.nsIn K mainGlobals "near_masks" = some (some (.ref f9))) (l9 : K.lookup f9 = some ⟨oc9, od9, .func (PySem.W.fnOf "near_masks" "near_masks" (defArgs s_near_masks) (defBody s_near_masks) (defScope s_near_masks) .none kV9 dc9 pm9 an9 cd9 ct9), sl9⟩) (c9 : PySem.W.codeIn K cd9 "near_masks" = true) (k9 : PySem.W.keepIn K (.ref f9) = true)
    {f10 : Addr} {od10 an10 : Option Addr} {sl10 : Array (Option Value)} {oc10 kV10 dc10 pm10 cd10 ct10 : Value} (a10 : PySem.W.nsIn K mainGlobals "lying_behind" = some (some (.ref f10))) (l10 : K.lookup f10 = some ⟨oc10, od10, .func (PySem.W.fnOf "lying_behind" "lying_behind" (defArgs s_lying_behind) (defBody s_lying_behind) (defScope s_lying_behind) .none kV10 dc10 pm10 an10 cd10 ct10), sl10⟩) (c10 : PySem.W.codeIn K cd10 "lying_behind" = true) (k10 : PySem.W.keepIn K (.ref f10) = true)
    {f11 : Addr} {od11 an11 : Option Addr} {sl11 : Array (Option Value)} {oc11 kV11 dc11 pm11 cd11 ct11 : Value} (a11 : PySem.W.nsIn K mainGlobals "line_of" = some (some (.ref f11))) (l11 : K.lookup f11 = some ⟨oc11, od11, .func (PySem.W.fnOf "line_of" "line_of" (defArgs s_line_of) (defBody s_line_of) (defScope s_line_of) .none kV11 dc11 pm11 an11 cd11 ct11), sl11⟩) (c11 : PySem.W.codeIn K cd11 "line_of" = true) (k11 : PySem.W.keepIn K (.ref f11) = true)
    {f12 : Addr} {od12 an12 : Option Addr} {sl12 : Array (Option Value)} {oc12 kV12 dc12 pm12 cd12 ct12 : Value} (a12 : PySem.W.nsIn K mainGlobals "row_falls" = some (some (.ref f12))) (l12 : K.lookup f12 = some ⟨oc12, od12, .func (PySem.W.fnOf "row_falls" "row_falls" (defArgs s_row_falls) (defBody s_row_falls) (defScope s_row_falls) .none kV12 dc12 pm12 an12 cd12 ct12), sl12⟩) (c12 : PySem.W.codeIn K cd12 "row_falls" = true) (k12 : PySem.W.keepIn K (.ref f12) = true)
    {f13 : Addr} {od13 an13 : Option Addr} {sl13 : Array (Option Value)} {oc13 kV13 dc13 pm13 cd13 ct13 : Value} (a13 : PySem.W.nsIn K mainGlobals "row_count" = some (some (.ref f13))) (l13 : K.lookup f13 = some ⟨oc13, od13, .func (PySem.W.fnOf "row_count" "row_count" (defArgs s_row_count) (defBody s_row_count) (defScope s_row_count) .none kV13 dc13 pm13 an13 cd13 ct13), sl13⟩) (c13 : PySem.W.codeIn K cd13 "row_count" = true) (k13 : PySem.W.keepIn K (.ref f13) = true)
    {f14 : Addr} {od14 an14 : Option Addr} {sl14 : Array (Option Value)} {oc14 kV14 dc14 pm14 cd14 ct14 : Value} (a14 : PySem.W.nsIn K mainGlobals "orders_by_falls" = some (some (.ref f14))) (l14 : K.lookup f14 = some ⟨oc14, od14, .func (PySem.W.fnOf "orders_by_falls" "orders_by_falls" (defArgs s_orders_by_falls) (defBody s_orders_by_falls) (defScope s_orders_by_falls) .none kV14 dc14 pm14 an14 cd14 ct14), sl14⟩) (c14 : PySem.W.codeIn K cd14 "orders_by_falls" = true) (k14 : PySem.W.keepIn K (.ref f14) = true)
    {f15 : Addr} {od15 an15 : Option Addr} {sl15 : Array (Option Value)} {oc15 kV15 dc15 pm15 cd15 ct15 : Value} (a15 : PySem.W.nsIn K mainGlobals "rows_by_falls" = some (some (.ref f15))) (l15 : K.lookup f15 = some ⟨oc15, od15, .func (PySem.W.fnOf "rows_by_falls" "rows_by_falls" (defArgs s_rows_by_falls) (defBody s_rows_by_falls) (defScope s_rows_by_falls) .none kV15 dc15 pm15 an15 cd15 ct15), sl15⟩) (c15 : PySem.W.codeIn K cd15 "rows_by_falls" = true) (k15 : PySem.W.keepIn K (.ref f15) = true)
    {f16 : Addr} {od16 an16 : Option Addr} {sl16 : Array (Option Value)} {oc16 kV16 dc16 pm16 cd16 ct16 : Value} (a16 : PySem.W.nsIn K mainGlobals "row_mirrored" = some (some (.ref f16))) (l16 : K.lookup f16 = some ⟨oc16, od16, .func (PySem.W.fnOf "row_mirrored" "row_mirrored" (defArgs s_row_mirrored) (defBody s_row_mirrored) (defScope s_row_mirrored) .none kV16 dc16 pm16 an16 cd16 ct16), sl16⟩) (c16 : PySem.W.codeIn K cd16 "row_mirrored" = true) (k16 : PySem.W.keepIn K (.ref f16) = true)
    {f17 : Addr} {od17 an17 : Option Addr} {sl17 : Array (Option Value)} {oc17 kV17 dc17 pm17 cd17 ct17 : Value} (a17 : PySem.W.nsIn K mainGlobals "row_turned" = some (some (.ref f17))) (l17 : K.lookup f17 = some ⟨oc17, od17, .func (PySem.W.fnOf "row_turned" "row_turned" (defArgs s_row_turned) (defBody s_row_turned) (defScope s_row_turned) .none kV17 dc17 pm17 an17 cd17 ct17), sl17⟩) (c17 : PySem.W.codeIn K cd17 "row_turned" = true) (k17 : PySem.W.keepIn K (.ref f17) = true)
    {f18 : Addr} {od18 an18 : Option Addr} {sl18 : Array (Option Value)} {oc18 kV18 dc18 pm18 cd18 ct18 : Value} (a18 : PySem.W.nsIn K mainGlobals "_law_taken" = some (some (.ref f18))) (l18 : K.lookup f18 = some ⟨oc18, od18, .func (PySem.W.fnOf "_law_taken" "_law_taken" (defArgs s__law_taken) (defBody s__law_taken) (defScope s__law_taken) .none kV18 dc18 pm18 an18 cd18 ct18), sl18⟩) (c18 : PySem.W.codeIn K cd18 "_law_taken" = true) (k18 : PySem.W.keepIn K (.ref f18) = true)
    {f19 : Addr} {od19 an19 : Option Addr} {sl19 : Array (Option Value)} {oc19 kV19 dc19 pm19 cd19 ct19 : Value} (a19 : PySem.W.nsIn K mainGlobals "_law_layings" = some (some (.ref f19))) (l19 : K.lookup f19 = some ⟨oc19, od19, .func (PySem.W.fnOf "_law_layings" "_law_layings" (defArgs s__law_layings) (defBody s__law_layings) (defScope s__law_layings) .none kV19 dc19 pm19 an19 cd19 ct19), sl19⟩) (c19 : PySem.W.codeIn K cd19 "_law_layings" = true) (k19 : PySem.W.keepIn K (.ref f19) = true)
    {f20 : Addr} {od20 an20 : Option Addr} {sl20 : Array (Option Value)} {oc20 kV20 dc20 pm20 cd20 ct20 : Value} (a20 : PySem.W.nsIn K mainGlobals "_law_alike" = some (some (.ref f20))) (l20 : K.lookup f20 = some ⟨oc20, od20, .func (PySem.W.fnOf "_law_alike" "_law_alike" (defArgs s__law_alike) (defBody s__law_alike) (defScope s__law_alike) .none kV20 dc20 pm20 an20 cd20 ct20), sl20⟩) (c20 : PySem.W.codeIn K cd20 "_law_alike" = true) (k20 : PySem.W.keepIn K (.ref f20) = true)
    {f21 : Addr} {od21 an21 : Option Addr} {sl21 : Array (Option Value)} {oc21 kV21 dc21 pm21 cd21 ct21 : Value} (a21 : PySem.W.nsIn K mainGlobals "_law_heads" = some (some (.ref f21))) (l21 : K.lookup f21 = some ⟨oc21, od21, .func (PySem.W.fnOf "_law_heads" "_law_heads" (defArgs s__law_heads) (defBody s__law_heads) (defScope s__law_heads) .none kV21 dc21 pm21 an21 cd21 ct21), sl21⟩) (c21 : PySem.W.codeIn K cd21 "_law_heads" = true) (k21 : PySem.W.keepIn K (.ref f21) = true)
    {f22 : Addr} {od22 an22 : Option Addr} {sl22 : Array (Option Value)} {oc22 kV22 dc22 pm22 cd22 ct22 : Value} (a22 : PySem.W.nsIn K mainGlobals "_law_pick" = some (some (.ref f22))) (l22 : K.lookup f22 = some ⟨oc22, od22, .func (PySem.W.fnOf "_law_pick" "_law_pick" (defArgs s__law_pick) (defBody s__law_pick) (defScope s__law_pick) .none kV22 dc22 pm22 an22 cd22 ct22), sl22⟩) (c22 : PySem.W.codeIn K cd22 "_law_pick" = true) (k22 : PySem.W.keepIn K (.ref f22) = true)
    {f23 : Addr} {od23 an23 : Option Addr} {sl23 : Array (Option Value)} {oc23 kV23 dc23 pm23 cd23 ct23 : Value} (a23 : PySem.W.nsIn K mainGlobals "law" = some (some (.ref f23))) (l23 : K.lookup f23 = some ⟨oc23, od23, .func (PySem.W.fnOf "law" "law" (defArgs s_law) (defBody s_law) (defScope s_law) .none kV23 dc23 pm23 an23 cd23 ct23), sl23⟩) (c23 : PySem.W.codeIn K cd23 "law" = true) (k23 : PySem.W.keepIn K (.ref f23) = true)
    (b_all : PySem.W.nsIn K mainGlobals "all" = some none)
    (b_bool : PySem.W.nsIn K mainGlobals "bool" = some none)
    (b_enumerate : PySem.W.nsIn K mainGlobals "enumerate" = some none)
    (b_int : PySem.W.nsIn K mainGlobals "int" = some none)
    (b_isinstance : PySem.W.nsIn K mainGlobals "isinstance" = some none)
    (b_len : PySem.W.nsIn K mainGlobals "len" = some none)
    (b_list : PySem.W.nsIn K mainGlobals "list" = some none)
    (b_range : PySem.W.nsIn K mainGlobals "range" = some none)
    (b_str : PySem.W.nsIn K mainGlobals "str" = some none)
    (b_sum : PySem.W.nsIn K mainGlobals "sum" = some none)
    (b_tuple : PySem.W.nsIn K mainGlobals "tuple" = some none)
    (b_zip : PySem.W.nsIn K mainGlobals "zip" = some none)
    (g_accumulate : PySem.W.nsIn K mainGlobals "accumulate" = some (some (.type "itertools.accumulate")))
    (g_comb : PySem.W.nsIn K mainGlobals "comb" = some (some (.builtin "math.comb")))
    {t_MOST_IN_ROW : Tok} (c_MOST_IN_ROW : PySem.W.nsIn K mainGlobals "MOST_IN_ROW" = some (some (.int 40 t_MOST_IN_ROW)))
    : ∃ fd : FuncData, (∀ (s : Shared) (v : Value), BindsTo s fd ⟨[v], []⟩ [("script", v)]) ∧ ∀ base : Heap, K.In base → base.Ns mainGlobals mg → FnOk l.prog w K mg base CX0 8 fa fd ["script"] (spD K 1 sdLaw) := by
  have e := hfa.symm.trans (PySem.W.mg_of X G a23)
  cases e
  have T : Top K mg := ⟨PySem.W.mg_none_of X G b_all,
    PySem.W.mg_none_of X G b_bool,
    PySem.W.mg_none_of X G b_enumerate,
    PySem.W.mg_none_of X G b_int,
    PySem.W.mg_none_of X G b_isinstance,
    PySem.W.mg_none_of X G b_len,
    PySem.W.mg_none_of X G b_list,
    PySem.W.mg_none_of X G b_range,
    PySem.W.mg_none_of X G b_str,
    PySem.W.mg_none_of X G b_sum,
    PySem.W.mg_none_of X G b_tuple,
    PySem.W.mg_none_of X G b_zip,
    PySem.W.mg_of X G g_accumulate,
    PySem.W.mg_of X G g_comb,
    ⟨_, PySem.W.mg_of X G c_MOST_IN_ROW, ⟨_, rfl⟩⟩,
    def_mk X G a0 l0 c0 k0 fun _ _ _ _ _ _ us hl => match us, hl with | [_], _ => rfl,
    def_mk X G a1 l1 c1 k1 fun _ _ _ _ _ _ us hl => match us, hl with | [_, _, _], _ => rfl,
    def_mk X G a2 l2 c2 k2 fun _ _ _ _ _ _ us hl => match us, hl with | [_, _], _ => rfl,
    def_mk X G a3 l3 c3 k3 fun _ _ _ _ _ _ us hl => match us, hl with | [_, _], _ => rfl,
    def_mk X G a4 l4 c4 k4 fun _ _ _ _ _ _ us hl => match us, hl with | [_, _, _], _ => rfl,
    def_mk X G a5 l5 c5 k5 fun _ _ _ _ _ _ us hl => match us, hl with | [_], _ => rfl,
    def_mk X G a6 l6 c6 k6 fun _ _ _ _ _ _ us hl => match us, hl with | [_, _], _ => rfl,
    def_mk X G a7 l7 c7 k7 fun _ _ _ _ _ _ us hl => match us, hl with | [_, _], _ => rfl,
    def_mk X G a8 l8 c8 k8 fun _ _ _ _ _ _ us hl => match us, hl with | [_], _ => rfl,
    def_mk X G a9 l9 c9 k9 fun _ _ _ _ _ _ us hl => match us, hl with | [_], _ => rfl,
    def_mk X G a10 l10 c10 k10 fun _ _ _ _ _ _ us hl => match us, hl with | [_, _, _], _ => rfl,
    def_mk X G a11 l11 c11 k11 fun _ _ _ _ _ _ us hl => match us, hl with | [_], _ => rfl,
    def_mk X G a12 l12 c12 k12 fun _ _ _ _ _ _ us hl => match us, hl with | [_], _ => rfl,
    def_mk X G a13 l13 c13 k13 fun _ _ _ _ _ _ us hl => match us, hl with | [_], _ => rfl,
    def_mk X G a14 l14 c14 k14 fun _ _ _ _ _ _ us hl => match us, hl with | [_], _ => rfl,
    def_mk X G a15 l15 c15 k15 fun _ _ _ _ _ _ us hl => match us, hl with | [_], _ => rfl,
    def_mk X G a16 l16 c16 k16 fun _ _ _ _ _ _ us hl => match us, hl with | [_], _ => rfl,
    def_mk X G a17 l17 c17 k17 fun _ _ _ _ _ _ us hl => match us, hl with | [_, _], _ => rfl,
    def_mk X G a18 l18 c18 k18 fun _ _ _ _ _ _ us hl => match us, hl with | [_, _], _ => rfl,
    def_mk X G a19 l19 c19 k19 fun _ _ _ _ _ _ us hl => match us, hl with | [_], _ => rfl,
    def_mk X G a20 l20 c20 k20 fun _ _ _ _ _ _ us hl => match us, hl with | [_, _], _ => rfl,
    def_mk X G a21 l21 c21 k21 fun _ _ _ _ _ _ us hl => match us, hl with | [_], _ => rfl,
    def_mk X G a22 l22 c22 k22 fun _ _ _ _ _ _ us hl => match us, hl with | [_, _], _ => rfl⟩
  have F := fun_mk (st := s_law) l23 c23 k23
  refine ⟨PySem.W.fnOf "law" "law" (defArgs s_law) (defBody s_law) (defScope s_law) .none kV23 dc23 pm23 an23 cd23 ct23, fun s v => .of_eq rfl, fun base _ _ => ?_⟩
  have F_is_integer := fn_is_integer (P := l.prog) (w := w) (base := base) T 
  have F_is_between := fn_is_between (P := l.prog) (w := w) (base := base) T F_is_integer
  have F_is_tuple_of := fn_is_tuple_of (P := l.prog) (w := w) (base := base) T 
  have F_is_bits := fn_is_bits (P := l.prog) (w := w) (base := base) T F_is_tuple_of F_is_between
  have F_is_coins := fn_is_coins (P := l.prog) (w := w) (base := base) T F_is_bits
  have F_check_row := fn_check_row (P := l.prog) (w := w) (base := base) T F_is_coins
  have F_check_head := fn_check_head (P := l.prog) (w := w) (base := base) T F_is_between
  have F_check_count := fn_check_count (P := l.prog) (w := w) (base := base) T F_is_between
  have F_places_in := fn_places_in (P := l.prog) (w := w) (base := base) T 
  have F_near_masks := fn_near_masks (P := l.prog) (w := w) (base := base) T 
  have F_lying_behind := fn_lying_behind (P := l.prog) (w := w) (base := base) T F_places_in
  have F_line_of := fn_line_of (P := l.prog) (w := w) (base := base) T 
  have F_row_falls := fn_row_falls (P := l.prog) (w := w) (base := base) T F_check_row
  have F_row_count := fn_row_count (P := l.prog) (w := w) (base := base) T F_row_falls
  have F_orders_by_falls := fn_orders_by_falls (P := l.prog) (w := w) (base := base) T F_check_count
  have F_rows_by_falls := fn_rows_by_falls (P := l.prog) (w := w) (base := base) T F_check_count
  have F_row_mirrored := fn_row_mirrored (P := l.prog) (w := w) (base := base) T F_check_row
  have F_row_turned := fn_row_turned (P := l.prog) (w := w) (base := base) T F_check_row F_check_head F_lying_behind F_near_masks F_line_of
  have F__law_taken := fn__law_taken (P := l.prog) (w := w) (base := base) T 
  have F__law_layings := fn__law_layings (P := l.prog) (w := w) (base := base) T 
  have F__law_alike1 := fn__law_alike1 (P := l.prog) (w := w) (base := base) T (fn_no T.d__law_alike)
  have F__law_alike2 := fn__law_alike2 T F__law_alike1
  have F__law_alike3 := fn__law_alike3 T F__law_alike2
  have F__law_heads := fn__law_heads (P := l.prog) (w := w) (base := base) T 
  have F__law_pick := fn__law_pick (P := l.prog) (w := w) (base := base) T F__law_taken
  exact ok_law T F F__law_layings F_orders_by_falls F__law_heads F__law_pick F__law_alike3 F__law_taken F_rows_by_falls F_row_turned F_row_count F_row_falls F_row_mirrored
theorem walk {l : PySem.W.OpenLaw} {q : Program} {loose : List Str} {XP : (Str → Option Value) → Heap → Prop} {YP : World → Heap → Prop} {d : DefRec} {K : Params → PySem.W.Frag} (hn : l.most = some 63) (hdf : d.params.defaults = [])
    (hY : ∀ (w : World) (h : Heap), YP w h → (K w.params).In h)
    (F : ∀ (w : World) (mg : Str → Option Value) (fa : Addr) (h : Heap), (K w.params).In h → h.Ns mainGlobals mg → mg d.name = some (.ref fa) →
      ∃ fd : FuncData, (∀ (s : Shared) (u : Value), BindsTo s fd ⟨[u], []⟩ [("script", u)]) ∧ ∀ base : Heap, (K w.params).In base → base.Ns mainGlobals mg → FnOk l.prog w (K w.params) mg base CX0 8 fa fd ["script"] (spD (K w.params) 1 sdLaw)) :
    PySem.W.WalkO q loose XP YP l.row.toRowW d [] (fun f vs => PySem.call f vs) :=
  L2.walk_of (n := 63) (k := 8) (x := "script") (CX := fun _ => CX0) (sp := fun w => spD (K w.params) 1 sdLaw) hn (by decide) hdf ⟨rfl, by decide, by decide⟩ hY F (fun w H a ns hl _ hS => ⟨rfl, [], [.list (ns.map .int)], fun d => d = .bool true, fun a h => (nomatch h), by rw [hide_nil]; exact .cons (.lst hS (DpAll.of_ints ns)) .nil, ⟨ns, rfl, hl, rfl⟩, fun d e v H' l D => by subst e; cases D; rfl⟩) fun _ _ _ _ _ z => z
end DL
open PySem PySem.W PyProof.Rows
set_option maxRecDepth 100000 in
set_option maxHeartbeats 0 in
theorem PySem.Challenge.cw_cointakes_k63_whole_orders_by_falls_holds : PySem.Challenge.rw_cointakes_k63_whole_orders_by_falls.Holds := by
  w_on; o_law; k_head; (case hw => w_witness2)
  k_fill
  refine DL.walk (l := PySem.Challenge.rw_cointakes_k63_whole_orders_by_falls) rfl rfl (fun w h Y => PySem.W.kIn_of Y) ?F
  case F =>
    intro w mg fa h KX G hmg
    refine' DL.all_mk KX G hmg ?a0 ?l0 ?c0 ?k0 ?a1 ?l1 ?c1 ?k1 ?a2 ?l2 ?c2 ?k2 ?a3 ?l3 ?c3 ?k3 ?a4 ?l4 ?c4 ?k4 ?a5 ?l5 ?c5 ?k5 ?a6 ?l6 ?c6 ?k6 ?a7 ?l7 ?c7 ?k7 ?a8 ?l8 ?c8 ?k8 ?a9 ?l9 ?c9 ?k9 ?a10 ?l10 ?c10 ?k10 ?a11 ?l11 ?c11 ?k11 ?a12 ?l12 ?c12 ?k12 ?a13 ?l13 ?c13 ?k13 ?a14 ?l14 ?c14 ?k14 ?a15 ?l15 ?c15 ?k15 ?a16 ?l16 ?c16 ?k16 ?a17 ?l17 ?c17 ?k17 ?a18 ?l18 ?c18 ?k18 ?a19 ?l19 ?c19 ?k19 ?a20 ?l20 ?c20 ?k20 ?a21 ?l21 ?c21 ?k21 ?a22 ?l22 ?c22 ?k22 ?a23 ?l23 ?c23 ?k23 ?b_all ?b_bool ?b_enumerate ?b_int ?b_isinstance ?b_len ?b_list ?b_range ?b_str ?b_sum ?b_tuple ?b_zip ?g_accumulate ?g_comb ?c_MOST_IN_ROW
    (case a0 => k_is)
    (case l0 => k_is)
    (case c0 => k_is)
    (case k0 => k_is)
    (case a1 => k_is)
    (case l1 => k_is)
    (case c1 => k_is)
    (case k1 => k_is)
    (case a2 => k_is)
    (case l2 => k_is)
    (case c2 => k_is)
    (case k2 => k_is)
    (case a3 => k_is)
    (case l3 => k_is)
    (case c3 => k_is)
    (case k3 => k_is)
    (case a4 => k_is)
    (case l4 => k_is)
    (case c4 => k_is)
    (case k4 => k_is)
    (case a5 => k_is)
    (case l5 => k_is)
    (case c5 => k_is)
    (case k5 => k_is)
    (case a6 => k_is)
    (case l6 => k_is)
    (case c6 => k_is)
    (case k6 => k_is)
    (case a7 => k_is)
    (case l7 => k_is)
    (case c7 => k_is)
    (case k7 => k_is)
    (case a8 => k_is)
    (case l8 => k_is)
    (case c8 => k_is)
    (case k8 => k_is)
    (case a9 => k_is)
    (case l9 => k_is)
    (case c9 => k_is)
    (case k9 => k_is)
    (case a10 => k_is)
    (case l10 => k_is)
    (case c10 => k_is)
    (case k10 => k_is)
    (case a11 => k_is)
    (case l11 => k_is)
    (case c11 => k_is)
    (case k11 => k_is)
    (case a12 => k_is)
    (case l12 => k_is)
    (case c12 => k_is)
    (case k12 => k_is)
    (case a13 => k_is)
    (case l13 => k_is)
    (case c13 => k_is)
    (case k13 => k_is)
    (case a14 => k_is)
    (case l14 => k_is)
    (case c14 => k_is)
    (case k14 => k_is)
    (case a15 => k_is)
    (case l15 => k_is)
    (case c15 => k_is)
    (case k15 => k_is)
    (case a16 => k_is)
    (case l16 => k_is)
    (case c16 => k_is)
    (case k16 => k_is)
    (case a17 => k_is)
    (case l17 => k_is)
    (case c17 => k_is)
    (case k17 => k_is)
    (case a18 => k_is)
    (case l18 => k_is)
    (case c18 => k_is)
    (case k18 => k_is)
    (case a19 => k_is)
    (case l19 => k_is)
    (case c19 => k_is)
    (case k19 => k_is)
    (case a20 => k_is)
    (case l20 => k_is)
    (case c20 => k_is)
    (case k20 => k_is)
    (case a21 => k_is)
    (case l21 => k_is)
    (case c21 => k_is)
    (case k21 => k_is)
    (case a22 => k_is)
    (case l22 => k_is)
    (case c22 => k_is)
    (case k22 => k_is)
    (case a23 => k_is)
    (case l23 => k_is)
    (case c23 => k_is)
    (case k23 => k_is)
    (case b_all => k_is)
    (case b_bool => k_is)
    (case b_enumerate => k_is)
    (case b_int => k_is)
    (case b_isinstance => k_is)
    (case b_len => k_is)
    (case b_list => k_is)
    (case b_range => k_is)
    (case b_str => k_is)
    (case b_sum => k_is)
    (case b_tuple => k_is)
    (case b_zip => k_is)
    (case g_accumulate => k_is)
    (case g_comb => k_is)
    (case c_MOST_IN_ROW => k_is)
