import PyProof.Rows.All
import Wide.All
import OpenK.AllK
import Wide.FinOn
import HandS.ForMost
import HandS.ForExc
import HandS.IsInst
import HandS.SortRule
import HandS.SortInts
import HandS.Star
import HandS.Flow
import HandS.Style
import HandS.Zip
import HandS.Conv
import HandS.Deep
import HandS.ExcCtx
import HandS.HotCalls
import HandS.DictComp
import HandS.OwnEq
import KE.KExcInit
import PyProof.TupleIter
import KE.KDictKeyed
import KE.KDictWalk
import HandS.Walk
import KE.KDictSum
import KE.KDictCopyH
import KE.SortData
import HandS.DictEq
import KE.KDictDisplayH
import PyProof.Rows.SetFrom
import HandS.SetFor
import HandS.Strs
import KE.KDictList
import HandS.TupSets
import HandS.Comp
import PySem.Challenge.RW_twicedated_k61_whole_merging
import KE.GoesMore
import HandS.TupAny
import KE.KExcLine

set_option Elab.async false
set_option linter.all false
set_option maxRecDepth 100000
set_option pp.maxSteps 1500
/-! Dicts whose keys are facts: (relation, names), names a tuple of texts. -/
namespace YjD
open PySem PySem.Spec PyProof.Rows L2
abbrev Fct := Str × List Str
def keyF (f : Fct) : NestedKey := .tup [.text f.1, .tup (f.2.map NestedKey.text)]
theorem texts_inj : ∀ {a b : List Str}, a.map NestedKey.text = b.map NestedKey.text → a = b
  | [], [], _ => rfl
  | [], _ :: _, h => by cases h
  | _ :: _, [], h => by cases h
  | x :: a, y :: b, h => by
    rw [List.map_cons, List.map_cons] at h
    injection h with h1 h2
    injection h1 with h1
    rw [h1, texts_inj h2]
theorem keyF_inj {f g : Fct} (h : keyF f = keyF g) : f = g := by
  obtain ⟨r, n⟩ := f
  obtain ⟨s, m⟩ := g
  unfold keyF at h
  injection h with h
  injection h with h1 h2
  injection h1 with h1
  injection h2 with h2 _
  injection h2 with h2
  exact Prod.ext h1 (texts_inj h2)
theorem depth_texts : ∀ n : List Str, NestedKey.depthAll (n.map NestedKey.text) = 0
  | [] => rfl
  | x :: n => by
    show max 0 (NestedKey.depthAll (n.map NestedKey.text)) = 0
    rw [depth_texts n]
    rfl
theorem depth_key (f : Fct) : (keyF f).depth ≤ 8 := by
  show max 0 (max (NestedKey.depthAll (f.2.map NestedKey.text) + 1) 0) + 1 ≤ 8
  rw [depth_texts]
  decide
/-- the fact f stands at a: a tuple of its relation and of a tuple of its names -/
def KeyAt (H : Hp) (a : Addr) (f : Fct) : Prop := ∃ n, H a = some (.tup [.str f.1, .ref n]) ∧ H n = some (.tup (f.2.map V.str))
theorem KeyAt.tups {H H' : Hp} {a : Addr} {f : Fct} (ht : ∀ b xs, H b = some (.tup xs) → H' b = some (.tup xs)) (h : KeyAt H a f) : KeyAt H' a f := by
  obtain ⟨n, h1, h2⟩ := h
  exact ⟨n, ht _ _ h1, ht _ _ h2⟩
theorem KeyAt.mono {H H' : Hp} {a : Addr} {f : Fct} (s : Same H H') (h : KeyAt H a f) : KeyAt H' a f := h.tups fun b xs e => s _ _ e
theorem strs_inj : ∀ {a b : List Str}, a.map V.str = b.map V.str → a = b
  | [], [], _ => rfl
  | [], _ :: _, h => by cases h
  | _ :: _, [], h => by cases h
  | x :: a, y :: b, h => by
    rw [List.map_cons, List.map_cons] at h
    injection h with h1 h2
    injection h1 with h1
    rw [h1, strs_inj h2]
theorem KeyAt.inj {H : Hp} {a : Addr} {f g : Fct} (h : KeyAt H a f) (k : KeyAt H a g) : f = g := by
  obtain ⟨n, h1, h2⟩ := h
  obtain ⟨m, k1, k2⟩ := k
  rw [h1] at k1
  injection k1 with k1
  injection k1 with k1
  injection k1 with e1 e2
  injection e1 with e1
  injection e2 with e2 _
  injection e2 with e2
  subst e2
  rw [h2] at k2
  injection k2 with k2
  injection k2 with k2
  exact Prod.ext e1 (strs_inj k2)
theorem texts_are {h : Heap} : ∀ {n : List Str} {us : List Value}, Vals (n.map V.str) us → NestedAll h (n.map NestedKey.text) us
  | [], _, r => by
    cases r
    exact .nil
  | x :: n, _, r => by
    cases r with
    | cons a t =>
      obtain ⟨k, rfl⟩ := (show ∃ t, _ = Value.str x t from a)
      exact .cons (.text x k) (texts_are t)
theorem fact_is {P : Program} {w : World} {H : Hp} {h : Heap} {a : Addr} {f : Fct} (ok : HOk P w H h) (k : KeyAt H a f) : (nestedKind P w).is h (keyF f) a := by
  obtain ⟨n, h1, h2⟩ := k
  obtain ⟨_, its, r, o, e1, e2, m, e3⟩ := (show ObjOk P w H h a _ from ok a _ h1)
  obtain ⟨_, jts, q, u, d1, d2, l, d3⟩ := (show ObjOk P w H h n _ from ok n _ h2)
  refine ⟨.tup e1 e2 e3 ?_, depth_key f⟩
  cases r with
  | cons r1 t1 =>
    cases t1 with
    | cons r2 t2 =>
      cases t2
      obtain ⟨k, rfl⟩ := (show ∃ t, _ = Value.str f.1 t from r1)
      obtain rfl := (show _ = Value.ref n from r2)
      refine .cons (.text _ _) (.cons (.tup d1 d2 d3 ?_) .nil)
      exact texts_are q
/-- the object o stands at d -/
def obO (d : Addr) (o : Obj) : HO := .ext fun h => h.get? d = some o
/-- entries told by values -/
abbrev FR (H : Hp) : List (Fct × V) → List (NestedKey × Addr × Value) → Prop := Paired fun p q => keyF p.1 = q.1 ∧ KeyAt H q.2.1 p.1 ∧ RelV p.2 q.2.2
/-- at d stands a dict with the facts and values kvs, in the order of insertion: the object o -/
structure FDo (P : Program) (w : World) (H : Hp) (d : Addr) (o : Obj) (kvs : List (Fct × V)) : Prop where
  sys : (d == sysModules) = false
  len : kvs.length ≤ sizeLine
  nod : (kvs.map (·.1)).Nodup
  here : H d = some (obO d o)
  exact' : o.ExactDict
  ent : ∃ es ep xs, o.data = .dict es ep ∧ es.toList = xs.map (entryOfKey (nestedKind P w)) ∧ FR H kvs xs
def FD (P : Program) (w : World) (H : Hp) (d : Addr) (kvs : List (Fct × V)) : Prop := ∃ o, FDo P w H d o kvs
theorem FD.sys {P : Program} {w : World} {H : Hp} {d : Addr} {kvs : List (Fct × V)} (F : FD P w H d kvs) : (d == sysModules) = false := let ⟨_, f⟩ := F; f.sys
theorem FD.len {P : Program} {w : World} {H : Hp} {d : Addr} {kvs : List (Fct × V)} (F : FD P w H d kvs) : kvs.length ≤ sizeLine := let ⟨_, f⟩ := F; f.len
theorem FD.nod {P : Program} {w : World} {H : Hp} {d : Addr} {kvs : List (Fct × V)} (F : FD P w H d kvs) : (kvs.map (·.1)).Nodup := let ⟨_, f⟩ := F; f.nod
theorem FR.tups {H H' : Hp} {kvs : List (Fct × V)} {xs : List (NestedKey × Addr × Value)} (ht : ∀ b ys, H b = some (.tup ys) → H' b = some (.tup ys)) (r : FR H kvs xs) : FR H' kvs xs :=
  Paired.mapP r fun _ _ z => ⟨z.1, z.2.1.tups ht, z.2.2⟩
theorem FDo.keep {P : Program} {w : World} {H H' : Hp} {d : Addr} {o : Obj} {kvs : List (Fct × V)} (F : FDo P w H d o kvs) (hd : H' d = H d) (ht : ∀ b ys, H b = some (.tup ys) → H' b = some (.tup ys)) : FDo P w H' d o kvs := by
  obtain ⟨s, l, n, h, x, es, ep, xs, e1, e2, r⟩ := F
  exact ⟨s, l, n, hd.trans h, x, es, ep, xs, e1, e2, r.tups ht⟩
theorem FD.keep {P : Program} {w : World} {H H' : Hp} {d : Addr} {kvs : List (Fct × V)} (F : FD P w H d kvs) (hd : H' d = H d) (ht : ∀ b ys, H b = some (.tup ys) → H' b = some (.tup ys)) : FD P w H' d kvs := by
  obtain ⟨o, F⟩ := F
  exact ⟨o, F.keep hd ht⟩
theorem FD.ext {P : Program} {w : World} {H : Hp} {d : Addr} {kvs : List (Fct × V)} (F : FD P w H d kvs) : ∃ φ, H d = some (.ext φ) := by
  obtain ⟨o, F⟩ := F
  exact ⟨_, F.here⟩
theorem FDo.mono {P : Program} {w : World} {H H' : Hp} {d : Addr} {o : Obj} {kvs : List (Fct × V)} (s : Same H H') (F : FDo P w H d o kvs) : FDo P w H' d o kvs := F.keep ((s _ _ F.here).trans F.here.symm) fun b ys e => s _ _ e
theorem FD.mono {P : Program} {w : World} {H H' : Hp} {d : Addr} {kvs : List (Fct × V)} (s : Same H H') (F : FD P w H d kvs) : FD P w H' d kvs := by
  obtain ⟨o, F⟩ := F
  exact ⟨o, F.mono s⟩
theorem FR.nodup {H : Hp} {kvs : List (Fct × V)} {xs : List (NestedKey × Addr × Value)} (r : FR H kvs xs) (n : (kvs.map (·.1)).Nodup) : (xs.map (·.1)).Nodup := by
  have e : xs.map (·.1) = (kvs.map (·.1)).map keyF := by
    clear n
    induction r with
    | nil => rfl
    | cons h t ih =>
      rw [List.map_cons, List.map_cons, List.map_cons, ih, h.1]
  rw [e]
  unfold List.Nodup at n ⊢
  rw [List.pairwise_map]
  exact n.imp fun h z => h (keyF_inj z)
theorem FR.all {P : Program} {w : World} {H : Hp} {h : Heap} (ok : HOk P w H h) {kvs : List (Fct × V)} {xs : List (NestedKey × Addr × Value)} (r : FR H kvs xs) : ∀ x ∈ xs, (nestedKind P w).is h x.1 x.2.1 := by
  induction r with
  | nil =>
    intro x hx
    cases hx
  | cons a t ih =>
    intro x hx
    rcases List.mem_cons.mp hx with e | hx
    · rw [e, ← a.1]
      exact fact_is ok a.2.1
    · exact ih x hx
/-- the library's own word of it -/
theorem FDo.of {P : Program} {w : World} {H : Hp} {h : Heap} {d : Addr} {o : Obj} {kvs : List (Fct × V)} (ok : HOk P w H h) (F : FDo P w H d o kvs) : h.get? d = some o ∧ ∃ xs, FR H kvs xs ∧ h.DictOfH (nestedKind P w) d xs := by
  obtain ⟨_, _, n, e, h2, es, ep, xs, h3, h4, r⟩ := F
  obtain ⟨h1, _⟩ := (show ObjOk P w H h d (obO d o) from ok d _ e)
  exact ⟨h1, xs, r, o, es, ep, h1, h2, h3, h4, r.all ok, r.nodup n⟩
theorem FD.of {P : Program} {w : World} {H : Hp} {h : Heap} {d : Addr} {kvs : List (Fct × V)} (ok : HOk P w H h) (F : FD P w H d kvs) : ∃ xs, FR H kvs xs ∧ h.DictOfH (nestedKind P w) d xs := by
  obtain ⟨o, F⟩ := F
  exact (F.of ok).2
theorem ob_new {P : Program} {w : World} {H : Hp} {h : Heap} {d : Addr} {o : Obj} (e : h.get? d = some o) : ObjOk P w H h d (obO d o) := ⟨e, ⟨o, e⟩, fun _ _ z k => k _ z⟩
theorem FR.val {H : Hp} {kvs : List (Fct × V)} {xs : List (NestedKey × Addr × Value)} (r : FR H kvs xs) (f : Fct) : RelO (valV kvs f) ((atKey xs (keyF f)).map (·.2)) := by
  induction r with
  | nil => exact True.intro
  | @cons p q ps qs a t ih =>
    by_cases e : p.1 = f
    · have e' : q.1 = keyF f := by rw [← a.1, e]
      have b : atKey (q :: qs) (keyF f) = some q.2 := by simp [atKey, List.find?_cons, e']
      rw [valV_pos e, b]
      exact a.2.2
    · have e' : ¬ q.1 = keyF f := fun z => e (keyF_inj (a.1.trans z))
      have b : atKey (q :: qs) (keyF f) = atKey qs (keyF f) := by simp [atKey, List.find?_cons, e']
      rw [valV_neg e, b]
      exact ih
theorem FR.swap {H : Hp} {kvs : List (Fct × V)} {xs : List (NestedKey × Addr × Value)} (r : FR H kvs xs) (f : Fct) {y : V} {u : Value} (ry : RelV y u) : FR H (kvs.map fun kv => if kv.1 = f then (kv.1, y) else kv) (xs.map (putAt (keyF f) u)) := by
  induction r with
  | nil => exact .nil
  | @cons p q ps qs a t ih =>
    refine .cons ?_ ih
    unfold putAt
    dsimp only
    by_cases e : p.1 = f
    · rw [if_pos e, if_pos (by rw [← a.1, e])]
      exact ⟨a.1, a.2.1, ry⟩
    · rw [if_neg e, if_neg fun z => e (keyF_inj (a.1.trans z))]
      exact a
theorem FR.put {H : Hp} {kvs : List (Fct × V)} {xs : List (NestedKey × Addr × Value)} (r : FR H kvs xs) (f : Fct) {b : Addr} {y : V} {u : Value} (hb : KeyAt H b f) (ry : RelV y u) : FR H (putK kvs f y) (storedH xs (keyF f) b u) := by
  have e : (kvs.any fun kv => decide (kv.1 = f)) = (atKey xs (keyF f)).isSome := by
    rw [valV_any, (r.val f).isSome_eq, Option.isSome_map]
  unfold putK storedH
  rw [e]
  by_cases q : (atKey xs (keyF f)).isSome = true
  · rw [if_pos q, if_pos q]
    exact r.swap f ry
  · rw [if_neg q, if_neg q]
    exact Paired.snoc r ⟨rfl, hb, ry⟩
theorem keys_put {kvs : List (Fct × V)} (f : Fct) (y : V) : (putK kvs f y).map (·.1) = if (valV kvs f).isSome then kvs.map (·.1) else kvs.map (·.1) ++ [f] := by
  unfold putK
  rw [valV_any]
  by_cases q : (valV kvs f).isSome = true
  · rw [if_pos q, if_pos q, List.map_map]
    refine List.map_congr_left fun p _ => ?_
    by_cases e : p.1 = f
    · simp [e]
    · simp [e]
  · rw [if_neg q, if_neg q, List.map_append]
    rfl
theorem valV_mem {kvs : List (Fct × V)} {f : Fct} (h : valV kvs f = none) : f ∉ kvs.map (·.1) := by
  induction kvs with
  | nil => intro z; cases z
  | cons p ps ih =>
    by_cases e : p.1 = f
    · rw [valV_pos e] at h
      cases h
    · rw [valV_neg e] at h
      intro z
      rcases List.mem_cons.mp z with z | z
      · exact e z.symm
      · exact ih h z
theorem nod_put {kvs : List (Fct × V)} (f : Fct) (y : V) (n : (kvs.map (·.1)).Nodup) : ((putK kvs f y).map (·.1)).Nodup := by
  rw [keys_put]
  split
  · exact n
  · rename_i h
    have h' : valV kvs f = none := by
      cases e : valV kvs f with
      | none => rfl
      | some v => rw [e] at h; exact absurd rfl h
    rw [List.nodup_append]
    exact ⟨n, List.nodup_cons.mpr ⟨List.not_mem_nil, List.nodup_nil⟩, fun a ha b hb => by
      rw [List.mem_singleton.mp hb]
      intro z
      exact valV_mem h' (z ▸ ha)⟩
section
variable {X : Cx} {pins : List (Addr × Obj)} {σ : L2.St} {H : Hp} {s : Shared}
/-- the dict at d behind a store -/
theorem FD.stored {d b : Addr} {kvs : List (Fct × V)} {f : Fct} {y : V} {u : Value} {xs : List (NestedKey × Addr × Value)} {h' : Heap} {t' : Nat} (I : Inv X pins σ H s) (F : FD X.prog X.w H d kvs) (hb : KeyAt H b f) (ry : RelV y u) (hl : kvs.length < sizeLine) (r : FR H kvs xs)
    (D : h'.DictOfH (nestedKind X.prog X.w) d (storedH xs (keyF f) b u)) (hs : Heap.SameBut d s.heap h') :
    ∃ o', Inv X pins σ (upd H d o') { s with heap := h', toks := t' } ∧ FD X.prog X.w (upd H d o') d (putK kvs f y) := by
  obtain ⟨φ, hd⟩ := F.ext
  obtain ⟨o, es, ep, h1, h2, h3, h4, _⟩ := D
  refine ⟨obO d o, d_write I (by rw [hd]; exact True.intro) hs ⟨o, h1⟩ (ob_new h1), o, F.sys, ?_, nod_put f y F.nod, upd_same, h2, es, ep, _, h3, h4, (r.put f hb ry).tups fun b ys e => ?_⟩
  · have := length_putK kvs f y
    omega
  · rw [upd_ne fun z => ?_]
    · exact e
    · rw [z, hd] at e
      cases e
variable {a e k v : Expr} {ta te tk tv : TE} {pos apos cpos : Pos}
/-- d[k], there -/
def tFGet (P : Program) (w : World) (ta tk : TE) : TE := fun σ H Q => ta σ H fun x H1 => tk σ H1 fun y H2 => ∃ d kvs b f v, x = .ref d ∧ y = .ref b ∧ FD P w H2 d kvs ∧ KeyAt H2 b f ∧ valV kvs f = some v ∧ Q v H2
theorem pe_fget (hu : X.A.units + 64 < cLine) (ho : PE X a ta) (hi : PE X k tk) (hs : NoSl k) : PE X (.Subscript a k pos) (tFGet X.prog X.w ta tk) := by
  refine ⟨fun pins s σ H Q I h => ?_⟩
  refine subD_of PySem.F.slot_dict_getitem.lookup hs ?_
  refine thn (ho.run pins s σ H _ I h) fun u s1 h1 => ?_
  obtain ⟨x, H1, I1, rx, q1⟩ := h1
  refine thn (hi.run pins s1 σ H1 _ I1 q1) fun j s2 h2 => ?_
  obtain ⟨y, H2, I2, ry, d, kvs, b, f, z, rfl, rfl, F, K, hv, q⟩ := h2
  obtain rfl : u = Value.ref d := rx
  obtain rfl : j = Value.ref b := ry
  obtain ⟨xs, r, D⟩ := F.of I2.hok
  obtain ⟨u', hu', ru⟩ := RelO.some_of (v := z) (o := (atKey xs (keyF f)).map (·.2)) (by rw [← hv]; exact r.val f)
  obtain ⟨p, hp, hp2⟩ := Option.map_eq_some_iff.mp hu'
  refine ⟨D.typeIs, wpAny_getItem_heap (by show X.A.units + 1 + 8 < cLine; omega) (fact_is I2.hok K) D hp ?_⟩
  rw [hp2]
  exact ⟨z, H2, I2.tok _, ru, q⟩
/-- d.get(k, e) -/
def tFOr (P : Program) (w : World) (ta tk te : TE) : TE := fun σ H Q => ta σ H fun x H1 => ∃ d kvs, x = .ref d ∧ FD P w H1 d kvs ∧ tk σ H1 fun y H2 => te σ H2 fun z H3 => ∃ b f, y = .ref b ∧ FD P w H3 d kvs ∧ KeyAt H3 b f ∧ Q ((valV kvs f).getD z) H3
theorem pe_for (hu : X.A.units + 64 < cLine) (ho : PE X a ta) (hk : PE X k tk) (he : PE X e te) (m : M2 X a "get" apos k e cpos) : PE X (.Call (.Attribute a "get" apos) [k, e] [] cpos) (tFOr X.prog X.w ta tk te) := by
  refine ⟨fun pins s σ H Q I h => ?_⟩
  refine wpAny_Call_method m.base m.few m.line PySem.F.plainAttrs_dict PySem.F.slot_dict_get PySem.F.type_dict_get (thn (ho.run pins s σ H _ I h) fun u s1 h1 => ?_)
  obtain ⟨x, H1, I1, rx, d, kvs, rfl, F, q1⟩ := h1
  obtain rfl : u = Value.ref d := rx
  obtain ⟨_, _, D1⟩ := F.of I1.hok
  have one : ∀ c, Value.ref d = .ref c → ∃ ob, s1.heap.get? c = some ob ∧ ob.dict = none := fun c z => by
    cases z
    obtain ⟨ob, _, _, h1, h2, _⟩ := D1
    exact ⟨ob, h1, h2.2.1⟩
  refine ⟨D1.typeIs, one, ?_⟩
  rw [m.trees]
  refine Calls.callWith_builtin rfl (Calls.evalArgs_plain (Calls.spliced_cons (thn (hk.run pins s1 σ H1 _ I1 q1) fun j s2 h2 => ?_)))
  obtain ⟨y, H2, I2, ry, q2⟩ := h2
  refine Calls.spliced_cons (thn (he.run pins s2 σ H2 _ I2 q2) fun l s3 h3 => Calls.spliced_nil ?_)
  obtain ⟨z, H3, I3, rz, b, f, rfl, F3, K, q⟩ := h3
  obtain rfl : j = Value.ref b := ry
  obtain ⟨xs, r, D⟩ := F3.of I3.hok
  refine call_meetsIn PySem.F.slot_dict_get D.typeIs PySem.F.entry_dict_get (PySem.F.args_dict_get_3 _ _ _) (meetsH_dict_get_default (nestedKind X.prog X.w) d b F3.sys l) ?_
  refine ⟨by show X.A.units + 1 + 8 < cLine; omega, keyF f, xs, fact_is I3.hok K, D, ?_⟩
  exact ⟨_, H3, I3.tok _, (r.val f).getD rz, q⟩
/-- k in d -/
def rInF (P : Program) (w : World) (neg : Bool) : R2 := fun x y H Q => ∃ d kvs b f, x = .ref b ∧ y = .ref d ∧ FD P w H d kvs ∧ KeyAt H b f ∧ Q (.bl (if neg then !(valV kvs f).isSome else (valV kvs f).isSome)) H
theorem op_inF (hu : X.A.units + 64 < cLine) : OpR X (compareOp .In) (rInF X.prog X.w false) := by
  intro pins s σ H x y v u Q I rx ry h
  obtain ⟨d, kvs, b, f, rfl, rfl, F, K, q⟩ := h
  obtain rfl : v = Value.ref b := rx
  obtain rfl : u = Value.ref d := ry
  obtain ⟨xs, r, D⟩ := F.of I.hok
  refine wpAny_in_heap (by show X.A.units + 1 + 8 < cLine; omega) (fact_is I.hok K) F.sys D ?_
  have e := (r.val f).isSome_eq
  rw [Option.isSome_map] at e
  rw [← e]
  exact ⟨.bl _, H, I.tok _, rfl, q⟩
theorem op_notInF (hu : X.A.units + 64 < cLine) : OpR X (compareOp .NotIn) (rInF X.prog X.w true) := by
  intro pins s σ H x y v u Q I rx ry h
  obtain ⟨d, kvs, b, f, rfl, rfl, F, K, q⟩ := h
  obtain rfl : v = Value.ref b := rx
  obtain rfl : u = Value.ref d := ry
  obtain ⟨xs, r, D⟩ := F.of I.hok
  refine wpAny_notIn_heap (by show X.A.units + 1 + 8 < cLine; omega) (fact_is I.hok K) F.sys D ?_
  have e := (r.val f).isSome_eq
  rw [Option.isSome_map] at e
  rw [← e]
  exact ⟨.bl _, H, I.tok _, rfl, q⟩
/-- d[k] = v -/
def tSetF (P : Program) (w : World) : V → V → V → Hp → (Hp → Prop) → Prop := fun o i v H Q => ∃ d kvs b f, o = .ref d ∧ i = .ref b ∧ FD P w H d kvs ∧ KeyAt H b f ∧ kvs.length < sizeLine ∧ ∀ o', FD P w (upd H d o') d (putK kvs f v) → Q (upd H d o')
theorem set_fact (hu : X.A.units + 64 < cLine) : PSet X (tSetF X.prog X.w) := by
  intro pins s σ H o i v ov iv u Q I ro ri rv h
  obtain ⟨d, kvs, b, f, rfl, rfl, F, K, hl, q⟩ := h
  obtain rfl : ov = Value.ref d := ro
  obtain rfl : iv = Value.ref b := ri
  obtain ⟨xs, r, D⟩ := F.of I.hok
  have e := Paired.length r
  refine wpAny_setItem_heap (hsz := by omega) (by show X.A.units + 1 + 8 < cLine; omega) (fact_is I.hok K) D fun h' D' hs => ?_
  obtain ⟨o', I', F'⟩ := F.stored (t' := s.toks + (nestedKind X.prog X.w).draws (keyF f)) I K rv hl r D' hs
  exact ⟨_, I', q o' F'⟩
/-- {}, to be a dict of facts -/
def tFNew (P : Program) (w : World) : TE := fun _ H Q => ∀ d o, H d = none → FD P w (upd H d o) d [] → Q (.ref d) (upd H d o)
def newO : Obj := { cls := .type "dict", data := .dict #[] }
theorem fd_empty {P : Program} {w : World} {H : Hp} {d : Addr} (hb : sysModules < d) : FD P w (upd H d (obO d newO)) d [] :=
  ⟨newO, beq_eq_false_iff_ne.mpr (Ne.symm (Nat.ne_of_lt hb)), Nat.zero_le _, List.nodup_nil, upd_same, ⟨rfl, rfl, rfl⟩, #[], 0, [], rfl, rfl, .nil⟩
theorem pe_fnew : PE X (.Dict [] [] pos) (tFNew X.prog X.w) := ⟨fun pins s σ H Q I h => by
  refine wpAny_Dict_empty ⟨.ref s.heap.objs.size, _, I.laid (a := s.heap.objs.size) (o := obO s.heap.objs.size newO) (t' := s.toks) (fun _ _ q => Heap.get?_push_of_some _ q) (Nat.le_refl _) (ob_new (Heap.get?_push_size _ rfl)), rfl, ?_⟩
  exact h _ _ (I.hok.fresh (Nat.le_refl _)) (fd_empty I.big)⟩
/-- len(d) -/
theorem call_lenF (hc : X.calm = true) : CallR X (.builtin "len") (fun vs H Q => ∃ d kvs, vs = [V.ref d] ∧ FD X.prog X.w H d kvs ∧ Q (.int (kvs.length : Nat)) H) := by
  intro pins s σ H vs us Q I r h
  obtain ⟨d, kvs, rfl, F, q⟩ := h
  obtain ⟨u, rfl, ru⟩ := vals1 r
  obtain rfl : u = Value.ref d := ru
  obtain ⟨xs, rr, D⟩ := F.of I.hok
  have e := Paired.length rr
  have hz := F.len
  have hz2 := sizeLine_eq
  refine PyProof.Rows.call_len_slot (n := xs.length) D.typeIs PySem.F.slot_dict_len (fun Q' hq => len_keyed F.sys ⟨xs, D, rfl⟩ (by rw [pairsH_length]; exact hq)) (by omega) (by omega) ?_
  rw [← e]
  exact ⟨.int _, H, I.tok _, ⟨_, rfl⟩, q⟩
end
end YjD
set_option Elab.async false
set_option linter.all false
set_option maxRecDepth 100000
set_option pp.maxSteps 1500
/-! A dict of facts, walked by its keys. -/
namespace YjD
open PySem PySem.Spec PyProof.Rows L2
theorem FDo.at {P : Program} {w : World} {H : Hp} {d : Addr} {o : Obj} {kvs : List (Fct × V)} {es : Array DictEntry} {ep : Nat} (F : FDo P w H d o kvs) (hod : o.data = .dict es ep) : es.size = kvs.length ∧
    ∀ i (hi : i < es.size), ∃ ka f v, kvs[i]? = some (f, v) ∧ es[i].key = .ref ka ∧ KeyAt H ka f ∧ RelV v es[i].val := by
  obtain ⟨_, _, _, _, _, es', ep', xs, e1, e2, r⟩ := F
  rw [hod] at e1
  cases e1
  have hl := Paired.length r
  have hs := size_of_entries e2
  refine ⟨hs.trans hl.symm, fun i hi => ?_⟩
  have he := entry_at e2 i
  have hx : i < xs.length := hs ▸ hi
  rw [Array.getElem?_eq_getElem hi, List.getElem?_eq_getElem hx, Option.map_some] at he
  have he := Option.some.inj he
  have g : ∀ {l : List (Fct × V)} {m : List (NestedKey × Addr × Value)}, FR H l m → ∀ (j : Nat) (hj : j < m.length), ∃ f v, l[j]? = some (f, v) ∧ KeyAt H m[j].2.1 f ∧ RelV v m[j].2.2 := by
    intro l m q
    induction q with
    | nil =>
      intro j hj
      exact absurd hj (Nat.not_lt_zero j)
    | @cons p q ps qs a t ih =>
      intro j hj
      cases j with
      | zero => exact ⟨p.1, p.2, rfl, a.2.1, a.2.2⟩
      | succ j => exact ih j (Nat.lt_of_succ_lt_succ hj)
  obtain ⟨f, v, h1, h2, h3⟩ := g r i hx
  refine ⟨xs[i].2.1, f, v, h1, ?_, h2, ?_⟩
  · rw [he]
    rfl
  · rw [he]
    exact h3
/-- the keys of the dict at d, one by one -/
def ItF (P : Program) (w : World) (d : Addr) (o : Obj) (kvs : List (Fct × V)) : It :=
  ⟨fun i H => FDo P w H d o kvs ∧ i < kvs.length, fun i H x H' => H' = H ∧ ∃ ka f v, x = .ref ka ∧ kvs[i]? = some (f, v) ∧ KeyAt H ka f, fun i H => FDo P w H d o kvs ∧ i = kvs.length⟩
theorem turn_facts {P : Program} {w : World} {K : PySem.W.Frag} {tg : Expr} {d : Addr} {o : Obj} {kvs : List (Fct × V)} {es : Array DictEntry} {ep : Nat} (it : Addr) (hod : o.data = .dict es ep) :
    Turn P w K tg (ItF P w d o kvs) [it] it (fun i h => h.IsKeyIter it d i es.size ep) := by
  refine ⟨by simp, fun i h st b hb => ?_, fun i h h' st k => st.at fun oi e => k it (by simp) oi e, ?_, ?_, fun A i s Q E st h => wpAny_pyIter_keyiter st h⟩
  · rw [List.mem_singleton.mp hb]
    obtain ⟨oi, e, _, dd⟩ := st
    exact ⟨oi, e, fun v z => by rw [dd] at z; cases z⟩
  · intro X hP hw hK hc i pins s σ H E I hf st hg
    subst hP hw hK
    obtain ⟨F, hi⟩ := hg
    obtain ⟨f0, f1, f2, f3, f4, f5⟩ := hf it (by simp)
    obtain ⟨hd, _⟩ := F.of I.hok
    obtain ⟨hs, hat⟩ := F.at hod
    obtain ⟨ka, f, v, h1, h2, h3, _⟩ := hat i (by omega)
    refine wpAny_pyNext_keys_item_raw st ⟨o, hd, F.exact', hod⟩ (by omega) fun h' st' sb => ?_
    have J : Inv X pins σ H { s with heap := h' } := I.turned (t' := s.toks) (fun b ob hb e => (sb.2 b hb).trans e) f0 f1 f3 f4 f5
    obtain ⟨oi, e, c, dd⟩ := id st'
    exact ⟨_, rfl, go_of (s := { s with heap := h' }) e c dd (by decide) ⟨.ref ka, H, J, h2, ⟨rfl, ka, f, v, rfl, h1, h3⟩, st', fun b hb => (hf b hb).1⟩⟩
  · intro X hP hw hK hc i pins s σ H E I hf st hg
    subst hP hw hK
    obtain ⟨F, hi⟩ := hg
    obtain ⟨f0, f1, f2, f3, f4, f5⟩ := hf it (by simp)
    obtain ⟨hd, _⟩ := F.of I.hok
    obtain ⟨hs, _⟩ := F.at hod
    exact wpAny_pyNext_keys_end_raw (I.ok.hd hc) st ⟨o, hd, F.exact', hod⟩ (by omega) fun h' eb => ⟨rfl, I.turned (t' := s.toks) (fun b ob hb e => eb b ob hb e) f0 f1 f3 f4 f5⟩
/-- a dict of facts, walked -/
def iFacts (P : Program) (w : World) (te : TE) : TI := fun σ H R => te σ H fun x H1 => ∃ d o kvs, x = .ref d ∧ FDo P w H1 d o kvs ∧ R (ItF P w d o kvs) H1
theorem pi_facts {X : Cx} {e tg : Expr} {te : TE} (ha : PE X e te) : PI X tg e (iFacts X.prog X.w te) := by
  refine ⟨fun pins s σ H R I h => ?_⟩
  refine thn (ha.run pins s σ H _ I h) fun u s1 h1 => ?_
  obtain ⟨x, H1, I1, rx, d, o, kvs, rfl, F, q⟩ := h1
  obtain rfl : u = Value.ref d := rx
  obtain ⟨hd, _⟩ := F.of I1.hok
  obtain ⟨es, ep, xs, e1, e2, r⟩ := F.ent
  refine wpAny_pyIter_dict_raw F.sys ⟨o, hd, F.exact', e1⟩ ?_
  have fp : ∀ b ∈ [s1.heap.objs.size], FpOk X pins H1 b := fun b hb => by
    rw [List.mem_singleton.mp hb]
    exact I1.fpOk (Nat.le_refl _) (I1.hok.fresh (Nat.le_refl _))
  refine ⟨s1.heap.objs.size, _, _, _, H1, rfl, I1.kept (t' := s1.toks) fun b ob z => Heap.get?_push_of_some _ z, turn_facts s1.heap.objs.size e1, ?_, fp, q⟩
  exact ⟨_, Heap.get?_push_size _ rfl, rfl, rfl⟩
theorem walk_facts {P : Program} {w : World} {d : Addr} {o : Obj} {kvs : List (Fct × V)} : Walk (ItF P w d o kvs) kvs.length (fun H => FDo P w H d o kvs) (fun i H x H' => H' = H ∧ ∃ ka f v, x = .ref ka ∧ kvs[i]? = some (f, v) ∧ KeyAt H ka f) :=
  ⟨fun i H hi q => ⟨q, hi⟩, fun H q => ⟨q, rfl⟩, fun i H x H' hi q y => y⟩
end YjD
set_option Elab.async false
set_option linter.all false
set_option maxRecDepth 100000
set_option pp.maxSteps 1500
/-! The facts of a dict as a list, and sorted. -/
namespace YjD
open PySem PySem.Spec PyProof.Rows L2
/-- references to facts that stand in the heap -/
abbrev KeysAt (H : Hp) : List V → List Fct → Prop := Paired fun u f => ∃ ka, u = V.ref ka ∧ KeyAt H ka f
theorem KeysAt.mono {H H' : Hp} (s : Same H H') {us : List V} {fs : List Fct} (h : KeysAt H us fs) : KeysAt H' us fs := Paired.mapP h fun _ _ ⟨ka, e, k⟩ => ⟨ka, e, k.mono s⟩
theorem KeysAt.get {H : Hp} {us : List V} {fs : List Fct} (h : KeysAt H us fs) : ∀ {i : Nat} {v : V}, us[i]? = some v → ∃ ka f, v = .ref ka ∧ fs[i]? = some f ∧ KeyAt H ka f := by
  induction h with
  | nil =>
    intro i v e
    cases e
  | @cons u f us fs a t ih =>
    intro i v e
    cases i with
    | zero =>
      obtain ⟨ka, e2, k⟩ := a
      have e := Option.some.inj e
      exact ⟨ka, f, e.symm.trans e2, rfl, k⟩
    | succ i => exact ih (i := i) e
def factD (f : Fct) : PyData := .tuple [.str f.1, .tuple (f.2.map PyData.str)]
def sortF (fs : List Fct) : List Fct := fs.mergeSort (PySem.W.dataLe false factD)
theorem alike_strs : ∀ a b : List Str, PySem.W.alikeAll (a.map PyData.str) (b.map PyData.str) = true
  | [], _ => by simp [PySem.W.alikeAll]
  | _ :: _, [] => by simp [PySem.W.alikeAll]
  | x :: a, y :: b => by
    show PySem.W.alikeAll (PyData.str x :: a.map PyData.str) (PyData.str y :: b.map PyData.str) = true
    rw [PySem.W.alikeAll, alike_strs a b]
    simp [PySem.W.alike]
theorem alike_facts (f g : Fct) : PySem.W.alike (factD f) (factD g) = true := by
  unfold factD
  rw [PySem.W.alike, PySem.W.alikeAll, PySem.W.alikeAll, PySem.W.alikeAll, PySem.W.alike, PySem.W.alike, alike_strs]
  rfl
theorem depth_strs : ∀ n : List Str, PyData.depthAll (n.map PyData.str) = 0
  | [] => by simp [PyData.depthAll]
  | x :: n => by
    show PyData.depthAll (PyData.str x :: n.map PyData.str) = 0
    rw [PyData.depthAll, depth_strs n]
    simp [PyData.depth]
theorem depth_fact (f : Fct) : (factD f).depth = 2 := by
  unfold factD
  rw [PyData.depth, PyData.depthAll, PyData.depthAll, PyData.depthAll, PyData.depth, PyData.depth, depth_strs]
  rfl
theorem reads_strs {h : Heap} : ∀ {n : List Str} {us : List Value}, Vals (n.map V.str) us → ReadsAll h us (n.map PyData.str) []
  | [], _, r => by
    cases r
    exact .nil
  | x :: n, _, r => by
    cases r with
    | cons a t =>
      obtain ⟨k, rfl⟩ := (show ∃ t, _ = Value.str x t from a)
      exact ReadsAll.cons (as := []) (bs := []) (.str x k) (reads_strs t)
theorem reads_fact {P : Program} {w : World} {H : Hp} {h : Heap} {a : Addr} {f : Fct} (ok : HOk P w H h) (k : KeyAt H a f) : Reads h (.ref a) (factD f) [] := by
  obtain ⟨n, h1, h2⟩ := k
  obtain ⟨_, its, r, o, e1, e2, m, e3⟩ := (show ObjOk P w H h a _ from ok a _ h1)
  obtain ⟨_, jts, q, u, d1, d2, l, d3⟩ := (show ObjOk P w H h n _ from ok n _ h2)
  refine .tuple e1 e2 e3 ?_
  cases r with
  | cons r1 t1 =>
    cases t1 with
    | cons r2 t2 =>
      cases t2
      obtain ⟨k, rfl⟩ := (show ∃ t, _ = Value.str f.1 t from r1)
      obtain rfl := (show _ = Value.ref n from r2)
      refine ReadsAll.cons (as := []) (bs := []) (.str _ _) (ReadsAll.cons (as := []) (bs := []) (.tuple d1 d2 d3 ?_) .nil)
      exact reads_strs q
theorem sortF_perm (fs : List Fct) : (sortF fs).Perm fs := List.mergeSort_perm fs _
section
variable {X : Cx}
/-- the values that a walk of the keys has collected -/
theorem keys_of {P : Program} {w : World} {H : Hp} {d : Addr} {o : Obj} {kvs : List (Fct × V)} {es : Array DictEntry} {ep : Nat} {acc : Array Value} (F : FDo P w H d o kvs) (hod : o.data = .dict es ep)
    (hacc : PySem.ItemsOf (fun i v => ∃ hi : i < es.size, v = es[i].key) acc es.size) : ∃ us, Vals us acc.toList ∧ KeysAt H us (kvs.map (·.1)) := by
  obtain ⟨hs, hat⟩ := F.at hod
  obtain ⟨h1, h2⟩ := hacc
  have g : ∀ (vs : List Value) (fs : List Fct), vs.length = fs.length → (∀ (i : Nat) (v : Value) (f : Fct), vs[i]? = some v → fs[i]? = some f → ∃ ka, v = Value.ref ka ∧ KeyAt H ka f) → ∃ us, Vals us vs ∧ KeysAt H us fs := by
    intro vs
    induction vs with
    | nil =>
      intro fs e _
      cases fs with
      | nil => exact ⟨[], .nil, .nil⟩
      | cons f fs => cases e
    | cons v vs ih =>
      intro fs e k
      cases fs with
      | nil => cases e
      | cons f fs =>
        obtain ⟨ka, e1, k1⟩ := k 0 v f rfl rfl
        obtain ⟨us, r1, r2⟩ := ih fs (Nat.succ.inj e) fun i => k (i + 1)
        exact ⟨.ref ka :: us, .cons e1 r1, .cons ⟨ka, rfl, k1⟩ r2⟩
  refine g acc.toList (kvs.map (·.1)) ?_ fun i v f ev ef => ?_
  · rw [Array.length_toList, List.length_map, h1, hs]
  · rw [Array.getElem?_toList] at ev
    obtain ⟨hi, rfl⟩ := h2 i v ev
    obtain ⟨ka, f', v', e1, e2, e3, _⟩ := hat i hi
    rw [List.getElem?_map, e1] at ef
    have ef := Option.some.inj ef
    dsimp only at ef
    subst ef
    exact ⟨ka, e2, e3⟩
/-- list(d) -/
def rListF (P : Program) (w : World) : List V → Hp → VK → Prop := fun vs H Q => ∃ d kvs, vs = [V.ref d] ∧ FD P w H d kvs ∧ ∀ us p, H p = none → KeysAt H us (kvs.map (·.1)) → Q (.ref p) (upd H p (.lst us))
theorem call_listF (hc : X.calm = true) : CallR X (.type "list") (rListF X.prog X.w) := by
  intro pins s σ H vs us Q I r h
  obtain ⟨d, kvs, rfl, ⟨o, F⟩, q⟩ := h
  obtain ⟨u, rfl, ru⟩ := vals1 r
  obtain rfl : u = Value.ref d := ru
  obtain ⟨hd, _⟩ := F.of I.hok
  obtain ⟨es, ep, xs, e1, e2, _⟩ := F.ent
  have hs := (F.at e1).1
  refine PySem.W.kdl_call (PySem.KdlSrc.rawDict F.sys) (I.ok.hd hc) ⟨o, hd, F.exact', e1⟩ (by have := F.len; omega) fun h' tk acc c hk hn hacc => ?_
  obtain ⟨ks, k1, k2⟩ := keys_of F e1 hacc
  refine ⟨.ref s.heap.objs.size, upd H s.heap.objs.size (.lst ks), I.laid (t' := tk) hk (Nat.le_refl _) ?_, rfl, q ks _ (I.hok.fresh (Nat.le_refl _)) k2⟩
  refine ⟨?_, acc.toList, c, k1, ?_⟩
  · have := Paired.length k2
    rw [List.length_map] at this
    have := F.len
    omega
  · rw [Array.toArray_toList]
    exact hn
/-- sorted(d) -/
def rSortF (P : Program) (w : World) : List V → Hp → VK → Prop := fun vs H Q => ∃ d kvs, vs = [V.ref d] ∧ FD P w H d kvs ∧ ∀ us p, H p = none → KeysAt H us (sortF (kvs.map (·.1))) → Q (.ref p) (upd H p (.lst us))
theorem each_paired {α β : Type} {F : α → β → Prop} : ∀ {l : List α} {m : List β}, PySem.W.EachIs F l m → Paired F l m
  | _, _, .nil => .nil
  | _, _, .cons a t => .cons a (each_paired t)
theorem cr_sortF (hc : X.calm = true) (hu : X.A.units + 64 < cLine) : CallR X (.builtin "sorted") (rSortF X.prog X.w) := by
  intro pins s σ H vs us Q I r h
  obtain ⟨d, kvs, rfl, ⟨o, F⟩, q⟩ := h
  obtain ⟨u, rfl, ru⟩ := vals1 r
  obtain rfl : u = Value.ref d := ru
  obtain ⟨hd, _⟩ := F.of I.hok
  obtain ⟨es, ep, xs, e1, e2, _⟩ := F.ent
  have hs := (F.at e1).1
  have hlen := F.len
  refine Calls.call_function_entry PyProof.Rows.kind_sorted PyProof.Rows.plain_sorted PyProof.Rows.entry_sorted (PyProof.Rows.args_sorted1 _) ?_
  unfold Builtin.«sorted»
  refine wpAny_bind (m := checkCount "sorted" 1 1 _) (wpAny_pure ?_)
  refine wpAny_bind (PySem.W.kdu_collect (A := X.A.in1) (PySem.KdlSrc.rawDict F.sys) (I.ok.hd hc) ⟨o, hd, F.exact', e1⟩ (by omega) fun h' tk acc hk hacc => ?_)
  obtain ⟨ks, k1, k2⟩ := keys_of F e1 hacc
  have I1 : Inv X pins σ H { s with heap := h', toks := tk } := I.kept hk
  have hal : acc.toList.length = kvs.length := by rw [Array.length_toList, hacc.1, hs]
  refine wpAny_bind (wpAny_newList ?_ (by omega))
  have hoL : (h'.push (seqObj "list" acc.toList.toArray 0)).get? h'.objs.size = some (seqObj "list" acc.toList.toArray 0) := Heap.get?_push_size _ rfl
  show wpAny _ _ _ _ _ { s with heap := h'.push (seqObj "list" acc.toList.toArray 0), toks := tk }
  have old : ∀ b ob, h'.get? b = some ob → (h'.push (seqObj "list" acc.toList.toArray 0)).get? b = some ob := fun b ob e => Heap.get?_push_of_some _ e
  have each : ∀ {R : Value → Fct → Prop}, (∀ v ka f, KeyAt H ka f → v = .ref ka → R v f) → PySem.W.EachIs R acc.toList (kvs.map (·.1)) := by
    intro R hR
    have g : ∀ {us : List V} {vs : List Value} {fs : List Fct}, Vals us vs → KeysAt H us fs → PySem.W.EachIs R vs fs := by
      intro us vs fs a b
      induction b generalizing vs with
      | nil =>
        cases a
        exact .nil
      | cons x t ih =>
        cases a with
        | cons a1 a2 =>
          obtain ⟨ka, rfl, kk⟩ := x
          exact .cons (hR _ ka _ kk a1) (ih a2)
    exact g k1 k2
  refine wpAny_bind (wpAny_holding ?_)
  refine PySem.W.list_sort_data (s := { s with heap := h'.push (seqObj "list" acc.toList.toArray 0), toks := tk }) (bs := kvs.map (·.1)) (enc := factD) (R := fun v f => ∃ ka, v = Value.ref ka ∧ KeyAt H ka f) hoL
    (each fun v ka f kk e => ⟨ka, e, kk⟩) (each fun v ka f kk e => ⟨[], by rw [e]; exact PyProof.Rows.Reads.keeps old (reads_fact I1.hok kk), List.not_mem_nil⟩) (PySem.W.AllAlike.of alike_facts) (PySem.W.Sortable.tuples fun f => ⟨_, _, rfl⟩) (by rw [List.length_map]; omega)
    (fun f _ => by rw [depth_fact]; show X.A.units + 1 + 1 + 2 < cLine; omega) fun out ho hout => ?_
  obtain ⟨c, hc'⟩ := PyProof.Rows.sortedHeap_at (vs := acc.toList) (out := List.toArray out) hoL
  have back : ∀ {vs : List Value} {fs : List Fct}, PySem.W.EachIs (fun v f => ∃ ka, v = Value.ref ka ∧ KeyAt H ka f) vs fs → ∃ us, Vals us vs ∧ KeysAt H us fs := by
    intro vs fs a
    induction a with
    | nil => exact ⟨[], .nil, .nil⟩
    | cons a t ih =>
      obtain ⟨us, r1, r2⟩ := ih
      obtain ⟨ka, rfl, kk⟩ := a
      exact ⟨.ref ka :: us, .cons rfl r1, .cons ⟨ka, rfl, kk⟩ r2⟩
  obtain ⟨us, u1, u2⟩ := back hout
  have hz : us.length ≤ sizeLine := by
    have h1 := Paired.length u1
    rw [List.length_map] at ho
    omega
  refine wpAny_pure ⟨_, rfl, .ref h'.objs.size, upd H h'.objs.size (.lst us), I1.laid (t' := tk) (fun b u e => ?_) (Nat.le_refl _) ⟨hz, out, c, u1, hc'⟩, rfl, q us _ (I1.hok.fresh (Nat.le_refl _)) u2⟩
  have hb : b < h'.objs.size := Heap.lt_size e
  rw [PyProof.Rows.sortedHeap_old (Nat.ne_of_lt hb) (by rw [size_push']; exact Nat.lt_succ_of_lt hb)]
  exact old _ _ e
end
end YjD
set_option Elab.async false
set_option linter.all false
set_option maxRecDepth 100000
set_option maxHeartbeats 1000000
set_option pp.maxSteps 1500
/-! {fact: value for .. in .. if ..} -/
namespace YjD
open PySem PySem.Spec PyProof.Rows L2
/-- one turn's end: the pair is stored, or there was none -/
def FcEnd (P : Program) (w : World) (D : Addr) (tk tv : TE) (Nx : Hp → Prop) (σ : L2.St) (b : Bool) (H : Hp) : Prop :=
  if b = true then tk σ H fun y H4 => tv σ H4 fun z H5 => ∃ kvs a f, y = .ref a ∧ FD P w H5 D kvs ∧ KeyAt H5 a f ∧ kvs.length < sizeLine ∧ ∀ o', FD P w (upd H5 D o') D (putK kvs f z) → Nx (upd H5 D o') else Nx H
/-- what is left to show of the turns: W says what holds ahead of the i-th -/
def FcTurns (P : Program) (w : World) (D : Addr) (J : It) (g : TG) (tt : TT) (tk tv : TE) (vs : List Nat) (σ : L2.St) (Qd : Hp → Prop) (W : Nat → Nat → Hp → Prop) : Prop :=
  ∀ i m H, W i m H → (J.stop i H ∧ Qd H) ∨ (J.go i H ∧ ∃ Nx : Hp → Prop, (∀ H', Nx H' → ∃ m', m' < m ∧ W (i + 1) m' H') ∧
    ∀ x H', J.yld i H x H' → g x (wipe σ vs) H' fun σ2 H2 => wipe σ2 vs = wipe σ vs ∧ tt σ2 H2 (FcEnd P w D tk tv Nx σ2))
def tFc (P : Program) (w : World) (wi : TI) (g : TG) (tt : TT) (tk tv : TE) (vs : List Nat) : TE := fun σ H Q =>
  wi σ H fun J H1 => ∀ D o0, H1 D = none → FD P w (upd H1 D o0) D [] → ∃ W : Nat → Nat → Hp → Prop, (∃ m, W 0 m (upd H1 D o0)) ∧ FcTurns P w D J g tt tk tv vs σ (Q (.ref D)) W
section
variable {X : Cx} {kx vx tg iter : Expr} {ifs : List Expr} {scope : Scope} {own : List (Str × Nat)} {pos pos' : Pos} {wi : TI} {g : TG} {tt : TT} {tk tv : TE}
/-- the parts of the comprehension, each read in the comprehension's own frame -/
structure FcParts (X : Cx) (scope : Scope) (tg kx vx : Expr) (ifs : List Expr) (g : TG) (tt : TT) (tk tv : TE) : Prop where
  pg : ∀ (s : Shared) (H : Hp) (C : Addr) (cl : List (Str × Addr)) (fp : List Addr), PG (X.blk s H scope (compEnvC scope cl C X.env) fp) tg g
  pt : ∀ (s : Shared) (H : Hp) (C : Addr) (cl : List (Str × Addr)) (fp : List Addr), PTs (X.blk s H scope (compEnvC scope cl C X.env) fp) ifs tt
  pk : ∀ (s : Shared) (H : Hp) (C : Addr) (cl : List (Str × Addr)) (fp : List Addr), PE (X.blk s H scope (compEnvC scope cl C X.env) fp) kx tk
  pv : ∀ (s : Shared) (H : Hp) (C : Addr) (cl : List (Str × Addr)) (fp : List Addr), PE (X.blk s H scope (compEnvC scope cl C X.env) fp) vx tv
/-- the loop, in its frame B: from W at the start to Qd at the end -/
theorem fc_loop {B : Cx} {pins : List (Addr × Obj)} {J : It} {fp : List Addr} {it D C : Addr} {tn : Nat → Heap → Prop} {W : Nat → Nat → Hp → Prop} {σ : L2.St} {Qd : Hp → Prop} {R : Result → Shared → Prop} {ce : Env} {vs : List Nat} {s3 : Shared} {H3 : Hp}
    (hB : B = X.blk s3 H3 scope ce fp) (hc : X.calm = true) (hu : X.A.units + 64 < cLine) (T : Turn X.prog X.w X.K tg J fp it tn) (pg : PG B tg g) (pt : PTs B ifs tt) (pk : PE B kx tk) (pv : PE B vx tv)
    (turns : FcTurns X.prog X.w D J g tt tk tv vs σ Qd W)
    (hx : ∀ {σ' : L2.St} {H' : Hp} {s' : Shared}, Inv B [] σ' H' s' → (∀ b ∈ fp, H' b = none) → ∀ b ∈ fp, FpOk B [] H' b) (hend : ∀ s' H', Inv B [] (wipe σ vs) H' s' → Qd H' → R (.ok .next) s')
    {n : Nat} {s4 : Shared} {H4 : Hp} (I4 : Inv B [] (wipe σ vs) H4 s4) (st4 : tn 0 s4.heap) (n4 : ∀ b ∈ fp, H4 b = none) (w4 : W 0 n H4) :
    codeAny (model X.prog X.w) X.A (.compLoop (.DictComp kx vx [⟨tg, iter, ifs, 0⟩] scope pos) 0 (.ref it) (.ref D) ce) R s4 := by
  subst hB
  refine L2.compLoop_anyD (fun n s' => ∃ i H', Inv (X.blk s3 H3 scope ce fp) [] (wipe σ vs) H' s' ∧ tn i s'.heap ∧ (∀ b ∈ fp, H' b = none) ∧ W i n H') (fun n s5 z => ?_) n ⟨0, H4, I4, st4, n4, w4⟩
  obtain ⟨i, H5, I5, st5, n5, w5⟩ := z
  rcases turns i n H5 w5 with ⟨stop, qd⟩ | ⟨go, Nx, hNx, step⟩
  · refine thnF (T.done (X.blk s3 H3 scope ce fp) rfl rfl rfl hc i [] s5 _ H5 (fun _ _ => False) I5 (hx I5 n5) st5 stop) ?_
    rintro r s6 ⟨rfl, I6⟩
    exact hend s6 H5 I6 qd
  refine thnF (T.item (X.blk s3 H3 scope ce fp) rfl rfl rfl hc i [] s5 _ H5 (fun _ _ => False) I5 (hx I5 n5) st5 go) ?_
  rintro r s6 ⟨u, rfl, h6⟩
  refine thnF h6 ?_
  rintro _ s7 ⟨x, H7, I7, r7, y7, st7, n7⟩
  have P7 := I7.pinned (hx I7 n7) (T.obj _ _ st7)
  refine thnF (pg.run _ s7 _ H7 x u _ P7 r7 (step x H7 y7)) ?_
  rintro _ s8 ⟨σ8, H8, I8, hw, q8⟩
  refine thnF (pt.run _ s8 σ8 H8 _ I8 q8) ?_
  rintro b s9 ⟨H9, I9, q9⟩
  have ended : ∀ {s' : Shared} {H' : Hp}, Inv (X.blk s3 H3 scope ce fp) ([] ++ pinsAt fp s7.heap) σ8 H' s' → Nx H' →
      ∃ m, m < n ∧ ∃ i H', Inv (X.blk s3 H3 scope ce fp) [] (wipe σ vs) H' s' ∧ tn i s'.heap ∧ (∀ b ∈ fp, H' b = none) ∧ W i m H' := by
    intro s' H' J' nx
    obtain ⟨m', hm, w'⟩ := hNx H' nx
    have still : ∀ b ∈ fp, ∀ o, s7.heap.get? b = some o → s'.heap.get? b = some o ∧ H' b = none := by
      intro b hb o e
      have z := J'.pin (b, o) (List.mem_append_right _ (List.mem_append_right _ (mem_pinsAt hb e)))
      exact ⟨z.1, z.2.1⟩
    refine ⟨m', hm, i + 1, H', (J'.unpinned (pins := [])).weak (by rw [← hw, wipe_length]) (fun j v e => ?_), T.keep _ _ _ st7 fun b hb o e => (still b hb o e).1, fun b hb => ?_, w'⟩
    · rw [← hw] at e
      exact (wipe_some e).1
    · obtain ⟨o, e, _⟩ := T.obj _ _ st7 b hb
      exact (still b hb o e).2
  unfold FcEnd at q9
  cases b with
  | false => exact ended I9 q9
  | true =>
    refine thnF (pk.run _ s9 σ8 H9 _ I9 q9) ?_
    rintro zk s10 ⟨yk, H10, I10, r10, q10⟩
    refine thnF (pv.run _ s10 σ8 H10 _ I10 q10) ?_
    rintro zv s11 ⟨yv, H11, I11, r11, kvs, a, f, rfl, F11, K11, hl, nx⟩
    obtain rfl : zk = Value.ref a := r10
    obtain ⟨xs, rr, DD⟩ := F11.of I11.hok
    have e := Paired.length rr
    refine wpAny_dictSet_heap (hsz := by omega) (by show X.A.units + 8 < cLine; omega) (fact_is I11.hok K11) DD fun h' D' hs => ?_
    obtain ⟨o', I', F'⟩ := FD.stored (X := X.blk s3 H3 scope ce fp) (t' := s11.toks + (nestedKind X.prog X.w).draws (keyF f)) I11 F11 K11 r11 hl rr D' hs
    exact ended I' (nx o' F')
/-- up to the loop: the new dict, the comprehension's own frame -/
theorem fc_core {pins : List (Addr × Obj)} {s : Shared} {σ : L2.St} {H : Hp} {Q : VK} {use : Option (Value → Sem Unit)} {Qf : Value → Shared → Prop}
    (hc : X.calm = true) (hu : X.A.units + 64 < cLine) (hN : X.N.Nodup) (I : Inv X pins σ H s) (hi : PI X tg iter wi) (ok : BlkOk X.N X.env.scope scope own) (G : FcParts X scope tg kx vx ifs g tt tk tv)
    (hs : ∀ x, foldedSetIterable iter X.env x = pure x) (h : tFc X.prog X.w wi g tt tk tv (own.map (·.2)) σ H Q)
    (hRR : ∀ D C s' m H', Inv X pins σ H' s' → Q (.ref D) H' → s'.heap.Ns C m → FpOk X pins H' C → compPost (model X.prog X.w) X.A X.xe use Qf (.ref D) C (.ok .next) s') :
    wpAny (model X.prog X.w) X.A (comprehension (.DictComp kx vx [⟨tg, iter, ifs, 0⟩] scope pos) scope X.env pos' newDict false (eval iter X.env) use) Qf X.xe s := by
  have bound : ∀ y ∈ scope.names, y.2 = .free → ∃ c, X.env.cells.lookup y.1 = some c := by
    intro y hy e
    rcases ok.free y hy e with k | k
    · exact I.ok.has _ (.inl k)
    · exact I.ok.has _ (.inr k)
  have walked := thn (hi.run pins s σ H _ I h) (Q' := fun v s1 => wpAny (model X.prog X.w) X.A (pyIter v) (PIE X pins σ tg (fun J H1 => ∀ D o0, H1 D = none → FD X.prog X.w (upd H1 D o0) D [] → ∃ W : Nat → Nat → Hp → Prop, (∃ m, W 0 m (upd H1 D o0)) ∧ FcTurns X.prog X.w D J g tt tk tv (own.map (·.2)) σ (Q (.ref D)) W)) X.xe s1) fun _ _ z => z
  refine wpAny_comprehension_free (use := use) rfl hs (closure_ok bound) ok.kind (fun y hy e => by rw [ok.uniq y hy, e]) (thn walked fun xv s1 hx => thn hx fun itv s2 h2 => ?_)
  obtain ⟨it, fp, tn, J, H2, rfl, I2, T, st2, f2, q⟩ := h2
  have fresh : H2 s2.heap.objs.size = none := I2.hok.fresh (Nat.le_refl _)
  obtain ⟨W, ⟨m0, w0⟩, turns⟩ := q _ _ fresh (fd_empty I2.big)
  have I3 : Inv X pins σ (upd H2 s2.heap.objs.size (obO s2.heap.objs.size newO)) { s2 with heap := s2.heap.push newO } :=
    I2.laid (t' := s2.toks) (fun _ _ e => Heap.get?_push_of_some _ e) (Nat.le_refl _) (ob_new (Heap.get?_push_size _ rfl))
  have old : ∀ b ∈ fp, b < s2.heap.objs.size := by
    intro b hb
    obtain ⟨o, e, _⟩ := T.obj _ _ st2 b hb
    exact Heap.lt_size e
  have f3 : ∀ b ∈ fp, FpOk X pins (upd H2 s2.heap.objs.size (obO s2.heap.objs.size newO)) b ∧ b < (s2.heap.push newO).objs.size := by
    intro b hb
    have lt := old b hb
    refine ⟨⟨?_, (f2 b hb).2⟩, by rw [Heap.size_push]; exact Nat.lt_succ_of_lt lt⟩
    rw [upd_ne (Nat.ne_of_lt lt)]
    exact (f2 b hb).1
  have st3 : tn 0 (s2.heap.push newO) := T.keep _ _ _ st2 fun b _ o e => Heap.get?_push_of_some _ e
  refine wpAny_newObj_type (newEnv_comp ?_)
  show codeAny _ _ (.compStart (.DictComp kx vx [⟨tg, iter, ifs, 0⟩] scope pos) 0 (.ref it) (.ref s2.heap.objs.size) (compEnvC scope (cellsFrom ((s2.heap.push newO).objs.size + 1) scope.names (cloFrom X.env.cells scope.names [])) (s2.heap.push newO).objs.size X.env))
    (compPost (model X.prog X.w) X.A X.xe use Qf (.ref s2.heap.objs.size) (s2.heap.push newO).objs.size) { s2 with heap := pushCells ((s2.heap.push newO).push { cls := .type "dict", data := .dict #[] }) scope.names }
  generalize hs3 : ({ s2 with heap := s2.heap.push newO } : Shared) = s3 at I3
  have h3 : s3.heap = s2.heap.push newO := by rw [← hs3]
  rw [← h3] at f3 st3 ⊢
  generalize s2.heap.objs.size = D at *
  generalize hH3 : upd H2 D (obO D newO) = H3 at I3 f3 w0
  have I4 := block_start I3 ok hN f3
  have pg := G.pg s3 H3 s3.heap.objs.size (cellsFrom (s3.heap.objs.size + 1) scope.names (cloFrom X.env.cells scope.names [])) fp
  have pt := G.pt s3 H3 s3.heap.objs.size (cellsFrom (s3.heap.objs.size + 1) scope.names (cloFrom X.env.cells scope.names [])) fp
  have pk := G.pk s3 H3 s3.heap.objs.size (cellsFrom (s3.heap.objs.size + 1) scope.names (cloFrom X.env.cells scope.names [])) fp
  have pv := G.pv s3 H3 s3.heap.objs.size (cellsFrom (s3.heap.objs.size + 1) scope.names (cloFrom X.env.cells scope.names [])) fp
  generalize hce : compEnvC scope (cellsFrom (s3.heap.objs.size + 1) scope.names (cloFrom X.env.cells scope.names [])) s3.heap.objs.size X.env = ce at I4 pg pt pk pv ⊢
  have cL : ce.locals = s3.heap.objs.size := by
    rw [← hce]
    rfl
  have e4 : ({ s2 with heap := pushCells (s3.heap.push { cls := .type "dict", data := .dict #[] }) scope.names } : Shared) = { s3 with heap := pushCells (s3.heap.push { cls := .type "dict", data := .dict #[] }) scope.names } := by rw [← hs3]
  rw [e4]
  have st4 : tn 0 (pushCells (s3.heap.push { cls := .type "dict", data := .dict #[] }) scope.names) := T.keep _ _ _ st3 fun b _ o e => pushCells_keeps _ _ _ _ (Heap.get?_push_of_some _ e)
  have mine : ∀ {σ' : L2.St} {H' : Hp} {s' : Shared}, Inv (X.blk s3 H3 scope ce fp) [] σ' H' s' → (∀ b ∈ fp, H' b = none) → ∀ b ∈ fp, FpOk (X.blk s3 H3 scope ce fp) [] H' b := by
    intro σ' H' s' J' n b hb
    exact ⟨n b hb, (J'.ok.exf b hb).1, J'.ok.exfs b hb, .inl hb, fun x c e => (J'.ok.exf b hb).2 x c e, fun p hp => nomatch (show p ∈ ([] : List (Addr × Obj)) ++ [] from hp)⟩
  have out : ∀ s' H', Inv (X.blk s3 H3 scope ce fp) [] (wipe σ (own.map (·.2))) H' s' → Q (.ref D) H' → compPost (model X.prog X.w) X.A X.xe use Qf (.ref D) s3.heap.objs.size (.ok .next) s' := by
    intro s' H' J' qd
    have back : Inv X pins σ H' s' := I3.call' (ch := fp) J'.os J'.base J'.hok J'.bare fun b hb => ⟨(f3 b hb).1.2.2.2.1, (f3 b hb).1.2.1, (f3 b hb).1.2.2.2.2.1, (f3 b hb).1.2.2.2.2.2⟩
    have nC : H' s3.heap.objs.size = none := by
      have z : H' ce.locals = none := J'.free
      rw [cL] at z
      exact z
    obtain ⟨m, hn, _⟩ := J'.loc
    have hn : s'.heap.Ns ce.locals m := hn
    rw [cL] at hn
    exact hRR D _ s' m H' back qd hn (I3.fpOk (Nat.le_refl _) nC)
  have loop := fc_loop (C := s3.heap.objs.size) (pins := pins) (kx := kx) (vx := vx) (tg := tg) (iter := iter) (ifs := ifs) (scope := scope) (pos := pos) (D := D) (it := it) rfl hc hu T pg pt pk pv turns mine out I4 st4 (fun b hb => (f3 b hb).1.1) w0
  exact codeAny_compStart_dict loop (T.self X.A 0 _ _ _ st4 loop)
/-- as a value -/
theorem pe_fc (hc : X.calm = true) (hu : X.A.units + 64 < cLine) (hN : X.N.Nodup) (hi : PI X tg iter wi) (ok : BlkOk X.N X.env.scope scope own) (G : FcParts X scope tg kx vx ifs g tt tk tv) (hs : ∀ x, foldedSetIterable iter X.env x = pure x := by intro _; rfl) :
    PE X (.DictComp kx vx [⟨tg, iter, ifs, 0⟩] scope pos) (tFc X.prog X.w wi g tt tk tv (own.map (·.2))) := by
  refine ⟨fun pins s σ H Q I h => ?_⟩
  rw [arm_eval_DictComp]
  refine fc_core hc hu hN I hi ok G hs h fun D C s' m H' J q hn f => ⟨m, hn, fun h'' sb => ?_⟩
  obtain ⟨f0, f1, f2, f3, f4, f5⟩ := f
  exact ⟨.ref D, H', J.turned (t' := s'.toks) (fun b o hb e => (sb.2 b hb).trans e) f0 f1 f3 f4 f5, rfl, q⟩
/-- the turns of a comprehension over a walk, by what holds ahead of each -/
theorem fc_it {J : It} {n : Nat} {Gd : Hp → Prop} {Y : Nat → Hp → V → Hp → Prop} (w : Walk J n Gd Y) {P : Program} {wd : World} {vs : List Nat} {σ : L2.St} {H1 : Hp} {D : Addr} {Qd : Hp → Prop} (Pv : Nat → Hp → Prop) (h0 : Pv 0 H1) (hG : ∀ i H, i ≤ n → Pv i H → Gd H)
    (hs : ∀ i x H H', i < n → Pv i H → Y i H x H' → g x (wipe σ vs) H' fun σ2 H2 => wipe σ2 vs = wipe σ vs ∧ tt σ2 H2 (FcEnd P wd D tk tv (Pv (i + 1)) σ2)) (hd : ∀ H, Pv n H → Qd H) :
    ∃ W : Nat → Nat → Hp → Prop, (∃ m, W 0 m H1) ∧ FcTurns P wd D J g tt tk tv vs σ Qd W := by
  refine ⟨fun i m H => m = n - i ∧ i ≤ n ∧ Pv i H, ⟨n, rfl, Nat.zero_le _, h0⟩, ?_⟩
  rintro i m H ⟨rfl, hi, p⟩
  have gd := hG i H hi p
  by_cases lt : i < n
  · refine .inr ⟨w.1 i H lt gd, Pv (i + 1), fun H' p' => ⟨n - (i + 1), by omega, rfl, lt, p'⟩, fun x H' y => ?_⟩
    exact hs i x H H' lt p (w.3 i H x H' lt gd y)
  · have e : i = n := by omega
    subst e
    exact .inl ⟨w.2 H gd, hd H p⟩
end
end YjD
set_option Elab.async false
set_option linter.all false
set_option maxRecDepth 100000
set_option maxHeartbeats 1000000
set_option pp.maxSteps 1500
/-! name = {fact: value for ..}; == of dicts of facts. -/
namespace YjD
open PySem PySem.Spec PyProof.Rows L2
section
variable {X : Cx} {kx vx tg iter : Expr} {ifs : List Expr} {scope : Scope} {own : List (Str × Nat)} {pos spos py : Pos} {wi : TI} {g : TG} {tt : TT} {tk tv : TE} {i : Nat} {y : Str}
theorem ps_setFc (hc : X.calm = true) (hu : X.A.units + 64 < cLine) (hN : X.N.Nodup) (hy : X.N[i]? = some y) (hyl : X.env.scope.names.lookup y = some .local)
    (hsw : swapsWith (.DictComp kx vx [⟨tg, iter, ifs, 0⟩] scope pos) (some (.Name y py)) spos.line X.env = pure true) (hi : PI X tg iter wi) (ok : BlkOk X.N X.env.scope scope own) (G : FcParts X scope tg kx vx ifs g tt tk tv)
    (hs : ∀ x, foldedSetIterable iter X.env x = pure x := by intro _; rfl) :
    PS X (.Assign [.Name y py] (.DictComp kx vx [⟨tg, iter, ifs, 0⟩] scope pos) spos) (tAsg (tFc X.prog X.w wi g tt tk tv (own.map (·.2))) (gName i)) := by
  refine ⟨fun pins s σ H D I h => ?_⟩
  have h0 : tFc X.prog X.w wi g tt tk tv (own.map (·.2)) σ H (fun x H1 => gName i x σ H1 D.nx) := h
  have stored : ∀ L C s' m H', Inv X pins σ H' s' → gName i (V.ref L) σ H' D.nx → s'.heap.Ns C m → FpOk X pins H' C →
      compPost (model X.prog X.w) X.A X.xe (some (assign (.Name y py) X.env)) (fun _ s' => SP X pins D .next s') (.ref L) C (.ok .next) s' := by
    intro L C s' m H' J q hn f
    obtain ⟨f0, f1, f2, f3, f4, f5⟩ := f
    show wpAny _ _ (assign (.Name y py) X.env (.ref L)) _ _ _
    refine wpAny_assign_Name (store_ok2 (v := V.ref L) J hN hy (.inl hyl) rfl (fun s2 I2 z => ?_) (.inr hyl))
    obtain ⟨a, sb, ha⟩ := z
    have apart : C ≠ a := by
      rcases ha with z | z
      · rw [z]
        exact f1
      · exact fun e => f4 y a z e.symm
    refine ⟨m, hn.sameBut sb apart, fun h3 sb3 => ?_⟩
    exact ⟨_, H', I2.turned (t' := s2.toks) (fun b o hb e => (sb3.2 b hb).trans e) f0 f1 f3 f4 f5, q⟩
  rw [exec_Assign_Name_used _ _ _ _ hsw]
  refine wpAny_bind (wpAny_standAt (wpAny_bind ?_))
  refine wpAny_bind (thn (fc_core (use := some (assign (.Name y py) X.env)) (pos' := firstIterPos [⟨tg, iter, ifs, 0⟩] pos) hc hu hN I hi ok G hs h0 stored) fun _ s' hq => ?_)
  exact wpAny_pure (wpAny_pure hq)
theorem sw_dc {env : Env} {l : Nat} (kd : env.scope.kind = .function) (lo : env.scope.names.lookup y = some .local) (ln : (py.line == pos.line) = true)
    (no : (scope.names.any fun (n, k) => n == y && (k == .local || k == .cell)) = false) : swapsWith (.DictComp kx vx [⟨tg, iter, ifs, 0⟩] scope pos) (some (.Name y py)) l env = pure true := by
  have k1 : env.kindOf y = some .local := lo
  have k2 : env.blockKind = .function := by
    unfold Env.blockKind
    rw [kd]
    rfl
  unfold swapsWith
  simp only [k2, k1, no, Expr.pos, ln]
  rfl
end
end YjD
set_option Elab.async false
set_option linter.all false
set_option maxRecDepth 100000
set_option maxHeartbeats 1000000
set_option pp.maxSteps 1500
/-! == of dicts of facts. -/
namespace YjD
open PySem PySem.Spec PyProof.Rows L2
section
variable {prog : Program} {w : World} {A : Around} {E : Value → Shared → Prop} {s : Shared} {T : Type} [DecidableEq T] {knd : HeapKind prog w T}
/-- all pairs of one are the other's: e tells of each key whether both values are equal -/
def allIn (xb : List (T × Addr × Value)) (e : T → Bool) (xa : List (T × Addr × Value)) : Bool := xa.all fun x => (atKey xb x.1).isSome && e x.1
theorem pairs_facts {nm : String} {a b : Addr} {xa xb : List (T × Addr × Value)} {e : T → Bool} {Q : Bool → Shared → Prop} (ha : (a == sysModules) = false) (hb : (b == sysModules) = false) (hu : knd.room A) (da : s.heap.DictOfH knd a xa) (db : s.heap.DictOfH knd b xb)
    (eq : ∀ x ∈ xa, ∀ p, atKey xb x.1 = some p → SeqAt.EqP prog w A s x.2.2 p.2 (e x.1)) (h : Q (xa.length == xb.length && allIn xb e xa) s) : wpAny (model prog w) A (Builtin.Dict.samePairs nm a b) Q E s := by
  obtain ⟨oa, es, ep, hoa, _, hda, hea, hia, hna⟩ := da
  obtain ⟨ob, es', ep', hob, _, hdb, heb, hib, hnb⟩ := db
  have la := size_of_entries hea
  have lb := size_of_entries heb
  rw [← la, ← lb] at h
  unfold Builtin.Dict.samePairs Builtin.Dict.showsAll
  rw [if_neg (by rw [ha]; exact Bool.false_ne_true), if_neg (by rw [hb]; exact Bool.false_ne_true)]
  refine wpAny_bind (wpAny_pure (wpAny_bind (wpAny_pure (wpAny_bind (wpAny_dictEntries hoa hda ?_)))))
  dsimp only
  refine wpAny_bind (wpAny_dictEntries hob hdb ?_)
  by_cases hsz : es.size = es'.size
  case neg =>
    rw [if_pos (by simpa using hsz)]
    rw [show (es.size == es'.size) = false by simpa using hsz, Bool.false_and] at h
    exact wpAny_bind (wpAny_rule (wpAny_pure h))
  rw [show (es.size == es'.size) = true by simpa using hsz, Bool.true_and] at h
  rw [if_neg (by rw [hsz]; simp)]
  refine wpAny_bind (wpAny_dictEpoch hoa hda (wpAny_bind ?_))
  rw [Std.Legacy.Range.forIn_eq_forIn_range']
  simp only [Std.Legacy.Range.size, Nat.sub_zero, Nat.add_sub_cancel, Nat.div_one]
  have cut : ∀ {x i : Nat} {rest : List Nat}, x :: rest = List.range' i (es.size - i) → i < es.size ∧ x = i ∧ rest = List.range' (i + 1) (es.size - (i + 1)) := by
    intro x i rest hr
    have lt : i < es.size := by
      rcases Nat.lt_or_ge i es.size with z | z
      · exact z
      · rw [Nat.sub_eq_zero_of_le z] at hr
        cases hr
    rw [show es.size - i = (es.size - (i + 1)) + 1 by omega, List.range'_succ] at hr
    injection hr with h1 h2
    exact ⟨lt, h1, h2⟩
  refine wpAny_forIn_list _ (fun rest q s' => s' = s ∧ q = (none, ()) ∧ ∃ i, rest = List.range' i (es.size - i) ∧ i ≤ es.size ∧ Q (allIn xb e (xa.drop i)) s) _ ?_ ?_ _ _ ⟨rfl, rfl, 0, by simp, Nat.zero_le _, h⟩
  · rintro x rest q s' ⟨rfl, rfl, i, hr, hi, hq⟩
    obtain ⟨lt, rfl, hrest⟩ := cut hr
    have lt' : x < xa.length := by omega
    have hx : xa[x]? = some xa[x] := List.getElem?_eq_getElem lt'
    have ent := entry_at hea x
    rw [Array.getElem?_eq_getElem lt, hx, Option.map_some] at ent
    have ent := Option.some.inj ent
    rw [List.drop_eq_getElem_cons lt'] at hq
    have memx : xa[x] ∈ xa := List.getElem_mem lt'
    refine wpAny_bind (wpAny_dictEntries hoa hda ?_)
    rw [Array.getElem?_eq_getElem lt]
    show wpAny _ _ (holding [es[x].key, es[x].val] _ >>= _) _ _ _
    rw [ent]
    generalize xa[x] = y at hq memx
    have step : ∀ p, atKey xb y.1 = some p → SeqAt.EqP prog w A s' y.2.2 p.2 (e y.1) := eq y memx
    refine wpAny_bind (wpAny_holding (wpAny_bind ?_))
    show wpAny _ _ (dictFind b (.ref y.2.1) (knd.hash y.1)) _ _ _
    refine wpAny_dictFind_heap hu (hia y memx) hob hdb heb hib hnb (fun hno => ?_) (fun j p hj => ?_)
    · refine wpAny_pure ?_
      show wpAny _ _ (if (!false) = true then _ else _) _ _ _
      rw [if_pos (by decide)]
      have z : allIn xb e (y :: xa.drop (x + 1)) = false := by
        show ((atKey xb y.1).isSome && e y.1 && _) = false
        rw [atKey_none_of_get hno]
        rfl
      rw [z] at hq
      exact wpAny_pure (wpAny_pure hq)
    · have hp := atKey_of_get hnb hj
      refine wpAny_bind (wpAny_dictEntries hob hdb ?_)
      have ent2 := entry_at heb j
      rw [hj, Option.map_some] at ent2
      rw [ent2]
      refine wpAny_holding (step p hp _ _ ?_)
      have z : allIn xb e (y :: xa.drop (x + 1)) = (e y.1 && allIn xb e (xa.drop (x + 1))) := by
        show ((atKey xb y.1).isSome && e y.1 && _) = _
        rw [hp]
        rfl
      rw [z] at hq
      cases ee : e y.1 with
      | false =>
        rw [ee, Bool.false_and] at hq
        show wpAny _ _ (if (!false) = true then _ else _) _ _ _
        rw [if_pos (by decide)]
        exact wpAny_pure (wpAny_pure hq)
      | true =>
        rw [ee, Bool.true_and] at hq
        show wpAny _ _ (if (!true) = true then _ else _) _ _ _
        rw [if_neg (by decide)]
        refine wpAny_bind (wpAny_dictEpoch hoa hda ?_)
        rw [if_neg (by simp)]
        exact wpAny_pure ⟨rfl, rfl, x + 1, hrest, lt, hq⟩
  · rintro q s' ⟨rfl, rfl, i, hr, hi, hq⟩
    have full : i = es.size := by
      rcases Nat.lt_or_ge i es.size with z | z
      · rw [show es.size - i = (es.size - (i + 1)) + 1 by omega, List.range'_succ] at hr
        cases hr
      · exact Nat.le_antisymm hi z
    refine wpAny_pure ?_
    rw [full, la, List.drop_length] at hq
    exact hq
/-- what == and != answer, whichever it is -/
theorem cmp_facts {a b : Addr} {xa xb : List (T × Addr × Value)} {e : T → Bool} {Q : Value → Shared → Prop} (ha : (a == sysModules) = false) (hb : (b == sysModules) = false) (hr : knd.room A.in1) (hu : A.units < cLine) (da : s.heap.DictOfH knd a xa) (db : s.heap.DictOfH knd b xb)
    (eq : ∀ x ∈ xa, ∀ p, atKey xb x.1 = some p → SeqAt.EqP prog w A.in1 s x.2.2 p.2 (e x.1)) :
    (Q (.bool (xa.length == xb.length && allIn xb e xa)) s → wpAny (model prog w) A (compareOp .Eq (.ref a) (.ref b)) Q E s) ∧
    (Q (.bool (!(xa.length == xb.length && allIn xb e xa))) s → wpAny (model prog w) A (compareOp .NotEq (.ref a) (.ref b)) Q E s) := by
  constructor
  · intro h
    refine wpAny_richCompare_same_room (op := .Eq) da.typeIs db.typeIs PySem.F.slot_dict_eq (wpAny_call_entry PySem.F.slot_dict_eq da.typeIs PySem.F.entry_dict_eq ?_ (PySem.F.args_dict_eq_2 _ _)) hu
    show wpAny _ _ (Builtin.Dict.dictSlotArgs "__eq__" ⟨[.ref a, .ref b], []⟩ >>= _) _ _ s
    unfold Builtin.Dict.dictSlotArgs
    refine wpAny_bind (wpAny_bind (wpAny_notOrdered_dict da.typeIs ?_))
    show wpAny _ _ (pure (Value.ref a, Value.ref b)) _ _ s
    refine wpAny_pure (wpAny_bind (wpAny_isInstance (T := "dict") db.typeIs PySem.F.sub_dict_dict ?_))
    simp only [Bool.not_true, Bool.false_eq_true, if_false]
    refine wpAny_bind (wpAny_pure (wpAny_bind (wpAny_pure (wpAny_bind (pairs_facts ha hb hr da db eq ?_)))))
    exact wpAny_pure ⟨_, rfl, (fun x => nomatch x), by simpa using h⟩
  · intro h
    refine wpAny_richCompare_same_room (op := .NotEq) da.typeIs db.typeIs PySem.F.slot_dict_ne (wpAny_call_entry PySem.F.slot_dict_ne da.typeIs PySem.F.entry_dict_ne ?_ (PySem.F.args_dict_ne_2 _ _)) hu
    show wpAny _ _ (Builtin.Dict.dictSlotArgs "__ne__" ⟨[.ref a, .ref b], []⟩ >>= _) _ _ s
    unfold Builtin.Dict.dictSlotArgs
    refine wpAny_bind (wpAny_bind (wpAny_notOrdered_dict da.typeIs ?_))
    show wpAny _ _ (pure (Value.ref a, Value.ref b)) _ _ s
    refine wpAny_pure (wpAny_bind (wpAny_isInstance (T := "dict") db.typeIs PySem.F.sub_dict_dict ?_))
    simp only [Bool.not_true, Bool.false_eq_true, if_false]
    refine wpAny_bind (wpAny_pure (wpAny_bind (wpAny_pure (wpAny_bind (pairs_facts ha hb hr da db eq ?_)))))
    exact wpAny_pure ⟨_, rfl, (fun x => nomatch x), by simpa using h⟩
end
theorem room128 {k : Nat} {A : Around} (r : Room k A) : A.units + 128 < cLine := by
  have := r.un
  omega
/-- whether two dicts of facts are equal, their values by data -/
def eqF (ka kb : List (Fct × V)) (da db : Fct → PyData) : Bool := ka.length == kb.length && ka.all fun p => (valV kb p.1).isSome && PyData.eqv (da p.1) (db p.1)
/-- the values of a dict of facts, as data -/
def DataF (K : PySem.W.Frag) (H : Hp) (ka : List (Fct × V)) (da : Fct → PyData) : Prop := ∀ p ∈ ka, Dp K H p.2 (da p.1) ∧ SeqAt.shaped (da p.1) = true
def rEqF (P : Program) (w : World) (K : PySem.W.Frag) (neg : Bool) : R2 := fun x y H Q => ∃ a b ka kb da db, x = .ref a ∧ y = .ref b ∧ FD P w H a ka ∧ FD P w H b kb ∧ DataF K H ka da ∧ DataF K H kb db ∧ Q (.bl (if neg then !eqF ka kb da db else eqF ka kb da db)) H
theorem valV_in {ka : List (Fct × V)} {f : Fct} {v : V} (h : valV ka f = some v) : (f, v) ∈ ka := by
  induction ka with
  | nil => cases h
  | cons p ps ih =>
    by_cases e : p.1 = f
    · rw [valV_pos e] at h
      have h := Option.some.inj h
      rw [← e, ← h]
      exact List.mem_cons_self ..
    · rw [valV_neg e] at h
      exact List.mem_cons_of_mem _ (ih h)
theorem FR.mem {H : Hp} {kvs : List (Fct × V)} {xs : List (NestedKey × Addr × Value)} (r : FR H kvs xs) : ∀ x ∈ xs, ∃ p ∈ kvs, keyF p.1 = x.1 ∧ RelV p.2 x.2.2 := by
  induction r with
  | nil =>
    intro x hx
    cases hx
  | cons a t ih =>
    intro x hx
    rcases List.mem_cons.mp hx with e | hx
    · rw [e]
      exact ⟨_, List.mem_cons_self .., a.1, a.2.2⟩
    · obtain ⟨p, hp, h⟩ := ih x hx
      exact ⟨p, List.mem_cons_of_mem _ hp, h⟩
theorem allIn_facts {H : Hp} {ka kb : List (Fct × V)} {xa xb : List (NestedKey × Addr × Value)} {e : NestedKey → Bool} (ra : FR H ka xa) (rb : FR H kb xb) : allIn xb e xa = ka.all fun p => (valV kb p.1).isSome && e (keyF p.1) := by
  induction ra with
  | nil => rfl
  | @cons p q ps qs a t ih =>
    show ((atKey xb q.1).isSome && e q.1 && allIn xb e qs) = ((valV kb p.1).isSome && e (keyF p.1) && ps.all _)
    have z := (rb.val p.1).isSome_eq
    rw [Option.isSome_map] at z
    rw [ih, ← a.1, z]
open Classical in
theorem cmp_F {X : Cx} {pins : List (Addr × Obj)} {σ : L2.St} {H : Hp} {s : Shared} (hu : X.A.units + 128 < cLine) (I : Inv X pins σ H s) {a b : Addr} {ka kb : List (Fct × V)} {da db : Fct → PyData} {Q : Value → Shared → Prop} (Fa : FD X.prog X.w H a ka) (Fb : FD X.prog X.w H b kb) (Da : DataF X.K H ka da) (Db : DataF X.K H kb db) :
    (Q (.bool (eqF ka kb da db)) s → wpAny (model X.prog X.w) X.A (compareOp .Eq (.ref a) (.ref b)) Q X.xe s) ∧ (Q (.bool (!eqF ka kb da db)) s → wpAny (model X.prog X.w) X.A (compareOp .NotEq (.ref a) (.ref b)) Q X.xe s) := by
  obtain ⟨xa, ra, A1⟩ := Fa.of I.hok
  obtain ⟨xb, rb, B1⟩ := Fb.of I.hok
  obtain ⟨e, he⟩ : ∃ e : NestedKey → Bool, ∀ f, e (keyF f) = PyData.eqv (da f) (db f) := by
    refine ⟨fun k => if h : ∃ f, keyF f = k then PyData.eqv (da h.choose) (db h.choose) else false, fun f => ?_⟩
    have h : ∃ g, keyF g = keyF f := ⟨f, rfl⟩
    dsimp only
    rw [dif_pos h, keyF_inj h.choose_spec]
  have e1 : (xa.length == xb.length && allIn xb e xa) = eqF ka kb da db := by
    unfold eqF
    rw [allIn_facts ra rb, Paired.length ra, Paired.length rb]
    congr 1
    refine congrArg _ (funext fun p => ?_)
    rw [he]
  rw [← e1]
  refine cmp_facts Fa.sys Fb.sys (by show X.A.units + 1 + 8 < cLine; omega) (by omega) A1 B1 fun x hx p hp => ?_
  obtain ⟨q, hq, k1, r1⟩ := ra.mem x hx
  have z := rb.val q.1
  rw [k1, hp] at z
  obtain ⟨v, hv, r2⟩ : ∃ v, valV kb q.1 = some v ∧ RelV v p.2 := by
    cases ev : valV kb q.1 with
    | none =>
      rw [ev] at z
      exact z.elim
    | some v =>
      rw [ev] at z
      exact ⟨v, rfl, z⟩
  obtain ⟨d1, s1⟩ := Da q hq
  obtain ⟨d2, s2⟩ := Db _ (valV_in hv)
  obtain ⟨as, w1⟩ := Dp.reads I _ q.2 _ d1 r1
  obtain ⟨bs, w2⟩ := Dp.reads I _ v _ d2 r2
  rw [← k1, he]
  exact (PySem.W.keq_at (A := X.A) w1 w2 s1 s2 (by show X.A.units + 1 + 64 < cLine; omega)).eqP
section
variable {X : Cx}
theorem op_eqF (hu : X.A.units + 128 < cLine) : OpR X (compareOp .Eq) (rEqF X.prog X.w X.K false) := by
  intro pins s σ H x y v u Q I rx ry h
  obtain ⟨a, b, ka, kb, da, db, rfl, rfl, Fa, Fb, Da, Db, q⟩ := h
  obtain rfl : v = Value.ref a := rx
  obtain rfl : u = Value.ref b := ry
  exact (cmp_F hu I Fa Fb Da Db).1 ⟨.bl _, H, I, rfl, q⟩
theorem op_neF (hu : X.A.units + 128 < cLine) : OpR X (compareOp .NotEq) (rEqF X.prog X.w X.K true) := by
  intro pins s σ H x y v u Q I rx ry h
  obtain ⟨a, b, ka, kb, da, db, rfl, rfl, Fa, Fb, Da, Db, q⟩ := h
  obtain rfl : v = Value.ref a := rx
  obtain rfl : u = Value.ref b := ry
  exact (cmp_F hu I Fa Fb Da Db).2 ⟨.bl _, H, I, rfl, q⟩
end
end YjD
set_option Elab.async false
set_option linter.all false
set_option maxRecDepth 100000
set_option maxHeartbeats 1000000
set_option pp.maxSteps 1500
/-! The same rules by names of the program, the world and the written part: for a comprehension's block. -/
namespace YjD
open PySem PySem.Spec PyProof.Rows L2
section
variable {X : Cx} {P : Program} {w : World} {K : PySem.W.Frag} {a e k tg : Expr} {ta te tk : TE} {pos apos cpos : Pos} {f : Str}
theorem pe_fldK (he : PE X e ta) (hb : attributeBase e f X.env (eval e X.env) = eval e X.env) (hK : X.K = K := by rfl) : PE X (.Attribute e f pos) (tFld K ta f) := by
  subst hK
  exact pe_fld he hb
theorem pe_fgetK (hu : X.A.units + 64 < cLine) (ho : PE X a ta) (hi : PE X k tk) (hs : NoSl k) (hP : X.prog = P := by rfl) (hw : X.w = w := by rfl) : PE X (.Subscript a k pos) (tFGet P w ta tk) := by
  subst hP hw
  exact pe_fget hu ho hi hs
theorem pe_forK (hu : X.A.units + 64 < cLine) (ho : PE X a ta) (hk : PE X k tk) (he : PE X e te) (m : M2 X a "get" apos k e cpos) (hP : X.prog = P := by rfl) (hw : X.w = w := by rfl) : PE X (.Call (.Attribute a "get" apos) [k, e] [] cpos) (tFOr P w ta tk te) := by
  subst hP hw
  exact pe_for hu ho hk he m
theorem op_inFK (hu : X.A.units + 64 < cLine) (hP : X.prog = P := by rfl) (hw : X.w = w := by rfl) : OpR X (compareOp .In) (rInF P w false) := by
  subst hP hw
  exact op_inF hu
theorem op_eqDK (hu : X.A.units + 64 < cLine) (hK : X.K = K := by rfl) : OpR X (compareOp .Eq) (rEqD K) := by
  subst hK
  exact op_eqD hu
theorem op_neDK (hu : X.A.units + 64 < cLine) (hK : X.K = K := by rfl) : OpR X (compareOp .NotEq) (rNeD K) := by
  subst hK
  exact op_neD hu
theorem op_inDK (hu : X.A.units + 65 < cLine) (hK : X.K = K := by rfl) : OpR X (compareOp .In) (rInD K) := by
  subst hK
  exact op_inD hu
theorem pi_factsK (ha : PE X e te) (hP : X.prog = P := by rfl) (hw : X.w = w := by rfl) : PI X tg e (iFacts P w te) := by
  subst hP hw
  exact pi_facts ha
theorem set_factK (hu : X.A.units + 64 < cLine) (hP : X.prog = P := by rfl) (hw : X.w = w := by rfl) : PSet X (tSetF P w) := by
  subst hP hw
  exact set_fact hu
theorem cr_sortFK (hc : X.calm = true) (hu : X.A.units + 64 < cLine) (hP : X.prog = P := by rfl) (hw : X.w = w := by rfl) : CallR X (.builtin "sorted") (rSortF P w) := by
  subst hP hw
  exact cr_sortF hc hu
theorem call_listFK (hc : X.calm = true) (hP : X.prog = P := by rfl) (hw : X.w = w := by rfl) : CallR X (.type "list") (rListF P w) := by
  subst hP hw
  exact call_listF hc
theorem op_eqFK (hu : X.A.units + 128 < cLine) (hP : X.prog = P := by rfl) (hw : X.w = w := by rfl) (hK : X.K = K := by rfl) : OpR X (compareOp .Eq) (rEqF P w K false) := by
  subst hP hw hK
  exact op_eqF hu
theorem op_neFK (hu : X.A.units + 128 < cLine) (hP : X.prog = P := by rfl) (hw : X.w = w := by rfl) (hK : X.K = K := by rfl) : OpR X (compareOp .NotEq) (rEqF P w K true) := by
  subst hP hw hK
  exact op_neF hu
theorem call_isiKK (hK : X.K = K := by rfl) : CallR X (.builtin "isinstance") (rIsi K) := by
  subst hK
  exact call_isi
end
/-- a room for all of these rules -/
theorem room65 {k : Nat} {A : Around} (r : Room k A) : A.units + 65 < cLine := by
  have := r.un
  omega
end YjD
set_option Elab.async false
set_option linter.all false
set_option maxRecDepth 100000
set_option maxHeartbeats 1000000
set_option pp.maxSteps 1500
/-! A class with its own __eq__. -/
namespace YjD
open PySem PySem.Spec PyProof.Rows L2
/-- what the top has left of a class at C whose __eq__ is the def at f, and that has no __ne__ of its own -/
structure OwnEq (K : PySem.W.Frag) (C f : Addr) : Prop where
  at_ : PySem.W.findIn K (.ref C) "__eq__" = some (some (.ref f))
  fn : PySem.W.isFn K (.ref f) = true
  nf : PySem.W.notFirst K C (.ref C) = true
  nd : PySem.W.notFirst K C (.type "dict") = true
  ne : PySem.W.findIn K (.ref C) "__ne__" = some (some (.builtin "object.__ne__"))
  ob : PySem.W.mroIn K C (.type "object") = some true
/-- the turns of a dict comprehension with keys that are texts or ints, over a walk, by what holds ahead of each -/
theorem dc_it {J : It} {n : Nat} {Gd : Hp → Prop} {Y : Nat → Hp → V → Hp → Prop} (wk : Walk J n Gd Y) {g : TG} {tt : TT} {tk tv : TE} {vs : List Nat} {σ : L2.St} {H1 : Hp} {D : Addr} {Qd : Hp → Prop} (Pv : Nat → Hp → Prop) (h0 : Pv 0 (upd H1 D (.dK []))) (hG : ∀ i H, i ≤ n → Pv i H → Gd H)
    (hs : ∀ i x H H', i < n → Pv i H → Y i H x H' → g x (wipe σ vs) H' fun σ2 H2 => wipe σ2 vs = wipe σ vs ∧ tt σ2 H2 fun b H3 =>
      if b = true then tk σ2 H3 fun y H4 => tv σ2 H4 fun z H5 => ∃ kvs k, y = kV k ∧ H5 D = some (.dK kvs) ∧ kvs.length < sizeLine ∧ Pv (i + 1) (upd H5 D (.dK (putK kvs k z))) else Pv (i + 1) H3) (hd : ∀ H, Pv n H → Qd H) :
    ∃ W : Nat → Nat → Hp → Prop, (∃ m, W 0 m (upd H1 D (.dK []))) ∧ ∀ i m H, W i m H →
      (J.stop i H ∧ Qd H) ∨ (J.go i H ∧ ∃ Nx : Hp → Prop, (∀ H', Nx H' → ∃ m', m' < m ∧ W (i + 1) m' H') ∧ ∀ x H', J.yld i H x H' → g x (wipe σ vs) H' fun σ2 H2 => wipe σ2 vs = wipe σ vs ∧ tt σ2 H2 fun b H3 =>
        if b = true then tk σ2 H3 fun y H4 => tv σ2 H4 fun z H5 => ∃ kvs k, y = kV k ∧ H5 D = some (.dK kvs) ∧ kvs.length < sizeLine ∧ Nx (upd H5 D (.dK (putK kvs k z))) else Nx H3) := by
  refine ⟨fun i m H => m = n - i ∧ i ≤ n ∧ Pv i H, ⟨n, rfl, Nat.zero_le _, h0⟩, ?_⟩
  rintro i m H ⟨rfl, hi, p⟩
  have gd := hG i H hi p
  by_cases lt : i < n
  · refine .inr ⟨wk.goes i H lt gd, Pv (i + 1), fun H' p' => ⟨n - (i + 1), by omega, rfl, lt, p'⟩, fun x H' y => ?_⟩
    exact hs i x H H' lt p (wk.yields i H x H' lt gd y)
  · have e : i = n := by omega
    subst e
    exact .inl ⟨wk.stops H gd, hd H p⟩
end YjD
set_option Elab.async false
set_option linter.all false
set_option maxRecDepth 100000
set_option maxHeartbeats 1000000
set_option pp.maxSteps 1500
/-! isinstance of a dict of facts; == and != of instances with an own __eq__; d.values(); a display of one fact. -/
namespace YjD
open PySem PySem.Spec PyProof.Rows L2
/-- isinstance(x, c), where x may be a dict of facts -/
def rIsiF (P : Program) (w : World) (K : PySem.W.Frag) : List V → Hp → VK → Prop := fun xs H Q => ∃ (x c : V) (t u : Value) (b : Bool), xs = [x, c] ∧ ClsV c u ∧ (TyX K H x t ∨ ∃ d kvs, x = .ref d ∧ FD P w H d kvs ∧ t = .type "dict") ∧ PySem.W.kitOne K t u = some b ∧ Q (.bl b) H
section
variable {X : Cx}
theorem call_isiF : CallR X (.builtin "isinstance") (rIsiF X.prog X.w X.K) := by
  intro pins s σ H xs us Q I r h
  obtain ⟨x, c, t, u, b, rfl, k, ty, e, q⟩ := h
  rcases ty with ty | ⟨d, kvs, rfl, F, rfl⟩
  · exact call_isi pins s σ H _ us Q I r ⟨x, c, t, u, b, rfl, k, ty, e, q⟩
  · obtain ⟨v, z, rfl, r1, r2⟩ := vals2 r
    obtain rfl : v = Value.ref d := r1
    obtain rfl := k.eq r2
    obtain ⟨_, _, D⟩ := F.of I.hok
    obtain ⟨o, _, _, h1, h2, _⟩ := D
    exact PySem.W.kia_one PySem.W.kitx_dict I.kIn ⟨o, h1, h2.1⟩ e (fun z => nomatch z) fun tk => ⟨.bl b, H, I.tok tk, rfl, q⟩
theorem call_isiFK {P : Program} {w : World} {K : PySem.W.Frag} (hP : X.prog = P := by rfl) (hw : X.w = w := by rfl) (hK : X.K = K := by rfl) : CallR X (.builtin "isinstance") (rIsiF P w K) := by
  subst hP hw hK
  exact call_isiF
/-! ### == and != by an own __eq__ -/
/-- the operand on the right: an instance of the same class, or a dict of facts -/
def RightOp (P : Program) (w : World) (C : Addr) (dct : Bool) (H : Hp) (y : V) : Prop := (∃ b dx fs, y = .ref b ∧ H b = some (.ins C dx fs)) ∨ (dct = true ∧ ∃ d kvs, y = .ref d ∧ FD P w H d kvs)
def rOwn (P : Program) (w : World) (C : Addr) (sp : Sp) (neg : Bool) : R2 := fun x y H Q => ∃ a dx fs, x = .ref a ∧ H a = some (.ins C dx fs) ∧ RightOp P w C (!neg) H y ∧ sp [x, y] H (fun v H' => ∃ r, v = .bl r ∧ Q (.bl (if neg then !r else r)) H') E0
theorem looks_cls {M : Model} {h : Heap} {a : Addr} {o : Obj} (e : h.get? a = some o) : PySem.W.Looks M h (typeOf (.ref a)) o.cls := (PySem.W.Looks.ld e).andThen .now
variable {k : Nat} {C f : Addr} {fd : FuncData} {ps : List Str} {sp : Sp}
/-- the call of the own __eq__, somewhere below -/
theorem own_call (F : FnOk X.prog X.w X.K X.mg X.base CX0 k f fd ps sp) (hb : Binds X.K fd ps []) {A : Around} (hr : Room k A) (hA : A.frames = X.A.frames) {pins : List (Addr × Obj)} {σ : L2.St} {H : Hp} {s : Shared} (I : Inv X pins σ H s) {x y : V} {u v : Value} (rx : RelV x u) (ry : RelV y v) {Q : VK} {R : Value → Shared → Prop}
    (h : sp [x, y] H Q E0) (hR : ∀ z H' w s', Inv X pins σ H' s' → RelV z w → Q z H' → R w s') : wpAny (model X.prog X.w) A (call (.ref f) [u, v]) R X.xe s := by
  have e0 : Env0 X.prog X.w X.K X.mg X.base A X.stack s H := by
    have e := I.env0
    exact ⟨by rw [hA]; exact e.frames, e.mod, e.bs, e.bsz, e.funs, e.frf, e.hok, e.bare⟩
  have hl := F.len _ _ _ _ h
  have bd := hb s [u, v] I.kIn (by simpa using hl)
  rw [List.append_nil] at bd
  refine wpAny_call (codeAny_mono (F.run A X.stack s H ⟨[u, v], []⟩ [u, v] [x, y] Q E0 hr e0 bd (.cons rx (.cons ry .nil)) h) fun r s' hq => ?_)
  cases r with
  | error e => exact pass0 pins σ H s e s' I hq
  | ok fl =>
    cases fl with
    | ret z =>
      obtain ⟨zz, H', I', rz, ez⟩ := I.after hq
      exact hR zz H' z s' I' rz ez
    | next => exact False.elim hq
    | brk => exact False.elim hq
    | cont => exact False.elim hq
theorem right_looks {dct : Bool} (O : OwnEq X.K C f) {pins : List (Addr × Obj)} {σ : L2.St} {H : Hp} {s : Shared} (I : Inv X pins σ H s) {y : V} {v : Value} (ry : RelV y v) (h : RightOp X.prog X.w C dct H y) :
    ∃ t, PySem.W.Looks (model X.prog X.w) s.heap (typeOf v) t ∧ PySem.W.notFirst X.K C t = true ∧ (dct = false → t = .ref C) := by
  rcases h with ⟨b, dx, fs, rfl, hb⟩ | ⟨e, d, kvs, rfl, F⟩
  · obtain rfl : v = Value.ref b := ry
    obtain ⟨mB, J, _⟩ := ins_get I.hok hb
    obtain ⟨od, J, _⟩ := J.look
    exact ⟨.ref C, J.type, O.nf, fun _ => rfl⟩
  · obtain rfl : v = Value.ref d := ry
    obtain ⟨_, _, D⟩ := F.of I.hok
    obtain ⟨o, _, _, h1, h2, _⟩ := D
    refine ⟨.type "dict", ?_, O.nd, fun z => ?_⟩
    · have z := looks_cls (M := model X.prog X.w) h1
      rw [h2.1] at z
      exact z
    · rw [e] at z
      cases z
theorem op_own (O : OwnEq X.K C f) (F : FnOk X.prog X.w X.K X.mg X.base CX0 k f fd ps sp) (hb : Binds X.K fd ps []) (hr : Room k X.A) : OpR X (compareOp .Eq) (rOwn X.prog X.w C sp false) := by
  intro pins s σ H x y v u Q I rx ry h
  obtain ⟨a, dx, fs, rfl, ha, hy, hsp⟩ := h
  obtain rfl : v = Value.ref a := rx
  obtain ⟨mA, J, _⟩ := ins_get I.hok ha
  obtain ⟨od, J, _⟩ := J.look
  obtain ⟨m, hF⟩ := I.fr
  obtain ⟨t, L, n, _⟩ := right_looks O I ry hy
  show wpAny (model X.prog X.w) X.A (richCompare .Eq (.ref a) u) (EP X pins σ Q) X.xe s
  refine PySem.W.cmp_K (op := .Eq) (tb := t) hr.units0 hF I.ok.mod.kin J L n O.at_ O.fn ?_
  refine own_call (x := .ref a) (u := .ref a) F hb hr rfl I rfl ry hsp fun z H' w s' I' rz hz => ?_
  obtain ⟨r, rfl, q⟩ := hz
  obtain rfl : w = Value.bool r := rz
  exact ⟨.bl r, H', I', rfl, q⟩
theorem op_nown (O : OwnEq X.K C f) (F : FnOk X.prog X.w X.K X.mg X.base CX0 k f fd ps sp) (hb : Binds X.K fd ps []) (hr : Room (k + 1) X.A) : OpR X (compareOp .NotEq) (rOwn X.prog X.w C sp true) := by
  intro pins s σ H x y v u Q I rx ry h
  obtain ⟨a, dx, fs, rfl, ha, hy, hsp⟩ := h
  obtain rfl : v = Value.ref a := rx
  obtain ⟨mA, J, _⟩ := ins_get I.hok ha
  obtain ⟨od, J, _⟩ := J.look
  have KI := I.kIn
  obtain ⟨t, L, n, ht⟩ := right_looks O I ry hy
  obtain rfl := ht rfl
  show wpAny (model X.prog X.w) X.A (richCompare .NotEq (.ref a) u) (EP X pins σ Q) X.xe s
  have inner : wpAny (model X.prog X.w) X.A.in1 (Builtin.«object.__ne__» ⟨[.ref a, u], []⟩) (fun fin s' => ∃ r, fin = .done (.ret (.bool (!r))) ∧ EP X pins σ Q (.bool (!r)) s') X.xe s := by
    unfold Builtin.«object.__ne__»
    refine wpAny_bind (m := slotArgs "__ne__" 1 ⟨[.ref a, u], []⟩) (wpAny_pure ?_)
    refine wpAny_bind (wpAny_cRoomFor (hr.in1).units0 ?_)
    refine wpAny_bind (PySem.W.ifBound_K KI J O.at_ O.fn (own_call (x := .ref a) (u := .ref a) F hb hr.in1 rfl I rfl ry hsp fun z H' w s' I' rz hz => ?_))
    obtain ⟨r, rfl, q⟩ := hz
    obtain rfl : w = Value.bool r := rz
    refine wpAny_bind (wpAny_truthy_bool ?_)
    exact wpAny_pure ⟨r, rfl, .bl (!r), H', I', rfl, q⟩
  have isObj : PySem.W.Looks (model X.prog X.w) s.heap (isInstance (.ref a) (.type "object")) true := J.type.andThen (PySem.W.looks_mroIn KI O.ob)
  have called : wpAny (model X.prog X.w) X.A (call (.builtin "object.__ne__") [.ref a, u]) (fun v s' => ∃ r, v = .bool r ∧ EP X pins σ Q v s') X.xe s := by
    refine wpAny_call (codeAny_call_builtin PySem.F.cmp_object.ne.plain PySem.F.cmpEntry_ne (PySem.W.check_slot PySem.F.cmpKind_ne PySem.F.cmpSplit_ne isObj (PySem.F.cmpArgs_ne _ _) ?_))
    refine wpAny_mono inner (fun fin s' z => ?_) fun _ _ e => e
    obtain ⟨r, rfl, q⟩ := z
    exact ⟨_, rfl, q⟩
  have bound : wpAny (model X.prog X.w) X.A (callSpecialIfBound? (.ref a) "__ne__" [u]) (fun r s' => ∃ b, r = some (.bool b) ∧ EP X pins σ Q (.bool b) s') X.xe s := by
    simp only [callSpecialIfBound?, bindSpecialIfBound?]
    refine wpAny_holding (wpAny_bind (wpAny_bind (wpAny_bind (J.type.here ((PySem.W.looks_findIn KI O.ne).here ?_)))))
    simp only [PySem.F.cmp_object.ne.bind]
    refine wpAny_bind (wpAny_askSetting (wpAny_ite ?_))
    have fin : wpAny (model X.prog X.w) X.A (call (.builtin "object.__ne__") ([.ref a] ++ [u]) >>= fun v => pure (some v)) (fun r s' => ∃ b, r = some (.bool b) ∧ EP X pins σ Q (.bool b) s') X.xe s :=
      wpAny_bind (wpAny_mono called (fun v s' z => by obtain ⟨r, rfl, q⟩ := z; exact wpAny_pure ⟨r, rfl, q⟩) fun _ _ e => e)
    split
    · exact wpAny_bind (wpAny_pure (wpAny_pure fin))
    · exact wpAny_tryCatch (wpAny_bind (wpAny_pure (wpAny_pure fin)))
  have one : wpAny (model X.prog X.w) X.A (tryCompare (.ref a) "__ne__" u) (fun r s' => ∃ v, r = some v ∧ EP X pins σ Q v s') X.xe s := by
    unfold tryCompare
    refine wpAny_bind (wpAny_mono bound (fun r s' z => ?_) fun _ _ e => e)
    obtain ⟨b, rfl, q⟩ := z
    exact wpAny_pure ⟨_, rfl, q⟩
  unfold richCompare
  simp only [oneThing_ref]
  refine wpAny_holding (wpAny_bind (wpAny_cRoomFor hr.units0 ?_))
  refine wpAny_bind (J.type.here (wpAny_bind (L.here ?_)))
  rw [show (Value.ref C != Value.ref C) = false by simp]
  simp only [Bool.false_eq_true, if_false]
  refine wpAny_bind (wpAny_pure ?_)
  simp only [Bool.false_eq_true, if_false]
  refine wpAny_bind (wpAny_mono one (fun r s' z => ?_) fun _ _ e => e)
  obtain ⟨v, rfl, q⟩ := z
  exact wpAny_pure q
/-! ### d.values() -/
def viewV (d : Addr) : Obj := { cls := .type "dict_values", data := .fields #[.ref d] }
def tVals (P : Program) (w : World) (td : TE) : TE := fun σ H Q => td σ H fun x H1 => ∃ d kvs, x = .ref d ∧ FD P w H1 d kvs ∧ ∀ v, H1 v = none → Q (.ref v) (upd H1 v (obO v (viewV d)))
theorem pe_valuesF {e : Expr} {apos cpos : Pos} {td : TE} (he : PE X e td) (hbase : attributeBase e "values" X.env (eval e X.env) = eval e X.env := by rfl) (hline : (apos.endLine == cpos.line) = true := by rfl) :
    PE X (.Call (.Attribute e "values" apos) [] [] cpos) (tVals X.prog X.w td) := by
  refine ⟨fun pins s σ H Q I h => ?_⟩
  refine wpAny_Call_method0_late hbase hline (thn (he.run pins s σ H _ I h) fun v s1 z => ?_)
  obtain ⟨x, H1, I1, rx, d, kvs, rfl, ⟨o, F⟩, q⟩ := z
  obtain rfl : v = Value.ref d := rx
  obtain ⟨hd, _⟩ := F.of I1.hok
  obtain ⟨es, ep, xs, e1, _, _⟩ := F.ent
  have raw : s1.heap.DictRaw d es ep := ⟨o, hd, F.exact', e1⟩
  refine ⟨"dict", "dict.values", PySem.F.plainAttrs_dict, PySem.F.slot_dict_values, PySem.F.type_dict_values, raw.typeIs, fun b z => ?_, Calls.callWith_builtin rfl (PySem.evalArgs_none ?_)⟩
  · cases z
    exact ⟨o, hd, F.exact'.2.1⟩
  refine call_meetsIn PySem.F.slot_dict_values raw.typeIs PySem.F.entry_dict_values (PySem.F.args_dict_values_1 _) (PySem.meets_dict_values_raw d F.sys) ⟨⟨es, ep, raw⟩, ?_⟩
  exact ⟨.ref s1.heap.objs.size, upd H1 s1.heap.objs.size (obO s1.heap.objs.size (viewV d)), I1.laid (t' := s1.toks) (fun b u e => Heap.get?_push_of_some _ e) (Nat.le_refl _) (ob_new (Heap.get?_push_size _ rfl)), rfl, q _ (I1.hok.fresh (Nat.le_refl _))⟩
theorem vals_of {P : Program} {w : World} {H : Hp} {d : Addr} {o : Obj} {kvs : List (Fct × V)} {es : Array DictEntry} {ep : Nat} {acc : Array Value} (F : FDo P w H d o kvs) (hod : o.data = .dict es ep)
    (hacc : PySem.ItemsOf (fun i v => ∃ hi : i < es.size, v = es[i].val) acc es.size) : Vals (kvs.map (·.2)) acc.toList := by
  obtain ⟨hs, hat⟩ := F.at hod
  obtain ⟨h1, h2⟩ := hacc
  have g : ∀ (vs : List Value) (xs : List V), vs.length = xs.length → (∀ (i : Nat) (v : Value) (x : V), vs[i]? = some v → xs[i]? = some x → RelV x v) → Vals xs vs := by
    intro vs
    induction vs with
    | nil =>
      intro xs e _
      cases xs with
      | nil => exact .nil
      | cons x xs => cases e
    | cons v vs ih =>
      intro xs e k
      cases xs with
      | nil => cases e
      | cons x xs => exact .cons (k 0 v x rfl rfl) (ih xs (Nat.succ.inj e) fun i => k (i + 1))
  refine g acc.toList (kvs.map (·.2)) ?_ fun i v x ev ex => ?_
  · rw [Array.length_toList, List.length_map, h1, hs]
  · rw [Array.getElem?_toList] at ev
    obtain ⟨hi, rfl⟩ := h2 i v ev
    obtain ⟨ka, f', v', e1, _, _, e4⟩ := hat i hi
    rw [List.getElem?_map, e1] at ex
    obtain rfl := Option.some.inj ex
    exact e4
/-- list(d.values()) -/
def rListV (P : Program) (w : World) : List V → Hp → VK → Prop := fun vs H Q => ∃ v d kvs, vs = [V.ref v] ∧ H v = some (obO v (viewV d)) ∧ FD P w H d kvs ∧ ∀ p, H p = none → Q (.ref p) (upd H p (.lst (kvs.map (·.2))))
theorem call_listV (hc : X.calm = true) : CallR X (.type "list") (rListV X.prog X.w) := by
  intro pins s σ H vs us Q I r h
  obtain ⟨v, d, kvs, rfl, hv, ⟨o, F⟩, q⟩ := h
  obtain ⟨u, rfl, ru⟩ := vals1 r
  obtain rfl : u = Value.ref v := ru
  obtain ⟨hd, _⟩ := F.of I.hok
  obtain ⟨hview, _, _⟩ : ObjOk X.prog X.w H s.heap v (obO v (viewV d)) := I.hok v _ hv
  obtain ⟨es, ep, xs, e1, e2, _⟩ := F.ent
  have hs := (F.at e1).1
  refine PySem.W.kdl_call (PySem.KdlSrc.rawValues (r := v) (d := d)) (I.ok.hd hc) ⟨⟨viewV d, hview, rfl, rfl⟩, o, hd, F.exact', e1⟩ (by have := F.len; omega) fun h' tk acc c hk hn hacc => ?_
  have k1 := vals_of F e1 hacc
  refine ⟨.ref s.heap.objs.size, upd H s.heap.objs.size (.lst (kvs.map (·.2))), I.laid (t' := tk) hk (Nat.le_refl _) ?_, rfl, q _ (I.hok.fresh (Nat.le_refl _))⟩
  refine ⟨?_, acc.toList, c, k1, ?_⟩
  · rw [List.length_map]
    exact F.len
  · rw [Array.toArray_toList]
    exact hn
/-! ### {fact: value} -/
def tDisp1 (P : Program) (w : World) (tk tv : TE) : TE := fun σ H Q => ∀ d o, H d = none → FD P w (upd H d o) d [] → tk σ (upd H d o) fun y H1 => tv σ H1 fun z H2 => ∃ b f, y = .ref b ∧ FD P w H2 d [] ∧ KeyAt H2 b f ∧ ∀ o', FD P w (upd H2 d o') d [(f, z)] → Q (.ref d) (upd H2 d o')
end
/-! ### dict comprehensions, their parts one by one -/
section
variable {X : Cx} {kx vx tg iter : Expr} {ifs : List Expr} {scope : Scope} {own : List (Str × Nat)} {pos spos py : Pos} {wi : TI} {g : TG} {tt : TT} {tk tv : TE} {i : Nat} {y : Str}
theorem pe_fc4 (hc : X.calm = true) (hu : X.A.units + 64 < cLine) (hN : X.N.Nodup) (hi : PI X tg iter wi) (ok : BlkOk X.N X.env.scope scope own)
    (pg : ∀ (s : Shared) (H : Hp) (C : Addr) (cl : List (Str × Addr)) (fp : List Addr), PG (X.blk s H scope (compEnvC scope cl C X.env) fp) tg g) (pt : ∀ (s : Shared) (H : Hp) (C : Addr) (cl : List (Str × Addr)) (fp : List Addr), PTs (X.blk s H scope (compEnvC scope cl C X.env) fp) ifs tt)
    (pk : ∀ (s : Shared) (H : Hp) (C : Addr) (cl : List (Str × Addr)) (fp : List Addr), PE (X.blk s H scope (compEnvC scope cl C X.env) fp) kx tk) (pv : ∀ (s : Shared) (H : Hp) (C : Addr) (cl : List (Str × Addr)) (fp : List Addr), PE (X.blk s H scope (compEnvC scope cl C X.env) fp) vx tv)
    (hs : ∀ x, foldedSetIterable iter X.env x = pure x := by intro _; rfl) : PE X (.DictComp kx vx [⟨tg, iter, ifs, 0⟩] scope pos) (tFc X.prog X.w wi g tt tk tv (own.map (·.2))) := pe_fc hc hu hN hi ok ⟨pg, pt, pk, pv⟩ hs
theorem ps_setFc4 (hc : X.calm = true) (hu : X.A.units + 64 < cLine) (hN : X.N.Nodup) (hy : X.N[i]? = some y) (hyl : X.env.scope.names.lookup y = some .local)
    (hsw : swapsWith (.DictComp kx vx [⟨tg, iter, ifs, 0⟩] scope pos) (some (.Name y py)) spos.line X.env = pure true) (hi : PI X tg iter wi) (ok : BlkOk X.N X.env.scope scope own)
    (pg : ∀ (s : Shared) (H : Hp) (C : Addr) (cl : List (Str × Addr)) (fp : List Addr), PG (X.blk s H scope (compEnvC scope cl C X.env) fp) tg g) (pt : ∀ (s : Shared) (H : Hp) (C : Addr) (cl : List (Str × Addr)) (fp : List Addr), PTs (X.blk s H scope (compEnvC scope cl C X.env) fp) ifs tt)
    (pk : ∀ (s : Shared) (H : Hp) (C : Addr) (cl : List (Str × Addr)) (fp : List Addr), PE (X.blk s H scope (compEnvC scope cl C X.env) fp) kx tk) (pv : ∀ (s : Shared) (H : Hp) (C : Addr) (cl : List (Str × Addr)) (fp : List Addr), PE (X.blk s H scope (compEnvC scope cl C X.env) fp) vx tv)
    (hs : ∀ x, foldedSetIterable iter X.env x = pure x := by intro _; rfl) : PS X (.Assign [.Name y py] (.DictComp kx vx [⟨tg, iter, ifs, 0⟩] scope pos) spos) (tAsg (tFc X.prog X.w wi g tt tk tv (own.map (·.2))) (gName i)) := ps_setFc hc hu hN hy hyl hsw hi ok ⟨pg, pt, pk, pv⟩ hs
end
theorem pt_truthK {X : Cx} {K : PySem.W.Frag} {a : Expr} {ta : TE} (ha : PE X a ta) (he : ∀ whole, isTrue a X.env whole = (do let v ← whole; standAt a.pos; holding [v] (truthy v))) (hK : X.K = K := by rfl) :
    PT X a (fun σ H Q => ta σ H fun x H' => ∃ k, TruV K x H' k ∧ Q k H') := by
  subst hK
  exact pt_truth ha he
end YjD
set_option Elab.async false
set_option linter.all false
set_option maxRecDepth 100000
set_option maxHeartbeats 1000000
set_option pp.maxSteps 1500
/-! {fact: value}; isinstance with an own class. -/
namespace YjD
open PySem PySem.Spec PyProof.Rows L2
/-- what the top has left of the class at C, asked by isinstance -/
structure IsCls (K : PySem.W.Frag) (C : Addr) : Prop where
  ha : PySem.W.findIn K (.ref C) "__class__" = some (some (.builtin "object.__class__"))
  hn : PySem.W.specialIn K (.builtin "object.__class__") "__get__" = some (some (.builtin "getset_descriptor.__get__"))
  ht : PySem.W.takesIn K (.builtin "object.__class__") = some true
  hm : PySem.W.mroIn K C (.type "object") = some true
  me : PySem.W.kitOne K (.ref C) (.ref C) = some true
  dict : PySem.W.kitOne K (.type "dict") (.ref C) = some false
theorem IsCls.ty {K : PySem.W.Frag} {C : Addr} (z : IsCls K C) (cl : Cls K C) {H : Hp} {a dx : Addr} {fs : List (Str × V)} (e : H a = some (.ins C dx fs)) : TyX K H (.ref a) (.ref C) := .base (.ins e cl z.ha z.hn z.ht z.hm)
section
variable {X : Cx} {k v : Expr} {tk tv : TE} {pos : Pos}
theorem pe_fdisp1 (hu : X.A.units + 64 < cLine) (hk : PE X k tk) (hv : PE X v tv) : PE X (.Dict [some k] [v] pos) (tDisp1 X.prog X.w tk tv) := by
  refine ⟨fun pins s σ H Q I h => ?_⟩
  have hn := I.hok.fresh (Nat.le_refl s.heap.objs.size)
  have I1 := I.laid (a := s.heap.objs.size) (o := obO s.heap.objs.size newO) (h' := s.heap.push { cls := .type "dict", data := .dict #[] }) (t' := s.toks) (fun _ _ q => Heap.get?_push_of_some _ q) (Nat.le_refl _) (ob_new (Heap.get?_push_size _ rfl))
  have shape : (evalEachOpt [some k] X.env).zip ((evalEach [v] X.env).map fun v => do let x ← v; standAt pos; pure x) = [(eval k X.env, (do let x ← eval v X.env; standAt pos; pure x : Sem Value))].map fun p => (some p.1, p.2) := rfl
  rw [arm_eval_Dict, shape, dictDisplay_pairs _ (by simp) (by show 1 < 17; decide)]
  refine wpAny_bind (wpAny_standAt (wpAny_bind (wpAny_subDictH (knd := nestedKind X.prog X.w) (Q := fun d s' => wpAny (model X.prog X.w) X.A (pure (Value.ref d)) (EP X pins σ Q) X.xe s') (by show X.A.units + 8 < cLine; omega) (by show 1 ≤ 15; decide) ?_)))
  refine evalPairs_cons (thn (hk.run pins _ σ _ _ I1 (h _ _ hn (fd_empty I.big))) fun kv s1 z => ?_)
  obtain ⟨y, H1, I2, ry, q1⟩ := z
  refine wpAny_bind (thn (hv.run pins s1 σ H1 _ I2 q1) fun vv s2 z => ?_)
  obtain ⟨z, H2, I3, rz, b, f, rfl, F, K, q⟩ := z
  obtain rfl : kv = Value.ref b := ry
  refine wpAny_bind (wpAny_standAt (wpAny_pure (evalPairs_nil ?_)))
  obtain ⟨xs, rr, DD⟩ := F.of I3.hok
  cases rr
  refine ⟨[(keyF f, b, vv)], ⟨rfl, rfl, fact_is I3.hok K, trivial⟩, DD, fun h' tk D' hs => wpAny_pure ?_⟩
  obtain ⟨o', I', F'⟩ := FD.stored (t' := tk) I3 F K rz (by rw [sizeLine_eq]; show 0 < _; omega) .nil D' hs
  exact ⟨.ref _, _, I', rfl, q o' F'⟩
end
end YjD
set_option Elab.async false
set_option linter.all false
set_option maxRecDepth 100000
set_option maxHeartbeats 1000000
set_option pp.maxSteps 1500
/-! Methods and makings whose errors are handled: what is promised of an error may speak of the slots. -/
namespace YjD
open PySem PySem.Spec PyProof.Rows L2
section
variable {X : Cx} {CX : CXT} {k : Nat} {f C : Addr} {fd : FuncData} {ps : List Str} {sp : Sp} {Er : L2.St → XK} {x m : Str} {p pos apos : Pos} {e o : Expr} {es : List Expr} {ta : TE} {t : TA}
def tMethE (C : Addr) (m : Str) (sp : Sp) (Er : L2.St → XK) (ta : TE) (t : TA) : TE := fun σ H Q => ta σ H fun y H1 => ∃ a dx fs, y = .ref a ∧ H1 a = some (.ins C dx fs) ∧ fs.lookup m = none ∧ t σ H1 fun ys H2 => sp (y :: ys) H2 Q (Er σ)
theorem pe_methE {line : Sem Bool} (onit : PE X o ta) (c : Cls X.K C) (has : Meth X.K C m f) (F : FnOk X.prog X.w X.K X.mg X.base CX k f fd ps sp) (room : Room k X.A) (bind : Binds X.K fd ps []) (out : ∀ σ, PassesAt CX X σ (Er σ)) (args : PA X (e :: es) t)
    (h1 : starEach (e :: es) X.env = (false, eval e X.env) :: starEach es X.env := by rfl) (h2 : (backTo pos (starEach es X.env)).any (·.1) = false := by rfl)
    (h3 : eval (.Call (.Attribute o m apos) (e :: es) [] pos) X.env = (do
      let who ← eval o X.env
      standAt apos.atName
      let (g, one) ← holding [who] (getMethod who m line)
      callWith pos g one (backTo pos (starEach (e :: es) X.env)) (backToKw pos (keywordEach [] X.env))) := by rfl) : PE X (.Call (.Attribute o m apos) (e :: es) [] pos) (tMethE C m sp Er ta t) := by
  refine ⟨fun held s0 σ H Q I0 want => PySem.W.methodCall_KW (pl := line) (thn (onit.run held s0 σ H _ I0 want) fun u s1 got => ?_) h3⟩
  obtain ⟨y, H1, I1, ry, a, dx, fs, rfl, ea, none', rest⟩ := got
  obtain rfl : u = Value.ref a := ry
  refine getmeth_ok I1 ea c has none' (PySem.W.callWith_K (first := [.ref a]) (h₀ := X.base) I1.ok.mod.kin has.kp (thn (args.run pos held s1 σ H1 _ I1 rest) fun us s2 got => ?_) h1 h2)
  obtain ⟨ys, H2, I2, r, done⟩ := got
  exact ⟨I2.kIn, run_fnS (us := .ref a :: us) (vs := .ref a :: ys) F room bind (out σ) I2 (.cons rfl r) done⟩
def tMakeE (C : Addr) (sp : Sp) (Er : L2.St → XK) (t : TA) : TE := fun σ H Q => t σ H fun ys H1 => ∀ z dz, H1 z = none → H1 dz = none → dz ≠ z → sp (.ref z :: ys) (upd (upd H1 dz (.own z)) z (.ins C dz [])) (fun v H2 => v = .non ∧ Q (.ref z) H2) (Er σ)
theorem pe_makeE (M : Mk X.K C f) (F : FnOk X.prog X.w X.K X.mg X.base CX k f fd ps sp) (room : Room (k + 1) X.A) (free : Gl X x) (top : X.mg x = some (.ref C)) (bind : Binds X.K fd ps []) (out : ∀ σ, PassesAt CX X σ (Er σ)) (args : PA X (e :: es) t)
    (nd : (x == ("__debug__" : Str)) = false := by decide) (h1 : starEach (e :: es) X.env = (false, eval e X.env) :: starEach es X.env := by rfl) (h2 : (backTo pos (starEach es X.env)).any (·.1) = false := by rfl) : PE X (.Call (.Name x p) (e :: es) [] pos) (tMakeE C sp Er t) := by
  refine ⟨fun held s0 σ H Q I0 want => wpAny_Call_Name_kw (ld_glob I0 free top ?_ nd)⟩
  refine PySem.W.callWith_K (h₀ := X.base) I0.ok.mod.kin M.kp (thn (args.run pos held s0 σ H _ I0 want) fun us s got => ?_) h1 h2
  obtain ⟨ys, H1, I, r, rest⟩ := got
  refine ⟨I.kIn, ?_⟩
  have now := rest (s.heap.objs.size + 1) s.heap.objs.size (I.hok.fresh (Nat.le_succ _)) (I.hok.fresh (Nat.le_refl _)) (Nat.ne_of_lt (Nat.lt_succ_self _))
  have J := Inv.made (C := C) I
  have rr : Vals (V.ref (s.heap.objs.size + 1) :: ys) (Value.ref (s.heap.objs.size + 1) :: us) := .cons rfl r
  have count : ((Value.ref (s.heap.objs.size + 1) :: us) ++ []).length = ps.length := by
    have z := rr.length
    rw [F.len _ _ _ _ now] at z
    rw [List.append_nil]
    exact z.symm
  have bd := bind _ (Value.ref (s.heap.objs.size + 1) :: us) J.kIn count
  rw [List.append_nil] at bd
  refine wpAny_call (make_map (f := f) I.kIn M.makes M.init (beq_iff_eq.mp M.fn) (codeAny_mono (F.run _ X.stack _ _ ⟨Value.ref (s.heap.objs.size + 1) :: us, []⟩ _ _ _ (Er σ) (room.make C us []) (J.env0.make C us []) bd rr now) fun way s' got => ?_))
  match way, got with
  | .error err, got => exact out σ held _ _ err s' J got
  | .ok (.ret u), got =>
    obtain ⟨v, H', I3, rv, rfl, last⟩ := J.after got
    exact ⟨rv, ⟨V.ref (s.heap.objs.size + 1), H', I3, rfl, last⟩⟩
  | .ok .next, got => exact False.elim got
  | .ok .brk, got => exact False.elim got
  | .ok .cont, got => exact False.elim got
end
theorem pe_fdisp1K {X : Cx} {P : Program} {w : World} {k v : Expr} {tk tv : TE} {pos : Pos} (hu : X.A.units + 64 < cLine) (hk : PE X k tk) (hv : PE X v tv) (hP : X.prog = P := by rfl) (hw : X.w = w := by rfl) : PE X (.Dict [some k] [v] pos) (tDisp1 P w tk tv) := by
  subst hP hw
  exact pe_fdisp1 hu hk hv
end YjD
set_option Elab.async false
set_option linter.all false
set_option maxRecDepth 100000
set_option maxHeartbeats 4000000
set_option pp.maxSteps 1500
/-! setdefault on a dict of facts; set(..) of a list of ints, so that it can be sorted. -/
namespace YjE
open PySem PySem.Spec PyProof.Rows L2 YjD
section
variable {X : Cx}
variable {a e k : Expr} {ta te tk : TE} {apos cpos : Pos} {P : Program} {w : World}
/-- d.setdefault(k, e), d a dict of facts -/
def tFSetd (P : Program) (w : World) (ta tk te : TE) : TE := fun σ H Q => ta σ H fun x H1 => ∃ d kvs0, x = .ref d ∧ FD P w H1 d kvs0 ∧ tk σ H1 fun y H2 => te σ H2 fun z H3 => ∃ b f kvs, y = .ref b ∧ FD P w H3 d kvs ∧ KeyAt H3 b f ∧
  kvs.length < sizeLine ∧ (∀ v, valV kvs f = some v → Q v H3) ∧ (valV kvs f = none → ∀ o, FD P w (upd H3 d o) d (putK kvs f z) → Q z (upd H3 d o))
theorem pe_fsetd (hu : X.A.units + 64 < cLine) (ho : PE X a ta) (hk : PE X k tk) (he : PE X e te) (m : M2 X a "setdefault" apos k e cpos) (hP : X.prog = P := by rfl) (hw : X.w = w := by rfl) :
    PE X (.Call (.Attribute a "setdefault" apos) [k, e] [] cpos) (tFSetd P w ta tk te) := by
  subst hP
  subst hw
  refine ⟨fun pins s σ H Q I h => ?_⟩
  refine wpAny_Call_method m.base m.few m.line PySem.F.plainAttrs_dict PySem.F.slot_dict_setdefault PySem.F.type_dict_setdefault (thn (ho.run pins s σ H _ I h) fun u s1 h1 => ?_)
  obtain ⟨x, H1, I1, rx, d, kvs0, rfl, F, q1⟩ := h1
  obtain rfl : u = Value.ref d := rx
  obtain ⟨_, _, D1⟩ := F.of I1.hok
  have one : ∀ c, Value.ref d = .ref c → ∃ ob, s1.heap.get? c = some ob ∧ ob.dict = none := fun c z => by
    cases z
    obtain ⟨ob, _, _, h1, h2, _⟩ := D1
    exact ⟨ob, h1, h2.2.1⟩
  refine ⟨D1.typeIs, one, ?_⟩
  rw [m.trees]
  refine Calls.callWith_builtin rfl (Calls.evalArgs_plain (Calls.spliced_cons (thn (hk.run pins s1 σ H1 _ I1 q1) fun j s2 h2 => ?_)))
  obtain ⟨y, H2, I2, ry, q2⟩ := h2
  refine Calls.spliced_cons (thn (he.run pins s2 σ H2 _ I2 q2) fun l s3 h3 => Calls.spliced_nil ?_)
  obtain ⟨z, H3, I3, rz, b, f, kvs, rfl, F3, K, hl, q1, q2⟩ := h3
  obtain rfl : j = Value.ref b := ry
  obtain ⟨xs, r, D⟩ := F3.of I3.hok
  have el := Paired.length r
  have rv := r.val f
  refine call_setdefault_heap (knd := nestedKind X.prog X.w) (by show X.A.units + 1 + 8 < cLine; omega) (fact_is I3.hok K) F3.sys D (fun p hp => ?_) (fun hn h' D' hs => ?_) (by omega)
  · rw [hp] at rv
    cases e : valV kvs f with
    | none =>
      rw [e] at rv
      cases rv
    | some v =>
      rw [e] at rv
      exact ⟨v, H3, I3.tok _, rv, q1 v e⟩
  · rw [hn] at rv
    cases e : valV kvs f with
    | some v =>
      rw [e] at rv
      cases rv
    | none =>
      obtain ⟨o', I', F'⟩ := F3.stored (t' := s3.toks + (nestedKind X.prog X.w).draws (keyF f)) I3 K rz hl r D' hs
      exact ⟨z, _, I', rz, q2 e o' F'⟩
end
/-! ### set(..) of a list of ints -/
section
variable {P : Program} {w : World} {A : Around} {E : Value → Shared → Prop} {s : Shared}
def emptySet (w : World) : Obj := { cls := .type "set", dict := none, data := .set #[] 0 (.fresh 0 0 (!w.params.followText "set-order")) }
def FullSet (w : World) (S : Addr) (ns : List Int) (s s' : Shared) : Prop := ∃ h' tk c, s' = { s with heap := h', toks := tk } ∧ SetR w h' S (fun j => decide (j ∈ ns)) c ∧ c ≤ ns.length ∧ ∀ b o, b ≠ S → s.heap.get? b = some o → h'.get? b = some o
/-- what __init__ does with a list of ints -/
theorem fill_list {S l : Addr} {items : Array Value} {ns : List Int} (hh : A.handled = none) (hS : s.heap.get? S = some (emptySet w)) (hl : s.heap.IsList l items) (hi : IntsAre items.toList ns) (hb : ns.length + 1 < scanBound) :
    codeAny (model P w) A (.call (.builtin "set.__init__") ⟨[.ref S, .ref l], []⟩) (wants (fun r s' => r = .none ∧ FullSet w S ns s s') E) s := by
  have sz : items.size = ns.length := by
    have q := IntsAre.length hi
    rwa [Array.length_toList] at q
  obtain ⟨ol, hol, hcl, nl, hdl⟩ := id hl
  have lS : l ≠ S := fun z => by
    rw [z, hS] at hol
    cases hol
    exact absurd (show (Value.type "set") = Value.type "list" from hcl) (by decide)
  have ll : l < s.heap.objs.size := Heap.lt_size hol
  have ls : S < s.heap.objs.size := Heap.lt_size hS
  have ty : s.TypeIs (.ref S) "set" := ⟨_, hS, rfl⟩
  refine codeAny_call_builtin F.called_set.init.plain F.entry_set_init (check_set_init_1 ty ?_)
  obtain ⟨ocls, odict, odata, oslots⟩ := ol
  simp only at hcl hdl
  subst hcl; subst hdl
  have g1 := F.sub_list_set
  have g2 := F.sub_list_frozenset
  have g3 : (Value.type "list" == Value.type "dict") = false := by decide
  unfold Builtin.«set.__init__» noKeywords Builtin.Frozenset.updateFrom
  generalize hPI : pyIter = PI
  wp_walk
  subst hPI
  refine wpAny_pyIter_list hl ?_
  refine wpAny_bind (wpAny_runValue ?_)
  have hh3 : A.in1.in1.handled = none := by simp [hh]
  have nI : l ≠ s.heap.objs.size := Nat.ne_of_lt ll
  have nS : S ∉ [s.heap.objs.size, l] := by
    simp only [List.mem_cons, List.mem_singleton, List.not_mem_nil, or_false, not_or]
    exact ⟨Nat.ne_of_lt ls, lS.symm⟩
  have hval : ∀ (i : Nat) (v : Value), items[i]? = some v → ∃ k t, ns[i]? = some k ∧ v = .int k t := fun i v hv => by
    have lt : i < ns.length := sz ▸ (Array.getElem?_eq_some_iff.mp hv).1
    obtain ⟨t, e⟩ := IntsAre.int_at hi i v (by rw [Array.getElem?_toList]; exact hv)
    exact ⟨ns[i], t, List.getElem?_eq_getElem lt, by rw [e, List.getD_eq_getElem?_getD, List.getElem?_eq_getElem lt]; rfl⟩
  refine set_update_ints ((Walks.list hh3 _ l nI items).toS) S nS ns sz hb hval (items.size - 0) 0 _ (by omega) (Nat.zero_le _) ?_ ?_ ?_
  · exact ⟨⟨_, Heap.get?_push_size _ rfl, rfl, rfl⟩, hl.push _⟩
  · exact ⟨0, Nat.le_refl 0, setR_new_at (Heap.get?_push_of_some _ hS)⟩
  · intro s' c' hm hc' hS'
    obtain ⟨h', g2, d', tk', os'⟩ := s'
    obtain rfl : g2 = s.gens := hm.gens
    obtain rfl : d' = s.drawn := hm.drawn
    obtain rfl : os' = s.os := hm.os
    refine wpAny_pure (wpAny_pure ⟨rfl, h', tk', c', rfl, hS', by omega, fun b o hb e => ?_⟩)
    have lb : b < s.heap.objs.size := Heap.lt_size e
    exact hm.heap b o (by
      simp only [List.mem_cons, List.mem_singleton, List.not_mem_nil, or_false, not_or]
      exact ⟨hb, Nat.ne_of_lt lb⟩) (Heap.get?_push_of_some _ e)
theorem set_from_list {l : Addr} {items : Array Value} {ns : List Int} {Q : Value → Shared → Prop} (hh : A.handled = none) (hl : s.heap.IsList l items) (hi : IntsAre items.toList ns) (hb : ns.length + 1 < scanBound)
    (h : ∀ (h' : Heap) (tk c : Nat), SetR w h' s.heap.objs.size (fun j => decide (j ∈ ns)) c → c ≤ ns.length → (∀ b o, s.heap.get? b = some o → h'.get? b = some o) → Q (.ref s.heap.objs.size) { s with heap := h', toks := tk }) :
    wpAny (model P w) A (call (.type "set") [.ref l]) Q E s := by
  obtain ⟨c, tl, hmro⟩ := F.called_set.mro
  have y1 := F.called_set.made
  have y2 := F.called_set.sub
  have y3 := F.called_set.notType
  have y4 := F.called_set.canCreate
  have y5 := F.typeCall_set_1 (.ref l)
  refine wpAny_call (codeAny_of_tree (wpAny_pure ⟨Code.quiet_builtin _ (by decide +kernel), codeAny_builtin F.entry_type_call ?_⟩))
  rw [Around.under_plain (weight_type_call_type "set" [.ref l] []) rfl]
  repeat (any_goals (first | assumption | wp_step))
  refine codeAny_mono (code_set_led1 (.ref l) (E := E) (Q₁ := fun v s1 => v = .ref s.heap.objs.size ∧ s1 = { s with heap := s.heap.push (emptySet w) }) ⟨rfl, rfl⟩) fun r s1 hr => ?_
  rcases r with e | f
  · exact hr
  · cases f with
    | ret v =>
      obtain ⟨rfl, rfl⟩ := hr
      have at0 : (s.heap.push (emptySet w)).get? s.heap.objs.size = some (emptySet w) := Heap.get?_push_size _ rfl
      have ty : Shared.TypeIs { s with heap := s.heap.push (emptySet w) } (.ref s.heap.objs.size) "set" := ⟨_, at0, rfl⟩
      have y6 := F.called_set.init.lookup
      have y7 := F.called_set.init.bind (.ref s.heap.objs.size)
      repeat (any_goals (first | assumption | wp_step))
      refine codeAny_mono (fill_list (s := { s with heap := s.heap.push (emptySet w) }) (E := E) (by simp [hh]) at0 (hl.push _) hi hb) fun r2 s2 hr2 => ?_
      rcases r2 with e | f
      · exact hr2
      · cases f with
        | ret v =>
          obtain ⟨rfl, h', tk, c', rfl, z1, z2, z3⟩ := hr2
          repeat (any_goals (first | assumption | wp_step))
          exact h _ _ _ z1 z2 fun b o e => z3 b o (Nat.ne_of_lt (Heap.lt_size e)) (Heap.get?_push_of_some _ e)
        | _ => exact hr2.elim
    | _ => exact hr.elim
end
/-- set(ns), ns a list of ints -/
def rSetL (w : World) (K : PySem.W.Frag) : List V → Hp → VK → Prop := fun vs H Q => ∃ (a : Addr) (ns : List Int), vs = [V.ref a] ∧ SqL K H a (ns.map V.int) ∧ ns.length + 1 < scanBound ∧
  ∀ p c, H p = none → c ≤ ns.length → Q (.ref p) (upd H p (SetO w p (fun j => decide (j ∈ ns)) c))
theorem cr_setL {X : Cx} (hc : X.calm = true) : CallR X (.type "set") (rSetL X.w X.K) := by
  intro pins s σ H vs us Q I r h
  obtain ⟨a, ns, rfl, hs, hb, q⟩ := h
  obtain ⟨its, rv, hl, _⟩ := I.list hs
  rw [Vals.ref1 r]
  refine set_from_list (I.ok.hd hc) hl.isList (by have := rv.ints; simpa using this) hb fun h' tk c z1 z2 z3 => ?_
  exact ⟨.ref _, _, I.laid (t' := tk) z3 (Nat.le_refl _) (setO_new z1), rfl, q _ c (I.hok.fresh (Nat.le_refl _)) z2⟩
/-! ### *d in a display, d a dict of facts -/
section
variable {P : Program} {w : World} {A : Around} {E : Value → Shared → Prop} {s : Shared} {T : String} {r d : Addr} {n : Nat} {Pv : Nat → Value → Prop} {OK : Heap → Prop}
theorem collect_kdl {Q : List Value → Shared → Prop} (K : PySem.W.KdlSrc P w T r d n Pv OK) (hh : A.handled = none) (hok : OK s.heap) (hn : n ≤ sizeLine)
    (hQ : ∀ h' tk (acc : Array Value), (∀ b o, s.heap.get? b = some o → h'.get? b = some o) → ItemsOf Pv acc n → Q acc.toList { s with heap := h', toks := tk }) : wpAny (model P w) A (collect (.ref r)) Q E s := by
  obtain ⟨lr, ld⟩ := K.there _ hok
  unfold collect
  refine wpAny_bind (wpAny_runValue (codeAny_builtin F.entry_proto_collect ?_))
  rw [Around.under_plainId F.plain_proto_collect _]
  refine wpAny_bind (wpAny_newObj_type ?_)
  refine wpAny_pure ⟨plainId_quiet F.plain_list_iadd _, codeAny_builtin F.entry_list_iadd ?_⟩
  rw [Around.under_plainId F.plain_list_iadd _]
  have hS : (s.heap.push { cls := .type "list", data := .seq ([] : List Value).toArray }).get? s.heap.objs.size = some { cls := .type "list", data := .seq #[] 0 } := Heap.get?_push_size _ rfl
  have key : ∀ (r' : Result) (s' : Shared), (∃ h' tk acc c', r' = .ok (.ret (.ref s.heap.objs.size)) ∧ s' = { s with heap := h', toks := tk } ∧ (∀ b o, b ≠ s.heap.objs.size → (s.heap.push { cls := .type "list", data := .seq ([] : List Value).toArray }).get? b = some o → h'.get? b = some o) ∧
      h'.get? s.heap.objs.size = some { cls := .type "list", dict := none, data := .seq acc c', slots := #[] } ∧ ItemsOf Pv acc n) →
      ∃ h' tk acc c', r' = .ok (.ret (.ref s.heap.objs.size)) ∧ s' = { s with heap := h', toks := tk } ∧ wpAny (model P w) A (load s.heap.objs.size >>= fun o => match o.data with
        | .seq xs _ => pure xs.toList
        | _ => unsupported "internal:collect") Q E s' := fun r' s' ⟨h', tk, acc, c', e1, e2, hk, hS', hacc⟩ => by
    subst e2
    refine ⟨h', tk, acc, c', e1, rfl, wpAny_bind (wpAny_load hS' (wpAny_pure (hQ h' tk acc (fun b o e => hk b o (Nat.ne_of_lt (Heap.lt_size e)) (Heap.get?_push_of_some _ e)) hacc)))⟩
  refine wpAny_mono (PySem.W.kdl_extend (s := { s with heap := s.heap.push { cls := .type "list", data := .seq ([] : List Value).toArray } }) (A := A) (R := fun r' s' => ∃ h' tk acc c', r' = .ok (.ret (.ref s.heap.objs.size)) ∧ s' = { s with heap := h', toks := tk } ∧ (∀ b o, b ≠ s.heap.objs.size → (s.heap.push { cls := .type "list", data := .seq ([] : List Value).toArray }).get? b = some o → h'.get? b = some o) ∧
      h'.get? s.heap.objs.size = some { cls := .type "list", dict := none, data := .seq acc c', slots := #[] } ∧ ItemsOf Pv acc n) K hh (K.keep _ _ hok fun b _ o e => Heap.get?_push_of_some _ e) s.heap.objs.size (Nat.ne_of_gt lr) (Nat.ne_of_gt ld) (.ref s.heap.objs.size) 0 hS
      (fun h' tk acc c' hk hS' hacc => ⟨h', tk, acc, c', rfl, rfl, hk, hS', hacc⟩) hn) (fun fin s' z => ?_) fun e s' z => ?_
  · cases fin with
    | done f =>
      obtain ⟨_, _, _, _, e1, _, z2⟩ := key _ _ z
      cases e1
      exact z2
    | again c' =>
      refine ⟨z.1, codeAny_mono z.2 fun r2 s2 z3 => ?_⟩
      obtain ⟨_, _, _, _, e1, _, z2⟩ := key _ _ z3
      subst e1
      exact z2
  · obtain ⟨_, _, _, _, e1, _⟩ := z
    cases e1
end
section
variable {X : Cx} {e : Expr} {es : List Expr} {te : TE} {t : TA} {p : Pos} {P : Program} {w : World}
def tStarF (P : Program) (w : World) (te : TE) (t : TA) : TA := fun σ H Q => te σ H fun x H1 => ∃ d kvs, x = .ref d ∧ FD P w H1 d kvs ∧ ∀ us, KeysAt H1 us (kvs.map (·.1)) → t σ H1 fun ys H2 => Q (us ++ ys) H2
theorem pa_starF (hc : X.calm = true) (he : PE X e te) (hr : PA X es t) (hs : starEach (.Starred e p :: es) X.env = (true, eval e X.env) :: starEach es X.env := by rfl) (hP : X.prog = P := by rfl) (hw : X.w = w := by rfl) :
    PA X (.Starred e p :: es) (tStarF P w te t) := by
  subst hP
  subst hw
  refine ⟨fun pos pins s σ H Q I h => ?_⟩
  refine PySem.W.items_star (thn (he.run pins s σ H _ I h) fun v s1 ⟨y, H1, I1, ry, d, kvs, ey, ⟨o, F⟩, q⟩ => ?_) hs
  subst ey
  obtain rfl : v = Value.ref d := ry
  obtain ⟨hd, _⟩ := F.of I1.hok
  obtain ⟨ee, ep, xs, e1, e2, _⟩ := F.ent
  have len := (F.at e1).1
  have ty : s1.TypeIs (.ref d) "dict" := ⟨o, hd, F.exact'.1⟩
  unfold PySem.W.StarOf notIterableAtAll
  refine wpAny_bind (wpAny_specialOf ty PySem.F.slot_dict_iter.lookup (wpAny_pure ⟨rfl, ?_⟩))
  refine collect_kdl (PySem.KdlSrc.rawDict F.sys) (I1.ok.hd hc) ⟨o, hd, F.exact', e1⟩ (by have := F.len; omega) fun h' tk acc hk hacc => ?_
  obtain ⟨ks, k1, k2⟩ := keys_of F e1 hacc
  exact thn (hr.run pos pins _ σ H1 _ (I1.kept (t' := tk) hk) (q ks k2)) fun ws s3 ⟨vs, H3, I3, r3, q3⟩ => ⟨ks ++ vs, H3, I3, k1.append r3, q3⟩
/-- *d, d a dict whose keys are ints and texts -/
def tStarK (te : TE) (t : TA) : TA := fun σ H Q => te σ H fun x H1 => ∃ (d : Addr) (kvs : List (Key × V)), x = .ref d ∧ Rd H1 d (.dK kvs) ∧ t σ H1 fun ys H2 => Q ((kvs.map fun kv => kV kv.1) ++ ys) H2
theorem pa_starK (hc : X.calm = true) (he : PE X e te) (hr : PA X es t) (hs : starEach (.Starred e p :: es) X.env = (true, eval e X.env) :: starEach es X.env := by rfl) : PA X (.Starred e p :: es) (tStarK te t) := by
  refine ⟨fun pos pins s σ H Q I h => ?_⟩
  refine PySem.W.items_star (thn (he.run pins s σ H _ I h) fun v s1 ⟨y, H1, I1, ry, d, kvs, ey, hd, q⟩ => ?_) hs
  subst ey
  obtain rfl : v = Value.ref d := ry
  obtain ⟨z, lo, vs, rel, dd⟩ := dk_rd I1.hok hd
  obtain ⟨ep, hat⟩ := dd.dictAt
  have ek : (kvs.map fun kv => kV kv.1) = vs.map fun p => kV p.1 := by
    have e := congrArg (List.map kV) rel.keys
    rw [List.map_map, List.map_map] at e
    exact e
  unfold PySem.W.StarOf notIterableAtAll
  refine wpAny_bind (wpAny_specialOf dd.typeIs PySem.F.slot_dict_iter.lookup (wpAny_pure ⟨rfl, ?_⟩))
  refine collect_kdl (PySem.W.kdl_dict (knd := mixKind X.prog X.w) (kvs := vs) (ep := ep) lo) (I1.ok.hd hc) hat (by rw [← rel.length]; exact z) fun h' tk acc hk hacc => ?_
  have hv : Vals (vs.map fun p => kV p.1) acc.toList := keys_at (by rw [Array.length_toList]; exact hacc.1) fun j v e => hacc.2 j v (by rw [← Array.getElem?_toList]; exact e)
  rw [← ek] at hv
  exact thn (hr.run pos pins _ σ H1 _ (I1.kept (t' := tk) hk) q) fun ws s3 ⟨us, H3, I3, r3, q3⟩ => ⟨_, H3, I3, hv.append r3, q3⟩
end
end YjE
set_option Elab.async false
set_option linter.all false
set_option maxRecDepth 100000
set_option maxHeartbeats 4000000
set_option pp.maxSteps 1500
/-! Sets of keys of any depth (tuples of texts, ints and such tuples), few of them: made out of a list, at any hashes. -/
namespace YjF
open PySem PySem.Spec PyProof.Rows L2
/-! ### what a table asks of a key -/
section
variable {P : Program} {w : World}
/-- v shows no class statement, n levels down -/
def NoCls (P : Program) (w : World) (n : Nat) (s : Shared) (v : Value) : Prop := ∀ (A : Around) (E : Value → Shared → Prop) (Q : Bool → Shared → Prop), Q false s → wpAny (model P w) A (ofAClassStatement n v) Q E s
/-- whether v hashes by value can be asked, n levels down -/
def Asked (P : Program) (w : World) (n : Nat) (s : Shared) (v : Value) : Prop := ∀ (A : Around) (E : Value → Shared → Prop) (Q : Bool → Shared → Prop), (∀ b, Q b s) → wpAny (model P w) A (hashByValue n v) Q E s
theorem NoCls.flat {n : Nat} {s : Shared} {v : Value} (e : ofAClassStatement n v = pure false) : NoCls P w n s v := fun A E Q q => by
  rw [e]
  exact wpAny_pure q
theorem Asked.flat {n : Nat} {s : Shared} {v : Value} {b : Bool} (e : hashByValue n v = pure b) : Asked P w n s v := fun A E Q q => by
  rw [e]
  exact wpAny_pure (q b)
theorem NoCls.row {n m : Nat} {s : Shared} {a : Addr} {o : Obj} {vs : Array Value} (at_ : s.heap.get? a = some o) (ty : o.cls = .type "tuple") (dat : o.data = .seq vs m) (each : ∀ v ∈ vs.toList, NoCls P w n s v) : NoCls P w (n + 1) s (.ref a) := fun A E Q q => by
  unfold ofAClassStatement
  refine wpAny_bind (wpAny_typeOf (T := "tuple") ⟨o, at_, ty⟩ ?_)
  dsimp only
  rw [if_pos (show (("tuple" : String) == "tuple") = true by decide)]
  refine wpAny_bind (wpAny_pure ?_)
  simp only [Bool.not_true, Bool.false_eq_true, if_false]
  refine wpAny_bind (wpAny_seqItems at_ dat ?_)
  dsimp only
  refine wpAny_bind ?_
  show wpAny _ _ (forIn vs _ _) _ _ s
  rw [← Array.forIn_toList]
  refine wpAny_forIn_list _ (fun left q' s1 => (∀ v ∈ left, NoCls P w n s v) ∧ s1 = s ∧ q'.1 = none) _ ?_ ?_ _ _ ⟨each, rfl, rfl⟩
  · intro v left q' s1 h
    obtain ⟨h1, h2, h3⟩ := h
    subst h2
    refine wpAny_bind (h1 v (List.mem_cons_self ..) _ _ _ ?_)
    simp only [Bool.false_eq_true, if_false]
    exact wpAny_pure ⟨fun u hu => h1 u (List.mem_cons_of_mem _ hu), rfl, rfl⟩
  · intro q' s1 h
    obtain ⟨r1, r2⟩ := q'
    obtain ⟨_, h2, h3⟩ := h
    dsimp only at h3
    subst h2 h3
    exact wpAny_pure q
theorem Asked.row {n m : Nat} {s : Shared} {a : Addr} {o : Obj} {vs : Array Value} (at_ : s.heap.get? a = some o) (ty : o.cls = .type "tuple") (dat : o.data = .seq vs m) (each : ∀ v ∈ vs.toList, Asked P w n s v) : Asked P w (n + 1) s (.ref a) := fun A E Q q => by
  unfold hashByValue
  refine wpAny_bind (wpAny_specialOf (T := "tuple") ⟨o, at_, ty⟩ F.slot_tuple_hash.lookup ?_)
  show wpAny _ _ (seqItems? (.ref a) >>= _) _ _ s
  refine wpAny_bind (wpAny_seqItems at_ dat (wpAny_bind ?_))
  show wpAny _ _ (forIn vs _ _) _ _ s
  rw [← Array.forIn_toList]
  refine wpAny_forIn_list _ (fun left q' s1 => (∀ v ∈ left, Asked P w n s v) ∧ s1 = s ∧ q'.1 = none) _ ?_ ?_ _ _ ⟨each, rfl, rfl⟩
  · intro v left q' s1 h
    obtain ⟨h1, h2, h3⟩ := h
    subst h2
    refine wpAny_bind (h1 v (List.mem_cons_self ..) _ _ _ fun b => ?_)
    cases b with
    | true =>
      simp only [Bool.not_true, Bool.false_eq_true, if_false]
      exact wpAny_pure ⟨fun u hu => h1 u (List.mem_cons_of_mem _ hu), rfl, rfl⟩
    | false =>
      simp only [Bool.not_false, if_true]
      exact wpAny_pure (wpAny_pure (q false))
  · intro q' s1 h
    obtain ⟨r1, r2⟩ := q'
    obtain ⟨_, h2, h3⟩ := h
    dsimp only at h3
    subst h2 h3
    exact wpAny_pure (q true)
mutual
theorem key_asks : ∀ (k : NestedKey) (v : Value) (n : Nat) (s : Shared), NestedIs s.heap k v → k.depth ≤ n → NoCls P w n s v ∧ Asked P w n s v
  | .none, _, n, s, x, _ => by
    cases x
    exact ⟨.flat (by cases n <;> rfl), .flat (b := true) (by cases n <;> rfl)⟩
  | .num i, _, n, s, x, _ => by
    cases x
    · exact ⟨.flat (by cases n <;> rfl), .flat (b := true) (by cases n <;> rfl)⟩
    · exact ⟨.flat (by cases n <;> rfl), .flat (b := true) (by cases n <;> rfl)⟩
  | .text y, _, n, s, x, _ => by
    cases x
    exact ⟨.flat (by cases n <;> rfl), .flat (b := false) (by cases n <;> rfl)⟩
  | .tup ks, _, 0, s, x, d => by
    unfold NestedKey.depth at d
    exact absurd d (Nat.not_succ_le_zero _)
  | .tup ks, _, n + 1, s, x, d => by
    unfold NestedKey.depth at d
    cases x with
    | tup g1 g2 g3 g4 =>
      have z := keys_ask ks _ n s g4 (Nat.le_of_succ_le_succ d)
      exact ⟨.row g1 g2 g3 fun v hv => (z v hv).1, .row g1 g2 g3 fun v hv => (z v hv).2⟩
theorem keys_ask : ∀ (ks : List NestedKey) (vs : List Value) (n : Nat) (s : Shared), NestedAll s.heap ks vs → NestedKey.depthAll ks ≤ n → ∀ v ∈ vs, NoCls P w n s v ∧ Asked P w n s v
  | [], _, n, s, x, _, v, hv => by
    cases x
    cases hv
  | k :: ks, _, n, s, x, d, v, hv => by
    unfold NestedKey.depthAll at d
    cases x with
    | cons x1 x2 =>
      cases hv with
      | head => exact key_asks k _ n s x1 (Nat.le_trans (Nat.le_max_left _ _) d)
      | tail _ hv => exact keys_ask ks _ n s x2 (Nat.le_trans (Nat.le_max_right _ _) d) v hv
end
/-- a key at an address -/
abbrev KeyIs (P : Program) (w : World) (h : Heap) (k : NestedKey) (a : Addr) : Prop := (nestedKind P w).is h k a
variable {A : Around} {E : Value → Shared → Prop} {s : Shared}
/-- nothing is seen of a search among keys -/
theorem unseen {k : NestedKey} {b : Addr} {ys : List Value} {Q : Bool → Shared → Prop} (hk : KeyIs P w s.heap k b) (all : ∀ y ∈ ys, ∃ l c, y = Value.ref c ∧ KeyIs P w s.heap l c) (q : Q false s) :
    wpAny (model P w) A (searchCouldBeSeen (.ref b) ys) Q E s := by
  unfold searchCouldBeSeen
  refine wpAny_bind (wpAny_forIn_list _ (fun left q' s1 => (∀ y ∈ left, ∃ l c, y = Value.ref c ∧ KeyIs P w s.heap l c) ∧ s1 = s ∧ q'.1 = none) _ ?_ ?_ _ _ ⟨all, rfl, rfl⟩)
  · intro v left q' s1 h
    obtain ⟨h1, h2, h3⟩ := h
    subst h2
    obtain ⟨l, c, e, hc⟩ := h1 v (List.mem_cons_self ..)
    subst e
    have go : ∀ {T : Prop}, T → (∀ y ∈ left, ∃ l c, y = Value.ref c ∧ KeyIs P w s1.heap l c) ∧ T := fun t => ⟨fun u hu => h1 u (List.mem_cons_of_mem _ hu), t⟩
    dsimp only
    split
    · exact wpAny_pure (go ⟨rfl, rfl⟩)
    · refine wpAny_bind ((nestedKind P w).quiet hk ?_)
      simp only [Bool.not_true, Bool.false_eq_true, if_false]
      refine wpAny_bind ((nestedKind P w).quiet hc ?_)
      simp only [Bool.not_true, Bool.false_eq_true, if_false]
      refine wpAny_bind ((key_asks _ _ 8 s1 hk.1 hk.2).1 _ _ _ ?_)
      simp only [Bool.false_eq_true, if_false]
      refine wpAny_bind ((key_asks _ _ 8 s1 hc.1 hc.2).1 _ _ _ ?_)
      simp only [Bool.false_eq_true, if_false]
      exact wpAny_pure (go ⟨rfl, rfl⟩)
  · intro q' s1 h
    obtain ⟨r1, r2⟩ := q'
    obtain ⟨_, h2, h3⟩ := h
    dsimp only at h3
    subst h2 h3
    exact wpAny_pure q
end
end YjF
namespace YjF
open PySem PySem.Spec PyProof.Rows L2
section
variable {P : Program} {w : World} {A : Around} {E : Value → Shared → Prop} {s : Shared}
/-! ### the set -/
/-- keys with the places where they stand -/
abbrev Kept := List (NestedKey × Addr)
def hashesOf (w : World) (L : Kept) : List Int := L.map fun p => p.1.hash w
def entriesOf (w : World) (L : Kept) : List (Int × Value) := L.map fun p => (p.1.hash w, Value.ref p.2)
/-- at a stands a set with the keys L, at most four, in the order of their slots -/
structure FewIn (P : Program) (w : World) (h : Heap) (a : Addr) (L : Kept) (o : Obj) (es : Array (Int × Value)) (ep : Nat) (t : SetTable) : Prop where
  here : h.get? a = some o
  cls : o.ExactSet
  dat : o.data = .set es ep t
  ents : es.toList = entriesOf w L
  tab : TabOk t (hashesOf w L)
  nod : (L.map Prod.fst).Nodup
  keys : ∀ p ∈ L, KeyIs P w h p.1 p.2
  led : w.params.followText "set-order" = true ∨ t.led = true
  mask : t.mask = 7
  few : L.length ≤ 4
variable {a : Addr} {L : Kept} {o : Obj} {es : Array (Int × Value)} {ep : Nat} {t : SetTable}
theorem FewIn.count (F : FewIn P w s.heap a L o es ep t) : es.size = L.length := by
  rw [← Array.length_toList, F.ents]
  exact List.length_map ..
theorem FewIn.fits (F : FewIn P w s.heap a L o es ep t) : t.fits es.size = true := by
  have c := F.tab.sz
  have n := F.few
  unfold hashesOf at c
  rw [List.length_map] at c
  unfold SetTable.fits SetTable.fill
  rw [F.tab.dm, F.count, F.mask, c]
  simp only [Bool.and_eq_true, beq_iff_eq, decide_eq_true_eq]
  exact ⟨trivial, Nat.le_trans n (by decide)⟩
theorem FewIn.nth_ (F : FewIn P w s.heap a L o es ep t) {i : Nat} {p : NestedKey × Addr} (e : L[i]? = some p) : es[i]? = some (p.1.hash w, Value.ref p.2) := by
  have z : es.toList[i]? = (entriesOf w L)[i]? := by rw [F.ents]
  unfold entriesOf at z
  rw [List.getElem?_map, e] at z
  rw [← Array.getElem?_toList]
  exact z
theorem no_dummy (m : Nat) : ∀ (n : Nat) (p : SetTable.Probe), p.dummy = none → (nth m p n).dummy = none
  | 0, _, e => e
  | n + 1, p, e => no_dummy m n (adv m p) (by
    unfold adv
    split
    · exact e
    · exact e)
/-- a table's slot number n on the way of a hash -/
theorem way_add (t : SetTable) (h : Int) (c q : Nat) : (nth t.mask (nth t.mask (t.probeStart h) c) q).j = way t.mask h (c + q) := by
  rw [← nth_add]
  rfl
/-- the search goes on at its step number c: K is the first free one, all that has the key stands from c on -/
theorem look (F : FewIn P w s.heap a L o es ep t) {x : Addr} {k : NestedKey} (hx : KeyIs P w s.heap k x) (hu : A.units + 8 < cLine) {K : Nat} (K1 : K < 10 * SetTable.turns t.mask) (K2 : way t.mask (k.hash w) K ∉ t.place.toList)
    (K3 : ∀ c, c < K → way t.mask (k.hash w) c ∈ t.place.toList) {Q : SetFound → Shared → Prop} (yes : k ∈ L.map Prod.fst → Q (.there none) s) (no : k ∉ L.map Prod.fst → Q (.free (way t.mask (k.hash w) K) false) s) :
    ∀ (m c fuel : Nat) (st : Option SetTable.Probe), K - c = m → c ≤ K → m < fuel → st.getD (t.probeStart (k.hash w)) = nth t.mask (t.probeStart (k.hash w)) c →
      (∀ (i : Nat) (a' : Addr), L[i]? = some (k, a') → ∃ c', c ≤ c' ∧ c' < K ∧ t.place.toList[i]? = some (way t.mask (k.hash w) c')) →
      wpAny (model P w) A (setSearchFrom a (.ref x) (k.hash w) true fuel st) Q E s := by
  intro m
  induction m using Nat.strongRecOn with
  | ind m ih =>
    intro c fuel st em hc hf est ahead
    obtain ⟨fuel, rfl⟩ : ∃ f, fuel = f + 1 := ⟨fuel - 1, by omega⟩
    rw [setSearchFrom_succ]
    refine wpAny_bind (wpAny_setState_of F.here F.dat F.fits ?_)
    dsimp only
    have gw : t.gaveWay = false := by
      unfold SetTable.gaveWay
      rw [F.mask]
      rfl
    rw [if_neg (by rw [gw]; exact Bool.false_ne_true)]
    refine wpAny_bind (wpAny_pure ?_)
    have told : ∀ (i : Nat) (p : NestedKey × Addr), L[i]? = some p → (fun i => (es[i]?.map (·.1)).getD 0) i = p.1.hash w := fun i p e => by
      show (es[i]?.map (·.1)).getD 0 = _
      rw [F.nth_ e]
      rfl
    have way' := way_add t (k.hash w) c
    rw [est]
    have at_K : (nth t.mask (nth t.mask (t.probeStart (k.hash w)) c) (K - c)).j = way t.mask (k.hash w) K := by
      rw [way', Nat.add_sub_cancel' hc]
    rcases go_spec t F.tab.ris F.tab.dm (fun i => (es[i]?.map (·.1)).getD 0) (k.hash w) (10 * SetTable.turns t.mask) (K - c) (nth t.mask (t.probeStart (k.hash w)) c) (no_dummy _ _ _ rfl) (by omega) (fun q hq => by rw [way']; exact K3 _ (by omega)) (by rw [at_K]; exact K2)
      with ⟨q, i, hq, hi, _, before, found⟩ | ⟨before, found⟩
    · -- one with the same hash is met
      rw [show t.probe (fun i => (es[i]?.map (·.1)).getD 0) (k.hash w) (nth t.mask (t.probeStart (k.hash w)) c) = _ from found]
      dsimp only
      rw [way'] at hi ⊢
      have il : i < L.length := by
        have l1 := (List.getElem?_eq_some_iff.mp hi).1
        rw [Array.length_toList, F.tab.sz] at l1
        unfold hashesOf at l1
        rwa [List.length_map] at l1
      obtain ⟨p, hp⟩ : ∃ p, L[i]? = some p := ⟨_, List.getElem?_eq_getElem il⟩
      have pin : p ∈ L := List.mem_of_getElem? hp
      have sl : t.slot (way t.mask (k.hash w) (c + q)) = .live i := slot_live F.tab.ris hi
      have rest : wpAny (model P w) A (searchRest a (.ref x) (k.hash w) true fuel es t (way t.mask (k.hash w) (c + q)) i (nth t.mask (nth t.mask (t.probeStart (k.hash w)) c) (q + 1))) Q E s := by
        unfold searchRest
        rw [F.nth_ hp]
        dsimp only
        refine wpAny_bind (wpAny_holding ((nestedKind P w).eqBool hu (F.keys p pin) hx ?_))
        refine wpAny_bind (wpAny_setState_of F.here F.dat F.fits ?_)
        dsimp only
        by_cases same : p.1 = k
        · rw [decide_eq_true same]
          simp only [Bool.and_self, if_true]
          exact wpAny_pure (yes (List.mem_map.mpr ⟨p, pin, same⟩))
        · rw [decide_eq_false same]
          simp only [Bool.and_false, Bool.false_eq_true, if_false]
          refine wpAny_bind (wpAny_pure ?_)
          rw [sameMem]
          dsimp only
          simp only [if_true, sl, F.nth_ hp]
          refine wpAny_bind (wpAny_isSame_ref_self (wpAny_bind (wpAny_pure ?_)))
          simp only [if_true, Bool.false_eq_true, if_false]
          refine ih (K - (c + (q + 1))) (by omega) (c + (q + 1)) fuel _ rfl (by omega) (by omega) ?_ fun i' a' e' => ?_
          · exact (nth_add t.mask c _ (q + 1)).symm
          · obtain ⟨c', b1, b2, b3⟩ := ahead i' a' e'
            have ne : ¬ c' < c + q := fun lt => before (c' - c) i' (by omega) (by rw [way', Nat.add_sub_cancel' b1]; exact b3) (told i' _ e')
            have ne2 : c' ≠ c + q := fun e => by
              rw [e] at b3
              have sl' := slot_live F.tab.ris b3
              rw [sl] at sl'
              injection sl' with sl'
              rw [sl', e'] at hp
              injection hp with hp
              exact same (congrArg Prod.fst hp.symm)
            exact ⟨c', by omega, b2, b3⟩
      cases led : t.led with
      | true =>
        simp only [Bool.not_true, Bool.false_eq_true, if_false]
        exact rest
      | false =>
        simp only [Bool.not_false, if_true]
        refine wpAny_bind (unseen hx (fun y hy => ?_) ?_)
        · obtain ⟨en, hen, ee⟩ := List.mem_map.mp hy
          have h1 : en ∈ es.toList := by
            have h2 : en ∈ es ∧ en.1 = k.hash w := by simpa using hen
            simpa using h2.1
          rw [F.ents] at h1
          obtain ⟨p', m', e'⟩ := List.mem_map.mp h1
          exact ⟨p'.1, p'.2, by rw [← ee, ← e'], F.keys p' m'⟩
        · simp only [Bool.false_eq_true, if_false]
          exact rest
    · -- a free slot
      rw [show t.probe (fun i => (es[i]?.map (·.1)).getD 0) (k.hash w) (nth t.mask (t.probeStart (k.hash w)) c) = _ from found, at_K]
      dsimp only
      refine wpAny_pure (no fun hm => ?_)
      obtain ⟨p, pin, ep'⟩ := List.mem_map.mp hm
      obtain ⟨i, hi⟩ := List.getElem?_of_mem pin
      have hi' : L[i]? = some (k, p.2) := by rw [hi, ← ep']
      obtain ⟨c', b1, b2, b3⟩ := ahead i _ hi'
      exact before (c' - c) i (by omega) (by rw [way', Nat.add_sub_cancel' b1]; exact b3) (told i _ hi')
/-- the search that adding makes -/
theorem look_all (F : FewIn P w s.heap a L o es ep t) {x : Addr} {k : NestedKey} (hx : KeyIs P w s.heap k x) (hu : A.units + 8 < cLine) {Q : SetFound → Shared → Prop} (yes : k ∈ L.map Prod.fst → Q (.there none) s)
    (no : ∀ K, k ∉ L.map Prod.fst → way t.mask (k.hash w) K ∉ t.place.toList → (∀ c, c < K → way t.mask (k.hash w) c ∈ t.place.toList) → Q (.free (way t.mask (k.hash w) K) false) s) :
    wpAny (model P w) A (setSearch a (.ref x) (k.hash w) true) Q E s := by
  have hl : (hashesOf w L).length = L.length := List.length_map ..
  obtain ⟨K, K1, K2, K3⟩ := F.tab.first (by rw [hl, F.mask]; exact Nat.le_trans F.few (by decide)) (k.hash w)
  have K4 : K < 100000 := by
    refine Nat.lt_trans K1 ?_
    rw [F.mask]
    decide
  unfold setSearch
  refine look F hx hu K1 K2 K3 yes (fun z => no K z K2 K3) K 0 100000 none rfl (Nat.zero_le _) K4 rfl fun i a' e => ?_
  have e1 : (hashesOf w L)[i]? = some (k.hash w) := by
    unfold hashesOf
    rw [List.getElem?_map, e]
    rfl
  have il : i < t.place.toList.length := by
    rw [Array.length_toList, F.tab.sz]
    exact (List.getElem?_eq_some_iff.mp e1).1
  obtain ⟨c, c1, c2⟩ := F.tab.before K2 e1 (List.getElem?_eq_getElem il)
  exact ⟨c, Nat.zero_le _, c1, by rw [List.getElem?_eq_getElem il, c2]⟩
end
end YjF
namespace YjF
open PySem PySem.Spec PyProof.Rows L2
section
variable {P : Program} {w : World} {A : Around} {E : Value → Shared → Prop} {s : Shared} {a : Addr} {L : Kept} {o : Obj} {es : Array (Int × Value)} {ep : Nat} {t : SetTable}
theorem tab_unplain {t : SetTable} {hs : List Int} (T : TabOk t hs) (b : Bool) : TabOk (if b = true then t else { t with plain := false }) hs ∧ (if b = true then t else { t with plain := false }).mask = t.mask ∧ (if b = true then t else { t with plain := false }).led = t.led ∧
    (if b = true then t else { t with plain := false }).fill = t.fill := by
  cases b
  · exact ⟨⟨T.ris, T.dm, T.sz, T.mok, T.bd, T.reach⟩, rfl, rfl, rfl⟩
  · exact ⟨T, rfl, rfl, rfl⟩
/-- a key is not where the set is, so it stays -/
theorem key_apart {h h' : Heap} {k : NestedKey} {b : Addr} (hk : KeyIs P w h k b) (ho : h.get? a = some o) (hd : o.data = .set es ep t) (sb : Heap.SameBut a h h') : KeyIs P w h' k b := by
  refine ⟨NestedIs.at (fun c u vs n e d => ?_) _ _ hk.1, hk.2⟩
  have ne : c ≠ a := fun z => by
    rw [z, ho] at e
    cases e
    rw [hd] at d
    cases d
  exact (sb.2 c ne).trans e
/-- a set behind x was added, which is the key k -/
def Put (P : Program) (w : World) (a : Addr) (L : Kept) (k : NestedKey) (x : Addr) (h h' : Heap) : Prop :=
  Heap.SameBut a h h' ∧ ∃ L' o es ep t, FewIn P w h' a L' o es ep t ∧ ((k ∈ L.map Prod.fst ∧ L' = L) ∨ (k ∉ L.map Prod.fst ∧ L'.Perm ((k, x) :: L)))
theorem add_key (F : FewIn P w s.heap a L o es ep t) {x : Addr} {k : NestedKey} (hx : KeyIs P w s.heap k x) (hu : A.units + 8 < cLine) (room : k ∉ L.map Prod.fst → L.length + 1 ≤ 4) {Q : Bool → Shared → Prop}
    (hQ : ∀ b h', Put P w a L k x s.heap h' → Q b { s with heap := h' }) : wpAny (model P w) A (setAddHashed a (.ref x) (k.hash w)) Q E s := by
  unfold setAddHashed
  rw [show (100000 : Nat) = 99999 + 1 from rfl, setAddHashedIn_succ]
  refine wpAny_holding (wpAny_bind (wpAny_setState_of F.here F.dat F.fits ?_))
  dsimp only
  have sc : byScan (.ref x) es = false := by simp [byScan, Value.scannable]
  rw [if_neg (by rw [sc]; exact Bool.false_ne_true)]
  refine wpAny_bind (look_all F hx hu (fun yes => ?_) fun K no K2 K3 => ?_)
  · exact wpAny_pure (hQ false s.heap ⟨Heap.SameBut.refl a s.heap, L, o, es, ep, t, F, .inl ⟨yes, rfl⟩⟩)
  dsimp only
  refine wpAny_bind (wpAny_setState_of F.here F.dat F.fits ?_)
  dsimp only
  obtain ⟨p1, p2, T1, m1, l1, _, _, _, f1⟩ := F.tab.put K2 K3
  have hl : (hashesOf w L).length = L.length := List.length_map ..
  rw [hl] at p2 f1
  -- what is written, whatever is found of the hash
  have write : ∀ b : Bool, wpAny (model P w) A (do
      storeSet a (SetTable.insertAt es (t.put (way t.mask (k.hash w) K)).2 (k.hash w, .ref x)) (if b = true then (t.put (way t.mask (k.hash w) K)).1 else { (t.put (way t.mask (k.hash w) K)).1 with plain := false })
      if (!false && (if b = true then (t.put (way t.mask (k.hash w) K)).1 else { (t.put (way t.mask (k.hash w) K)).1 with plain := false }).tooFull) = true then do
        setRelay a (SetTable.grown (es.size + 1))
        pure true
      else pure true) Q E s := fun b => by
    obtain ⟨T2, m2, l2, f2⟩ := tab_unplain T1 b
    rw [p1]
    generalize (if b = true then (t.put (way t.mask (k.hash w) K)).1 else { (t.put (way t.mask (k.hash w) K)).1 with plain := false }) = t2 at T2 m2 l2 f2 ⊢
    generalize SetTable.below t.place (way t.mask (k.hash w) K) = p at p2 T2 ⊢
    have ents : (SetTable.insertAt es p (k.hash w, Value.ref x)).toList = entriesOf w (L.take p ++ (k, x) :: L.drop p) := by
      rw [SetTable.toList_insertAt, F.ents]
      unfold entriesOf
      rw [List.map_append, List.map_cons, List.map_take, List.map_drop]
    have hsh : (hashesOf w L).take p ++ k.hash w :: (hashesOf w L).drop p = hashesOf w (L.take p ++ (k, x) :: L.drop p) := by
      unfold hashesOf
      rw [List.map_append, List.map_cons, List.map_take, List.map_drop]
    rw [hsh] at T2
    have pm := put_perm L p (k, x)
    generalize L.take p ++ (k, x) :: L.drop p = L2 at ents T2 pm
    generalize SetTable.insertAt es p (k.hash w, Value.ref x) = es2 at ents ⊢
    have n2 : L2.length = L.length + 1 := pm.length_eq
    have r2 : L2.length ≤ 4 := by
      rw [n2]
      exact room no
    have s2 : es2.size = L2.length := by
      rw [← Array.length_toList, ents]
      exact List.length_map ..
    have z4 : (4 : Nat) ≤ sizeLine := by
      rw [sizeLine_eq]
      decide
    refine wpAny_bind (wpAny_storeSet_of F.here F.dat ?_ (by rw [s2]; exact Nat.le_trans r2 z4))
    have full : t2.tooFull = false := by
      unfold SetTable.tooFull
      rw [f2, f1, m2, m1, F.mask]
      exact decide_eq_false (by omega)
    rw [full]
    rw [if_neg (by decide)]
    have sb : Heap.SameBut a s.heap (s.heap.update a (Obj.putSet es2 t2)) := Heap.SameBut.update ..
    have F2 : FewIn P w (s.heap.update a (Obj.putSet es2 t2)) a L2 { o with data := .set es2 (ep + 1) t2 } es2 (ep + 1) t2 := by
      refine ⟨store_at F.here F.dat, ⟨F.cls.1, F.cls.2.1, F.cls.2.2⟩, rfl, ents, T2, ?_, fun q hq => ?_, ?_, ?_, r2⟩
      · refine (pm.map Prod.fst).nodup_iff.mpr ?_
        exact List.nodup_cons.mpr ⟨no, F.nod⟩
      · rcases List.mem_cons.mp (pm.mem_iff.mp hq) with e | hq
        · rw [e]
          exact key_apart hx F.here F.dat sb
        · exact key_apart (F.keys q hq) F.here F.dat sb
      · rw [l2, l1]
        exact F.led
      · rw [m2, m1]
        exact F.mask
    exact wpAny_pure (hQ true _ ⟨sb, L2, _, es2, ep + 1, t2, F2, .inr ⟨no, pm⟩⟩)
  by_cases pl : (t.put (way t.mask (k.hash w) K)).1.plain = true
  · rw [if_pos pl]
    exact wpAny_bind ((key_asks k _ 8 s hx.1 hx.2).2 _ _ _ fun b => write b)
  · rw [if_neg pl]
    exact wpAny_bind (wpAny_pure (write true))
end
end YjF
namespace YjF
open PySem PySem.Spec PyProof.Rows L2
/-- unlike ones among some are no more than these -/
theorem no_more {α : Type} [DecidableEq α] : ∀ (l D : List α), l.Nodup → (∀ x ∈ l, x ∈ D) → l.length ≤ D.length
  | [], _, _, _ => Nat.zero_le _
  | x :: l, D, n, sub => by
    have n := List.nodup_cons.mp n
    have xd := sub x (List.mem_cons_self ..)
    have ih := no_more l (D.erase x) n.2 fun y hy => (List.mem_erase_of_ne (show y ≠ x from fun e => n.1 (e ▸ hy))).mpr (sub y (List.mem_cons_of_mem _ hy))
    have e := List.length_erase_of_mem xd
    have := List.length_pos_of_mem xd
    simp only [List.length_cons]
    omega
/-- all that stood, stands -/
def Over (h0 h : Heap) : Prop := ∀ b o, h0.get? b = some o → h.get? b = some o
section
variable {P : Program} {w : World} {A : Around} {E : Value → Shared → Prop} {s : Shared}
theorem KeyIs.over {h0 h : Heap} {k : NestedKey} {a : Addr} (hk : KeyIs P w h0 k a) (ov : Over h0 h) : KeyIs P w h k a := ⟨NestedIs.at (fun b o _ _ e _ => ov b o e) _ _ hk.1, hk.2⟩
/-- L is what a set has of the first i of some keys -/
structure Had (ks : Kept) (i : Nat) (L : Kept) : Prop where
  out : ∀ p ∈ L, ∃ j, j < i ∧ ks[j]? = some p
  all : ∀ (j : Nat) (p : NestedKey × Addr), j < i → ks[j]? = some p → p.1 ∈ L.map Prod.fst
theorem Had.none (ks : Kept) : Had ks 0 [] := ⟨fun _ h => (nomatch h), fun _ _ h => absurd h (Nat.not_lt_zero _)⟩
theorem Had.next {ks L L' : Kept} {i : Nat} {p : NestedKey × Addr} (H : Had ks i L) (e : ks[i]? = some p) (h : (p.1 ∈ L.map Prod.fst ∧ L' = L) ∨ (p.1 ∉ L.map Prod.fst ∧ L'.Perm (p :: L))) : Had ks (i + 1) L' := by
  have mem : ∀ q, q ∈ L' → q = p ∨ q ∈ L := fun q hq => by
    rcases h with ⟨_, e'⟩ | ⟨_, pm⟩
    · exact .inr (e' ▸ hq)
    · exact List.mem_cons.mp (pm.mem_iff.mp hq)
  have has : p.1 ∈ L'.map Prod.fst ∧ ∀ k, k ∈ L.map Prod.fst → k ∈ L'.map Prod.fst := by
    rcases h with ⟨c, e'⟩ | ⟨_, pm⟩
    · rw [e']
      exact ⟨c, fun _ z => z⟩
    · have pm' := pm.map Prod.fst
      exact ⟨pm'.mem_iff.mpr (List.mem_cons_self ..), fun k z => pm'.mem_iff.mpr (List.mem_cons_of_mem _ z)⟩
  refine ⟨fun q hq => ?_, fun j q hj eq => ?_⟩
  · rcases mem q hq with z | z
    · exact ⟨i, Nat.lt_succ_self i, z ▸ e⟩
    · obtain ⟨j, j1, j2⟩ := H.out q z
      exact ⟨j, Nat.lt_succ_of_lt j1, j2⟩
  · rcases Nat.lt_succ_iff_lt_or_eq.mp hj with z | z
    · exact has.2 _ (H.all j q z eq)
    · rw [z, e] at eq
      injection eq with eq
      rw [← eq]
      exact has.1
/-- the keys are at most four unlike ones -/
def Four (ks : Kept) : Prop := ∃ D : List NestedKey, D.length ≤ 4 ∧ ∀ p ∈ ks, p.1 ∈ D
theorem Four.less {ks L : Kept} {i : Nat} {p : NestedKey × Addr} (F : Four ks) (H : Had ks i L) (n : (L.map Prod.fst).Nodup) (pin : p ∈ ks) (no : p.1 ∉ L.map Prod.fst) : L.length + 1 ≤ 4 := by
  obtain ⟨D, d1, d2⟩ := F
  have z := no_more (p.1 :: L.map Prod.fst) D (List.nodup_cons.mpr ⟨no, n⟩) fun k hk => by
    rcases List.mem_cons.mp hk with e | hk
    · rw [e]
      exact d2 p pin
    · obtain ⟨q, hq, e⟩ := List.mem_map.mp hk
      obtain ⟨j, _, ej⟩ := H.out q hq
      rw [← e]
      exact d2 q (List.mem_of_getElem? ej)
  simp only [List.length_cons, List.length_map] at z
  exact Nat.le_trans z d1
/-- set.update over keys -/
theorem fill_keys {I : Addr} {fp wr : List Addr} {G : Array GenState → Array GenState → Prop} {Pv : Nat → Value → Prop} {St : Nat → Shared → Prop} {R : Result → Shared → Prop} {S : Addr} {ks : Kept} {h0 : Heap}
    (W : WalksS P w A.in1 I fp wr G ks.length Pv St) (hS : S ∉ fp) (val : ∀ i v, Pv i v → ∃ p, ks[i]? = some p ∧ v = .ref p.2) (alive : ∀ p ∈ ks, KeyIs P w h0 p.1 p.2) (four : Four ks) (new : h0.get? S = none) (newW : ∀ b ∈ wr, h0.get? b = none) (hu : A.in1.units + 8 < cLine)
    (hR : ∀ s' L o es ep t, Moved (S :: wr) G s s' → FewIn P w s'.heap S L o es ep t → Had ks ks.length L → Over h0 s'.heap → R (.ok (.ret .none)) s') :
    ∀ (m i : Nat) (s1 : Shared), ks.length - i = m → i ≤ ks.length → St i s1 → Moved (S :: wr) G s s1 → Over h0 s1.heap → (∃ L o es ep t, FewIn P w s1.heap S L o es ep t ∧ Had ks i L) →
      codeAny (model P w) A (.builtin "set.update.loop" ⟨[.ref S, .ref I], []⟩) R s1 := by
  have out : S ∉ wr := fun z => hS (W.sub _ z)
  -- what a step of the walk leaves
  have step : ∀ {s1 s2 : Shared} {L o es ep t i}, Moved wr G s1 s2 → Over h0 s1.heap → FewIn P w s1.heap S L o es ep t → Had ks i L → Over h0 s2.heap ∧ FewIn P w s2.heap S L o es ep t := fun {s1 s2 L o es ep t i} mv ov F H => by
    have ov2 : Over h0 s2.heap := fun b u e => mv.heap b u (fun z => by rw [newW b z] at e; cases e) (ov b u e)
    refine ⟨ov2, ⟨mv.heap S _ out F.here, F.cls, F.dat, F.ents, F.tab, F.nod, fun p hp => ?_, F.led, F.mask, F.few⟩⟩
    obtain ⟨j, _, e⟩ := H.out p hp
    exact KeyIs.over (alive p (List.mem_of_getElem? e)) ov2
  have wide : ∀ {s1 s2 : Shared}, Moved wr G s1 s2 → Moved (S :: wr) G s1 s2 := fun mv => mv.mono fun b hb => List.mem_cons_of_mem _ hb
  intro m
  induction m with
  | zero =>
    intro i s1 em hi st mv ov ⟨L, o, es, ep, t, F, H⟩
    obtain rfl : i = ks.length := by omega
    refine codeAny_builtin PyProof.Rows.F.entry_set_update_loop ?_
    rw [Around.under_plainId PyProof.Rows.F.plain_set_update_loop _]
    refine (show wpAny _ A.in1 (pyNext (.ref I) >>= _) _ _ s1 from wpAny_bind (W.done s1 _ _ st fun s2 mv2 => ?_))
    obtain ⟨ov2, F2⟩ := step mv2 ov F H
    exact (show wpAny _ A.in1 (ret Value.none) _ _ s2 from wpAny_pure (hR s2 L o es ep t (Moved.trans W.gtrans mv (wide mv2)) F2 H ov2))
  | succ m ih =>
    intro i s1 em hi st mv ov ⟨L, o, es, ep, t, F, H⟩
    have lt : i < ks.length := by omega
    refine codeAny_builtin PyProof.Rows.F.entry_set_update_loop ?_
    rw [Around.under_plainId PyProof.Rows.F.plain_set_update_loop _]
    refine (show wpAny _ A.in1 (pyNext (.ref I) >>= _) _ _ s1 from wpAny_bind (W.item i s1 _ _ lt st fun v s2 pv st2 mv2 => ?_))
    obtain ⟨p, ep1, rfl⟩ := val i v pv
    have pin : p ∈ ks := List.mem_of_getElem? ep1
    obtain ⟨ov2, F2⟩ := step mv2 ov F H
    refine (show wpAny _ A.in1 (holding [Value.ref p.2] (setAdd S (.ref p.2)) >>= _) _ _ s2 from wpAny_bind (wpAny_holding ?_))
    unfold setAdd
    refine wpAny_holding (wpAny_bind ((nestedKind P w).pyHash (k := p.1) hu (KeyIs.over (alive p pin) ov2) ?_))
    refine add_key (s := { s2 with toks := s2.toks + (nestedKind P w).draws p.1 }) F2 (KeyIs.over (alive p pin) ov2) hu (fun no => four.less H F.nod pin no) fun b h' put => ?_
    obtain ⟨sb, L', o', es', ep', t', F', how⟩ := put
    have keep : ∀ c u, c ≠ S → s2.heap.get? c = some u → h'.get? c = some u := fun c u ne e => (sb.2 c ne).trans e
    refine wpAny_pure ⟨plainId_quiet PyProof.Rows.F.plain_set_update_loop _, ih (i + 1) _ (by omega) lt ?_ ?_ (fun c u e => ?_) ⟨L', o', es', ep', t', F', H.next ep1 how⟩⟩
    · exact W.frame _ s2 _ _ st2 (Nat.le_add_right _ _) fun c hc u e => keep c u (fun z => hS (z ▸ hc)) e
    · exact Moved.trans W.gtrans mv ((wide mv2).then_heap (Nat.le_add_right _ _) fun c u hc e => keep c u (fun z => hc (z ▸ List.mem_cons_self ..)) e)
    · exact keep c u (fun z => by rw [z, new] at e; cases e) (ov2 c u e)
end
end YjF
namespace YjF
open PySem PySem.Spec PyProof.Rows L2
section
variable {P : Program} {w : World} {A : Around} {E : Value → Shared → Prop} {s : Shared}
def noneIn (w : World) : Obj := { cls := .type "set", dict := none, data := .set #[] 0 (.fresh 0 0 (!w.params.followText "set-order")) }
theorem few_none {h : Heap} {a : Addr} (ho : h.get? a = some (noneIn w)) : FewIn P w h a [] (noneIn w) #[] 0 (.fresh 0 0 (!w.params.followText "set-order")) where
  here := ho
  cls := ⟨rfl, rfl, rfl⟩
  dat := rfl
  ents := rfl
  tab := ⟨List.Pairwise.nil, rfl, rfl, .inl rfl, fun _ z => (nomatch z), fun i _ _ e => by simp [hashesOf] at e⟩
  nod := List.nodup_nil
  keys := fun _ z => (nomatch z)
  led := by
    show _ ∨ (!w.params.followText "set-order") = true
    cases w.params.followText "set-order"
    · exact .inr rfl
    · exact .inl rfl
  mask := rfl
  few := Nat.zero_le _
/-- what set(xs) leaves: a set of the keys at S -/
def Made (P : Program) (w : World) (S : Addr) (ks : Kept) (s s' : Shared) : Prop := ∃ h' tk L o es ep t, s' = { s with heap := h', toks := tk } ∧ FewIn P w h' S L o es ep t ∧ Had ks ks.length L ∧ Over s.heap h'
theorem init_keys {S l : Addr} {items : Array Value} {ks : Kept} {h0 : Heap} (hh : A.handled = none) (ov : Over h0 s.heap) (new : h0.get? S = none) (newI : h0.get? s.heap.objs.size = none) (hS : s.heap.get? S = some (noneIn w)) (hl : s.heap.IsList l items) (hi : items.toList = ks.map fun p => Value.ref p.2)
    (alive : ∀ p ∈ ks, KeyIs P w h0 p.1 p.2) (four : Four ks) (hu : A.units + 16 < cLine) :
    codeAny (model P w) A (.call (.builtin "set.__init__") ⟨[.ref S, .ref l], []⟩) (wants (fun r s' => r = .none ∧ ∃ h' tk L o es ep t, s' = { s with heap := h', toks := tk } ∧ FewIn P w h' S L o es ep t ∧ Had ks ks.length L ∧ Over h0 h') E) s := by
  have sz : items.size = ks.length := by
    have q := congrArg List.length hi
    rwa [Array.length_toList, List.length_map] at q
  obtain ⟨ol, hol, hcl, nl, hdl⟩ := id hl
  have lS : l ≠ S := fun z => by
    rw [z, hS] at hol
    cases hol
    exact absurd (show (Value.type "set") = Value.type "list" from hcl) (by decide)
  have ll : l < s.heap.objs.size := Heap.lt_size hol
  have ls : S < s.heap.objs.size := Heap.lt_size hS
  have ty : s.TypeIs (.ref S) "set" := ⟨_, hS, rfl⟩
  refine codeAny_call_builtin PySem.F.called_set.init.plain PySem.F.entry_set_init (check_set_init_1 ty ?_)
  obtain ⟨ocls, odict, odata, oslots⟩ := ol
  simp only at hcl hdl
  subst hcl; subst hdl
  have g1 := PySem.F.sub_list_set
  have g2 := PySem.F.sub_list_frozenset
  have g3 : (Value.type "list" == Value.type "dict") = false := by decide
  unfold Builtin.«set.__init__» noKeywords Builtin.Frozenset.updateFrom
  generalize hPI : pyIter = PI
  wp_walk
  subst hPI
  refine wpAny_pyIter_list hl ?_
  refine wpAny_bind (wpAny_runValue ?_)
  have hh3 : A.in1.in1.handled = none := by simp [hh]
  have nI : l ≠ s.heap.objs.size := Nat.ne_of_lt ll
  have nS : S ∉ [s.heap.objs.size, l] := by
    simp only [List.mem_cons, List.mem_singleton, List.not_mem_nil, or_false, not_or]
    exact ⟨Nat.ne_of_lt ls, lS.symm⟩
  have val : ∀ (i : Nat) (v : Value), items[i]? = some v → ∃ p, ks[i]? = some p ∧ v = .ref p.2 := fun i v hv => by
    have q : items.toList[i]? = some v := by rw [Array.getElem?_toList]; exact hv
    rw [hi, List.getElem?_map] at q
    obtain ⟨p, p1, p2⟩ := Option.map_eq_some_iff.mp q
    exact ⟨p, p1, p2.symm⟩
  have W := (Walks.list (prog := P) (w := w) hh3 _ l nI items).toS
  rw [sz] at W
  refine fill_keys (s := { s with heap := s.heap.push { cls := .type "list_iterator", data := .fields #[.ref l, .int 0 0] } }) W nS val alive four new (fun b hb => ?_) (by simp only [Around.in1_units]; omega) (fun s' L o es ep t mv F H ov' => ?_) ks.length 0 _ (by omega) (Nat.zero_le _) ?_ (Moved.refl W.grefl) ?_ ?_
  · rw [List.mem_singleton.mp hb]
    exact newI
  · obtain ⟨h', g2, d', tk', os'⟩ := s'
    obtain rfl : g2 = s.gens := mv.gens
    obtain rfl : d' = s.drawn := mv.drawn
    obtain rfl : os' = s.os := mv.os
    exact wpAny_pure (wpAny_pure ⟨rfl, h', tk', L, o, es, ep, t, rfl, F, H, ov'⟩)
  · exact ⟨⟨_, Heap.get?_push_size _ rfl, rfl, rfl⟩, hl.push _⟩
  · exact fun b u e => Heap.get?_push_of_some _ (ov b u e)
  · exact ⟨[], _, _, _, _, few_none (Heap.get?_push_of_some _ hS), Had.none ks⟩
theorem set_of_keys {l : Addr} {items : Array Value} {ks : Kept} {Q : Value → Shared → Prop} (hh : A.handled = none) (hl : s.heap.IsList l items) (hi : items.toList = ks.map fun p => Value.ref p.2) (alive : ∀ p ∈ ks, KeyIs P w s.heap p.1 p.2) (four : Four ks) (hu : A.units + 32 < cLine)
    (h : ∀ (h' : Heap) (tk : Nat) L o es ep t, FewIn P w h' s.heap.objs.size L o es ep t → Had ks ks.length L → Over s.heap h' → Q (.ref s.heap.objs.size) { s with heap := h', toks := tk }) :
    wpAny (model P w) A (call (.type "set") [.ref l]) Q E s := by
  obtain ⟨c, tl, hmro⟩ := PySem.F.called_set.mro
  have y1 := PySem.F.called_set.made
  have y2 := PySem.F.called_set.sub
  have y3 := PySem.F.called_set.notType
  have y4 := PySem.F.called_set.canCreate
  have y5 := PySem.F.typeCall_set_1 (.ref l)
  refine wpAny_call (codeAny_of_tree (wpAny_pure ⟨Code.quiet_builtin _ (by decide +kernel), codeAny_builtin PySem.F.entry_type_call ?_⟩))
  rw [Around.under_plain (weight_type_call_type "set" [.ref l] []) rfl]
  repeat (any_goals (first | assumption | wp_step))
  refine codeAny_mono (code_set_led1 (.ref l) (E := E) (Q₁ := fun v s1 => v = .ref s.heap.objs.size ∧ s1 = { s with heap := s.heap.push (noneIn w) }) ⟨rfl, rfl⟩) fun r s1 hr => ?_
  have fresh : ∀ b, s.heap.objs.size ≤ b → s.heap.get? b = none := fun b hb => by
    cases q : s.heap.get? b with
    | none => rfl
    | some u => exact absurd (Heap.lt_size q) (Nat.not_lt.mpr hb)
  rcases r with e | f
  · exact hr
  · cases f with
    | ret v =>
      obtain ⟨rfl, rfl⟩ := hr
      have at0 : (s.heap.push (noneIn w)).get? s.heap.objs.size = some (noneIn w) := Heap.get?_push_size _ rfl
      have ty : Shared.TypeIs { s with heap := s.heap.push (noneIn w) } (.ref s.heap.objs.size) "set" := ⟨_, at0, rfl⟩
      have y6 := PySem.F.called_set.init.lookup
      have y7 := PySem.F.called_set.init.bind (.ref s.heap.objs.size)
      repeat (any_goals (first | assumption | wp_step))
      refine codeAny_mono (init_keys (h0 := s.heap) (s := { s with heap := s.heap.push (noneIn w) }) (E := E) (by simp [hh]) (fun b u e => Heap.get?_push_of_some _ e) (fresh _ (Nat.le_refl _)) (fresh _ (by rw [Heap.size_push]; exact Nat.le_succ _)) at0 (hl.push _) hi alive four (by simp only [Around.in1_units]; omega)) fun r2 s2 hr2 => ?_
      rcases r2 with e | f
      · exact hr2
      · cases f with
        | ret v =>
          obtain ⟨rfl, h', tk, L, o, es, ep, t, rfl, z1, z2, z3⟩ := hr2
          repeat (any_goals (first | assumption | wp_step))
          exact h _ _ _ _ _ _ _ z1 z2 z3
        | _ => exact hr2.elim
    | _ => exact hr.elim
end
end YjF
set_option Elab.async false
set_option linter.all false
set_option maxRecDepth 100000
set_option maxHeartbeats 4000000
set_option pp.maxSteps 1500
/-! Sets of facts: set(..) of a list of facts, at most four unlike ones, and sorted(..) of it. -/
namespace YjF
open PySem PySem.Spec PyProof.Rows L2 YjD
/-- facts with the places of their tuples -/
abbrev FKept := List (Fct × Addr)
def kept (L : FKept) : Kept := L.map fun p => (keyF p.1, p.2)
theorem kept_of {F : FKept} : ∀ (L : Kept), (∀ p ∈ L, ∃ q ∈ F, p = (keyF q.1, q.2)) → ∃ LF : FKept, L = kept LF ∧ ∀ q ∈ LF, q ∈ F
  | [], _ => ⟨[], rfl, fun _ z => nomatch z⟩
  | p :: L, h => by
    obtain ⟨q, hq, e⟩ := h p (List.mem_cons_self ..)
    obtain ⟨LF, e2, s⟩ := kept_of L fun r hr => h r (List.mem_cons_of_mem _ hr)
    refine ⟨q :: LF, by rw [e, e2]; rfl, fun r hr => ?_⟩
    rcases List.mem_cons.mp hr with z | z
    · rw [z]
      exact hq
    · exact s r z
theorem kept_keys (L : FKept) : (kept L).map Prod.fst = (L.map Prod.fst).map keyF := by
  unfold kept
  rw [List.map_map, List.map_map]
  rfl
/-- a set of these facts stands at a -/
def SetF0 (P : Program) (w : World) (h : Heap) (a : Addr) (L : FKept) : Prop := ∃ o es ep t, h.get? a = some o ∧ (∀ h', h'.get? a = some o → (∀ p ∈ kept L, KeyIs P w h' p.1 p.2) → FewIn P w h' a (kept L) o es ep t) ∧ (L.map Prod.fst).Nodup
def SetFO (P : Program) (w : World) (a : Addr) (L : FKept) : HO := .ext fun h => SetF0 P w h a L
theorem setFO_new {P : Program} {w : World} {H : Hp} {h : Heap} {a : Addr} {L : FKept} (R : SetF0 P w h a L) : ObjOk P w H h a (SetFO P w a L) := by
  obtain ⟨o, es, ep, t, ho, r⟩ := id R
  refine ⟨R, ⟨o, ho⟩, fun h1 h2 p k => ?_⟩
  obtain ⟨o', es', ep', t', ho', r'⟩ := p
  exact ⟨o', es', ep', t', k o' ho', r'⟩
theorem setF0_of {P : Program} {w : World} {h : Heap} {a : Addr} {L : FKept} {o : Obj} {es : Array (Int × Value)} {ep : Nat} {t : SetTable} (F : FewIn P w h a (kept L) o es ep t) : SetF0 P w h a L := by
  refine ⟨o, es, ep, t, F.here, fun h' e k => ⟨e, F.cls, F.dat, F.ents, F.tab, F.nod, k, F.led, F.mask, F.few⟩, ?_⟩
  have n := F.nod
  rw [kept_keys] at n
  exact List.Pairwise.of_map keyF (fun _ _ ne e => ne (congrArg keyF e)) n
section
variable {X : Cx}
theorem keys_kept {H : Hp} {us : List V} {fs : List Fct} {vs : List Value} (k : KeysAt H us fs) (r : Vals us vs) : ∃ F : FKept, vs = F.map (fun q => Value.ref q.2) ∧ F.map Prod.fst = fs ∧ ∀ q ∈ F, KeyAt H q.2 q.1 := by
  induction k generalizing vs with
  | nil =>
    cases r
    exact ⟨[], rfl, rfl, fun _ z => nomatch z⟩
  | @cons u f us fs a t ih =>
    cases r with
    | cons r1 r2 =>
      obtain ⟨ka, rfl, kk⟩ := a
      obtain ⟨F, e1, e2, e3⟩ := ih r2
      obtain rfl := (show _ = Value.ref ka from r1)
      refine ⟨(f, ka) :: F, by rw [e1]; rfl, by rw [List.map_cons, e2], fun q hq => ?_⟩
      rcases List.mem_cons.mp hq with z | z
      · rw [z]
        exact kk
      · exact e3 q z
/-- set(xs), xs a list of facts -/
def rSetF (K : PySem.W.Frag) (P : Program) (w : World) : List V → Hp → VK → Prop := fun vs H Q => ∃ l us fs, vs = [V.ref l] ∧ SqL K H l us ∧ KeysAt H us fs ∧ (∃ D : List Fct, D.length ≤ 4 ∧ ∀ f ∈ fs, f ∈ D) ∧
  ∀ a LF, H a = none → (∀ q ∈ LF, KeyAt H q.2 q.1 ∧ q.1 ∈ fs) → (∀ f ∈ fs, f ∈ LF.map Prod.fst) → (LF.map Prod.fst).Nodup → Q (.ref a) (upd H a (SetFO P w a LF))
theorem cr_setF (hc : X.calm = true) (hu : X.A.units + 64 < cLine) : CallR X (.type "set") (rSetF X.K X.prog X.w) := by
  intro pins s σ H xs vs Q I r h
  obtain ⟨l, us, fs, rfl, hl, hk, ⟨D, d1, d2⟩, q⟩ := h
  obtain ⟨u, rfl, ru⟩ := vals1 r
  obtain rfl : u = Value.ref l := ru
  obtain ⟨its, rv, pl, hz⟩ := I.list hl
  obtain ⟨F, f1, f2, f3⟩ := keys_kept hk rv
  have alive : ∀ p ∈ kept F, KeyIs X.prog X.w s.heap p.1 p.2 := fun p hp => by
    obtain ⟨q', hq, e⟩ := List.mem_map.mp hp
    rw [← e]
    exact fact_is I.hok (f3 q' hq)
  have four : Four (kept F) := by
    refine ⟨D.map keyF, by rw [List.length_map]; exact d1, fun p hp => ?_⟩
    obtain ⟨q', hq, e⟩ := List.mem_map.mp hp
    rw [← e]
    exact List.mem_map.mpr ⟨q'.1, d2 _ (by rw [← f2]; exact List.mem_map.mpr ⟨q', hq, rfl⟩), rfl⟩
  have hi : its.toArray.toList = (kept F).map fun p => Value.ref p.2 := by
    unfold kept
    rw [List.map_map]
    exact f1
  refine set_of_keys (P := X.prog) (w := X.w) (ks := kept F) (I.ok.hd hc) pl.isList hi alive four (by omega) fun h' tk L o es ep t R H' ov => ?_
  have hn : H s.heap.objs.size = none := I.hok.fresh (Nat.le_refl _)
  obtain ⟨LF, e, sub⟩ := kept_of (F := F) L fun p hp => by
    obtain ⟨j, _, ej⟩ := H'.out p hp
    obtain ⟨q', hq, e⟩ := List.mem_map.mp (List.mem_of_getElem? ej)
    exact ⟨q', hq, e.symm⟩
  subst e
  have R0 := setF0_of R
  have hnod := R0
  obtain ⟨_, _, _, _, _, _, nd⟩ := hnod
  refine ⟨.ref s.heap.objs.size, upd H s.heap.objs.size (SetFO X.prog X.w s.heap.objs.size LF), I.laid (t' := tk) ov (Nat.le_refl _) (setFO_new R0), rfl, q _ LF hn (fun q' hq => ⟨f3 q' (sub q' hq), ?_⟩) (fun f hf => ?_) nd⟩
  · rw [← f2]
    exact List.mem_map.mpr ⟨q', sub q' hq, rfl⟩
  · rw [← f2] at hf
    obtain ⟨q', hq, e⟩ := List.mem_map.mp hf
    obtain ⟨j, hj⟩ := List.getElem?_of_mem hq
    have hj' : (kept F)[j]? = some (keyF q'.1, q'.2) := by
      unfold kept
      rw [List.getElem?_map, hj]
      rfl
    have z := H'.all j _ (List.getElem?_eq_some_iff.mp hj').1 hj'
    rw [kept_keys] at z
    obtain ⟨g, hg, eg⟩ := List.mem_map.mp z
    rw [← e, ← keyF_inj eg]
    exact hg
/-- sorted(..) of such a set -/
def rSortS (P : Program) (w : World) : List V → Hp → VK → Prop := fun vs H Q => ∃ a LF, vs = [V.ref a] ∧ H a = some (SetFO P w a LF) ∧ (∀ q ∈ LF, KeyAt H q.2 q.1) ∧ ∀ us p fs, H p = none → fs.Perm (LF.map Prod.fst) → KeysAt H us (sortF fs) → Q (.ref p) (upd H p (.lst us))
theorem cr_sortS (hc : X.calm = true) (hu : X.A.units + 64 < cLine) : CallR X (.builtin "sorted") (rSortS X.prog X.w) := by
  intro pins s σ H vs us0 Q I r h
  obtain ⟨a, LF, rfl, ha, hk, q⟩ := h
  obtain ⟨u, rfl, ru⟩ := vals1 r
  obtain rfl : u = Value.ref a := ru
  have R0 : SetF0 X.prog X.w s.heap a LF := (I.hok a _ ha).1
  obtain ⟨o, es, ep, t, ho, full, nd⟩ := R0
  have R := full s.heap ho fun p hp => by
    obtain ⟨q', hq, e⟩ := List.mem_map.mp hp
    rw [← e]
    exact fact_is I.hok (hk q' hq)
  have few := R.few
  have cnt := R.count
  have kl : (kept LF).length = LF.length := List.length_map ..
  refine Calls.call_function_entry PyProof.Rows.kind_sorted PyProof.Rows.plain_sorted PyProof.Rows.entry_sorted (PyProof.Rows.args_sorted1 _) ?_
  unfold Builtin.«sorted»
  refine wpAny_bind (m := checkCount "sorted" 1 1 _) (wpAny_pure ?_)
  refine wpAny_bind (collect_set (A := X.A.in1) (I.ok.hd hc) ⟨o, ho, R.cls.1, R.dat⟩ R.fits (by rw [cnt]; unfold scanBound; omega) R.tab.ris R.led fun s1 out k1 hz g1 o1 pm => ?_)
  -- the walk's values are the facts' tuples, in some order
  have vals : es.toList.map (·.2) = LF.map fun q' => Value.ref q'.2 := by
    rw [R.ents]
    unfold entriesOf kept
    rw [List.map_map, List.map_map]
    rfl
  rw [vals] at pm
  obtain ⟨M, e1, pM⟩ : ∃ M : FKept, out = M.map (fun q' => Value.ref q'.2) ∧ M.Perm LF := by
    have g : ∀ {xs ys : List Value}, xs.Perm ys → ∀ N : FKept, ys = N.map (fun q' => Value.ref q'.2) → ∃ M : FKept, xs = M.map (fun q' => Value.ref q'.2) ∧ M.Perm N := by
      intro xs ys p
      induction p with
      | nil =>
        intro N e
        exact ⟨N, e, .refl _⟩
      | cons x p ih =>
        intro N e
        cases N with
        | nil => cases e
        | cons n N =>
          rw [List.map_cons] at e
          injection e with e1 e2
          obtain ⟨M, m1, m2⟩ := ih N e2
          exact ⟨n :: M, by rw [List.map_cons, m1, e1], m2.cons n⟩
      | swap x y l =>
        intro N e
        match N, e with
        | [], e => cases e
        | [_], e => cases e
        | n :: m :: N, e =>
          rw [List.map_cons, List.map_cons] at e
          injection e with e1 e2
          injection e2 with e2 e3
          exact ⟨m :: n :: N, by rw [List.map_cons, List.map_cons, e1, e2, e3], .swap ..⟩
      | trans p1 p2 ih1 ih2 =>
        intro N e
        obtain ⟨M2, m1, m2⟩ := ih2 N e
        obtain ⟨M1, n1, n2⟩ := ih1 M2 m1
        exact ⟨M1, n1, n2.trans m2⟩
    exact g pm LF rfl
  have kM : ∀ q' ∈ M, KeyAt H q'.2 q'.1 := fun q' hq => hk q' (pM.mem_iff.mp hq)
  have lM : M.length = LF.length := pM.length_eq
  have ol : out.length = M.length := by rw [e1, List.length_map]
  have es1 : s1 = { s with heap := s1.heap, gens := s1.gens, drawn := s1.drawn, toks := s1.toks } := by
    cases s1
    cases s
    cases o1
    rfl
  have zl : (64 : Nat) < sizeLine := by rw [sizeLine_eq]; decide
  refine wpAny_bind (wpAny_newList ?_ (by omega))
  have hoL : (s1.heap.push (seqObj "list" out.toArray 0)).get? s1.heap.objs.size = some (seqObj "list" out.toArray 0) := Heap.get?_push_size _ rfl
  have old : ∀ b ob, s1.heap.get? b = some ob → (s1.heap.push (seqObj "list" out.toArray 0)).get? b = some ob := fun b ob e => Heap.get?_push_of_some _ e
  have each : ∀ {R : Value → Fct → Prop}, (∀ v ka f, KeyAt H ka f → v = .ref ka → R v f) → PySem.W.EachIs R out (M.map Prod.fst) := by
    intro R hR
    rw [e1]
    have g : ∀ N : FKept, (∀ q' ∈ N, KeyAt H q'.2 q'.1) → PySem.W.EachIs R (N.map fun q' => Value.ref q'.2) (N.map Prod.fst) := by
      intro N
      induction N with
      | nil =>
        intro _
        exact .nil
      | cons n N ih =>
        intro kn
        exact .cons (hR _ n.2 n.1 (kn n (List.mem_cons_self ..)) rfl) (ih fun q' hq => kn q' (List.mem_cons_of_mem _ hq))
    exact g M kM
  refine wpAny_bind (wpAny_holding ?_)
  refine PySem.W.list_sort_data (s := { s1 with heap := s1.heap.push (seqObj "list" out.toArray 0) }) (bs := M.map Prod.fst) (enc := factD) (R := fun v f => ∃ ka, v = Value.ref ka ∧ KeyAt H ka f) hoL
    (each fun v ka f kk e => ⟨ka, e, kk⟩) (each fun v ka f kk e => ⟨[], by rw [e]; exact PyProof.Rows.Reads.keeps (fun b ob e => old b ob (k1 b ob e)) (reads_fact I.hok kk), List.not_mem_nil⟩) (PySem.W.AllAlike.of alike_facts) (PySem.W.Sortable.tuples fun f => ⟨_, _, rfl⟩) (by rw [List.length_map]; omega)
    (fun f _ => by rw [depth_fact]; show X.A.units + 1 + 1 + 2 < cLine; omega) fun out2 ho2 hout => ?_
  obtain ⟨c, hc'⟩ := PyProof.Rows.sortedHeap_at (vs := out) (out := List.toArray out2) hoL
  have back : ∀ {vs : List Value} {fs : List Fct}, PySem.W.EachIs (fun v f => ∃ ka, v = Value.ref ka ∧ KeyAt H ka f) vs fs → ∃ us, Vals us vs ∧ KeysAt H us fs := by
    intro vs fs a
    induction a with
    | nil => exact ⟨[], .nil, .nil⟩
    | cons a t ih =>
      obtain ⟨us, r1, r2⟩ := ih
      obtain ⟨ka, rfl, kk⟩ := a
      exact ⟨.ref ka :: us, .cons rfl r1, .cons ⟨ka, rfl, kk⟩ r2⟩
  obtain ⟨us, u1, u2⟩ := back hout
  have hz2 : us.length ≤ sizeLine := by
    have h1 := Paired.length u1
    rw [List.length_map] at ho2
    omega
  have I2 : Inv X pins σ (upd H s1.heap.objs.size (.lst us)) { s with heap := sortedHeap (s1.heap.push (seqObj "list" out.toArray 0)) s1.heap.objs.size out out2.toArray, gens := s1.gens, drawn := s1.drawn, toks := s1.toks } := by
    have k2 : ∀ b u, s.heap.get? b = some u → (sortedHeap (s1.heap.push (seqObj "list" out.toArray 0)) s1.heap.objs.size out out2.toArray).get? b = some u := fun b u e => by
      have hb : b < s1.heap.objs.size := Heap.lt_size (k1 b u e)
      rw [PyProof.Rows.sortedHeap_old (Nat.ne_of_lt hb) (by rw [size_push']; exact Nat.lt_succ_of_lt hb)]
      exact old _ _ (k1 b u e)
    exact I.call (ch := []) (Un.laid k2 hz (I.hok.fresh hz)) (I.hok.laid k2 hz ⟨hz2, out2, c, u1, hc'⟩) (by rw [g1]; exact I.bare) (fun _ z => nomatch z)
  refine wpAny_pure ⟨_, rfl, .ref s1.heap.objs.size, upd H s1.heap.objs.size (.lst us), ?_, rfl, q us _ (M.map Prod.fst) (I.hok.fresh hz) (pM.map Prod.fst) u2⟩
  rw [es1]
  exact I2
theorem cr_setFK {P : Program} {w : World} {K : PySem.W.Frag} (hc : X.calm = true) (hu : X.A.units + 64 < cLine) (hP : X.prog = P := by rfl) (hw : X.w = w := by rfl) (hK : X.K = K := by rfl) : CallR X (.type "set") (rSetF K P w) := by
  subst hP hw hK
  exact cr_setF hc hu
theorem cr_sortSK {P : Program} {w : World} (hc : X.calm = true) (hu : X.A.units + 64 < cLine) (hP : X.prog = P := by rfl) (hw : X.w = w := by rfl) : CallR X (.builtin "sorted") (rSortS P w) := by
  subst hP hw
  exact cr_sortS hc hu
end
end YjF
set_option Elab.async false
set_option linter.all false
set_option maxRecDepth 100000
set_option maxHeartbeats 4000000
set_option pp.maxSteps 1500
/-! Two fors in one comprehension, turn by turn. -/
namespace YjF
open PySem PySem.Spec PyProof.Rows L2 YjD
/-- the inner for of a turn: Nx holds behind it -/
abbrev Lc2In (J1 : It) (g1 : TG) (tt1 : TT) (te : TE) (vs1 : List Nat) (D : Addr) (σ2 : L2.St) (Nx : Hp → Prop) (H4 : Hp) : Prop :=
  ∃ W1 : Nat → Nat → Hp → Prop, (∃ m, W1 0 m H4) ∧ ∀ j k H, W1 j k H → (J1.stop j H ∧ Nx H) ∨ (J1.go j H ∧ ∃ Nx1 : Hp → Prop, (∀ H', Nx1 H' → ∃ k', k' < k ∧ W1 (j + 1) k' H') ∧ ∀ x H', J1.yld j H x H' → g1 x (wipe σ2 vs1) H' fun σ3 H5 => wipe σ3 vs1 = wipe σ2 vs1 ∧ tt1 σ3 H5 fun b H6 =>
    if b = true then te σ3 H6 fun y H7 => ∃ acc, H7 D = some (.lst acc) ∧ acc.length < sizeLine ∧ Nx1 (upd H7 D (.lst (acc ++ [y]))) else Nx1 H6)
theorem lc2_in {J1 : It} {n1 : Nat} {G1 : Hp → Prop} {Y1 : Nat → Hp → V → Hp → Prop} (wk : Walk J1 n1 G1 Y1) {g1 : TG} {tt1 : TT} {te : TE} {vs1 : List Nat} {D : Addr} {σ2 : L2.St} {Nx : Hp → Prop} {H4 : Hp} (Pv : Nat → Hp → Prop) (h0 : Pv 0 H4) (hG : ∀ i H, i ≤ n1 → Pv i H → G1 H)
    (hs : ∀ i x H H', i < n1 → Pv i H → Y1 i H x H' → g1 x (wipe σ2 vs1) H' fun σ3 H5 => wipe σ3 vs1 = wipe σ2 vs1 ∧ tt1 σ3 H5 fun b H6 =>
      if b = true then te σ3 H6 fun y H7 => ∃ acc, H7 D = some (.lst acc) ∧ acc.length < sizeLine ∧ Pv (i + 1) (upd H7 D (.lst (acc ++ [y]))) else Pv (i + 1) H6) (hd : ∀ H, Pv n1 H → Nx H) : Lc2In J1 g1 tt1 te vs1 D σ2 Nx H4 := by
  refine ⟨fun i m H => m = n1 - i ∧ i ≤ n1 ∧ Pv i H, ⟨n1, rfl, Nat.zero_le _, h0⟩, ?_⟩
  rintro i m H ⟨rfl, hi, p⟩
  have gd := hG i H hi p
  by_cases lt : i < n1
  · exact .inr ⟨wk.goes i H lt gd, Pv (i + 1), fun H' p' => ⟨n1 - (i + 1), by omega, rfl, lt, p'⟩, fun x H' y => hs i x H H' lt p (wk.yields i H x H' lt gd y)⟩
  · have e : i = n1 := by omega
    subst e
    exact .inl ⟨wk.stops H gd, hd H p⟩
theorem lc2_it {J : It} {n : Nat} {Gd : Hp → Prop} {Y : Nat → Hp → V → Hp → Prop} (wk : Walk J n Gd Y) {g g1 : TG} {tt tt1 : TT} {wi1 : TI} {te : TE} {vs vs1 : List Nat} {σ : L2.St} {H1 : Hp} {D : Addr} {Qd : Hp → Prop} (Pv : Nat → Hp → Prop) (h0 : Pv 0 (upd H1 D (.lst []))) (hG : ∀ i H, i ≤ n → Pv i H → Gd H)
    (hs : ∀ i x H H', i < n → Pv i H → Y i H x H' → g x (wipe σ vs) H' fun σ2 H2 => wipe σ2 vs = wipe σ vs ∧ tt σ2 H2 fun b H3 => if b = true then wi1 σ2 H3 fun J1 H4 => Lc2In J1 g1 tt1 te vs1 D σ2 (Pv (i + 1)) H4 else Pv (i + 1) H3) (hd : ∀ H, Pv n H → Qd H) :
    ∃ W : Nat → Nat → Hp → Prop, (∃ m, W 0 m (upd H1 D (.lst []))) ∧ ∀ i m H, W i m H → (J.stop i H ∧ Qd H) ∨ (J.go i H ∧ ∃ Nx : Hp → Prop, (∀ H', Nx H' → ∃ m', m' < m ∧ W (i + 1) m' H') ∧ ∀ x H', J.yld i H x H' → g x (wipe σ vs) H' fun σ2 H2 => wipe σ2 vs = wipe σ vs ∧ tt σ2 H2 fun b H3 =>
      if b = true then wi1 σ2 H3 fun J1 H4 => Lc2In J1 g1 tt1 te vs1 D σ2 Nx H4 else Nx H3) := by
  refine ⟨fun i m H => m = n - i ∧ i ≤ n ∧ Pv i H, ⟨n, rfl, Nat.zero_le _, h0⟩, ?_⟩
  rintro i m H ⟨rfl, hi, p⟩
  have gd := hG i H hi p
  by_cases lt : i < n
  · exact .inr ⟨wk.goes i H lt gd, Pv (i + 1), fun H' p' => ⟨n - (i + 1), by omega, rfl, lt, p'⟩, fun x H' y => hs i x H H' lt p (wk.yields i H x H' lt gd y)⟩
  · have e : i = n := by omega
    subst e
    exact .inl ⟨wk.stops H gd, hd H p⟩
end YjF
set_option Elab.async false
set_option linter.all false
set_option maxRecDepth 100000
set_option maxHeartbeats 4000000
set_option pp.maxSteps 1500
/-! An own error below an own error below Exception, with one field that its __init__ stores. -/
namespace PySem
namespace YjX_BadSpans
open PySem.W PySem.Calls PyProof.Rows PySem.HandSPX
abbrev exTail : List Value := [.type "Exception", .type "BaseException", .type "object"]
def nArgs (p1 p2 : Pos) : Arguments := { posonlyargs := [], args := [{ arg := "self", annotation := none, pos := p1 }, { arg := "number", annotation := none, pos := p2 }], vararg := none, kwonlyargs := [], kw_defaults := [], kwarg := none, defaults := [] }
def nBody (q1 q2 q3 q4 : Pos) : List Stmt := [.Assign [.Attribute (.Name "self" q1) "number" q2] (.Name "number" q3) q4]
def nScope (mo : List (Str × Const)) : Scope := { kind := .function, names := [(PySem.Str.ofString "self", .local), (PySem.Str.ofString "number", .local)], isGenerator := false, isCoroutine := false, more := mo }
/-- what the top has left of such a class at C, its __init__ at fI -/
structure OneTxt (K : Frag) (mg : Str → Option Value) (C fI : Addr) : Prop where
  cla : mg "BadSpans" = some (.ref C)
  ini : excInitIn K C exTail "Exception.__new__" = true
  ovr : excOver K C exTail = true
  tak : takerIn K C "number" = some none
  dct : ∃ cd, clsIn K C = some cd ∧ cd.hasDict = true
  sto : findIn K (.ref C) "__setattr__" = some (some (.builtin "object.__setattr__"))
  gat : findIn K (.ref C) "__getattribute__" = some (some (.builtin "BaseException.__getattribute__"))
  ggt : findIn K (.ref C) "__getattr__" = some none
  non : findIn K (.ref C) "number" = some none
  iCl : findIn K (.ref C) "__init__" = some (some (.ref fI))
  tyI : typeIn K (.ref fI) = some (.type "function")
  kep : keepIn K (.ref C) = true
  exB : subIn K (.ref C) (.type "BaseException") = some true
  tyC : typeIn K (.ref C) = some (.type "type")
  hdC : hasDictIn K C = true
  exm : exmOne K (.ref C) (.ref C) = some true
  fun' : ∃ (oc : Value) (od : Option Addr) (doc pm : Value) (an : Option Addr) (cdv ct : Value) (osl : Array (Option Value)) (p1 p2 q1 q2 q3 q4 : Pos) (mo : List (Str × Const)) (kw : Value),
    K.lookup fI = some ⟨oc, od, .func (fnOf "__init__" "BadSpans.__init__" (nArgs p1 p2) (nBody q1 q2 q3 q4) (nScope mo) .none kw doc pm an cdv ct), osl⟩ ∧ codeIn K cdv "BadSpans.__init__" = true
section
open Builtin Builtin.ObjectAttr
variable {prog : Program} {w : World} {A : Around} {E : Value → Shared → Prop} {R : Result → Shared → Prop} {hp : Heap} {g : Array GenState} {dr : Drawn} {t : Nat} {os : OsState} {K : Frag} {mg : Str → Option Value} {C fI : Addr}
/-- the first field of an exception that has no dict yet -/
theorem one_store (T : OneTxt K mg C fI) {x t0 : Addr} {tk : Tok} {v : Value} (X : K.In hp) (hx : hp.get? x = some (excO C t0))
    (hq : ∀ h' tk' dx, (∀ b o, b ≠ x → hp.get? b = some o → h'.get? b = some o) → hp.objs.size ≤ dx → dx ≠ x → h'.get? x = some { cls := .ref C, dict := some dx, data := .fields #[.ref t0, .none, .none, .none, .bool false, .none] } →
      h'.Ns1 dx (fun y => if y = "number" then some v else none) → R (.ok (.ret .none)) ⟨h', g, dr, tk', os⟩) :
    codeAny (model prog w) A (.call (.builtin "object.__setattr__") ⟨[.ref x, .str "number" tk, v], []⟩) R ⟨hp, g, dr, t, os⟩ := by
  have I : InstAt hp x (excO C t0) C none := ⟨hx, rfl, rfl, trivial⟩
  obtain ⟨cd, hcd, hdd⟩ := T.dct
  have hcl : Looks (model prog w) hp (classData C) cd := looks_clsIn X hcd
  have far : x ≠ hp.objs.size := Nat.ne_of_lt (Heap.lt_size hx)
  refine osa_openX (s := ⟨hp, g, dr, t, os⟩) F.store_Exception X I T.ovr T.tak fun b => ?_
  show wpAny _ _ (storeInOwnDict (.ref x) (.ref C) (.str "number" tk) "number" v b) _ _ _
  unfold storeInOwnDict ownDictForStores
  obtain ⟨c1, c2, c3, c4, c5, c6, c7, c8, c9, c10, c11⟩ := cd
  dsimp only at hdd
  subst hdd
  repeat (first | with_reducible refine store_in_new ?_ ?_ | with_reducible refine wpAny_loadPart_at hx ?_ | with_reducible refine hcl.at ?_ | wp_step)
  · exact ⟨_, #[], _, (Heap.get?_update_ne _ _ _ _ far.symm).trans (Heap.get?_push_at rfl rfl), rfl, fun e he => absurd he (by simp), fun _ => rfl⟩
  · intro h' tk' hn' hs
    have e1 : (hp.push { cls := .type "dict", data := .dict #[] }).get? x = some (excO C t0) := Heap.get?_push_of_some _ hx
    refine hq h' tk' hp.objs.size (fun b o hb ho => ?_) (Nat.le_refl _) far.symm ?_ hn'
    · refine (hs.2 b (Nat.ne_of_lt (Heap.lt_size ho))).trans ?_
      exact (Heap.get?_update_ne _ _ _ _ hb).trans (Heap.get?_push_of_some _ ho)
    · exact (hs.2 x far).trans (Heap.get?_update_self _ e1 rfl)
end
/-- a name of the def, read -/
theorem nread {M : Model} {s : Shared} {A : Around} {E : Value → Shared → Prop} {name : Str} {scope : Scope} {L a : Addr} {cd : Value} {m : Str → Option Value} {x : Str} {pos : Pos} {v : Value} {Q : Value → Shared → Prop} (hn : s.heap.Ns L m) (hv : m x = some v) (h : Q v s)
    (hk : scope.kind = .function := by rfl) (hl : (envOfC name scope L a cd).kindOf x = some .local := by rfl) (hd : (x == ("__debug__" : Str)) = false := by decide) :
    wpAny M A (eval (.Name x pos) (envOfC name scope L a cd)) Q E s := by
  exact wpAny_Name (wpAny_loadName_local hk hl hn hv h) hd
section
variable {prog : Program} {w : World} {A : Around} {E : Value → Shared → Prop} {R : Result → Shared → Prop} {s : Shared} {K : Frag} {mg : Str → Option Value} {C fI : Addr}
/-- what __init__ leaves of a fresh exception at x -/
structure Inited (h h' : Heap) (x C dx t1 : Addr) (v : Value) : Prop where
  old : ∀ b o, b ≠ x → h.get? b = some o → h'.get? b = some o
  its : h'.get? x = some { cls := .ref C, dict := some dx, data := .fields #[.ref t1, .none, .none, .none, .bool false, .none] }
  far : h.objs.size ≤ dx
  two : dx ≠ x
  fld : h'.Ns1 dx (fun y => if y = "number" then some v else none)
theorem one_init (T : OneTxt K mg C fI) {x t0 : Addr} {v : Value} (X : K.In s.heap) (hlim : s.heap.NoLimit) (hx : s.heap.get? x = some (excO C t0)) (hroom : A.depth < recursionLimit)
    (hq : ∀ h' tk dx, Inited s.heap h' x C dx t0 v → R (.ok (.ret .none)) { s with heap := h', toks := tk }) :
    codeAny (model prog w) A (.call (.ref fI) ⟨[.ref x, v], []⟩) R s := by
  obtain ⟨oc, od, doc, pm, an, cdv, ct, osl, p1, p2, q1, q2, q3, q4, mo, kw, ho, hcd⟩ := T.fun'
  refine Att.call_fn (binds := [("self", .ref x), ("number", v)]) X hlim ho hcd hroom (BindsTo.of_eq (by first | rfl | with_unfolding_all rfl)) (by first | rfl | decide | with_unfolding_all rfl) (fun s1 IC => ?_) rfl rfl rfl
  obtain ⟨h1, tk1, rfl⟩ := IC.toInCall.same
  have keep : ∀ b o, s.heap.get? b = some o → h1.get? b = some o := IC.toInCall.keep
  have names := IC.toInCall.ns
  have hx1 := keep _ _ hx
  show wpAny _ _ (execs _ _) _ _ _
  refine wpAny_execs_cons (plainObj_wpAny_Assign_Attribute ?_)
  refine nread (v := v) names (by first | rfl | with_unfolding_all rfl | kernel_rfl) (nread (v := .ref x) names (by first | rfl | with_unfolding_all rfl | kernel_rfl) ?_)
  refine set_plain (X.keeps keep) (ox := excO C t0) (od := none) ⟨hx1, rfl, rfl, trivial⟩ T.sto ?_
  refine one_store T (X.keeps keep) hx1 (fun h3 tk3 dx k3 far ne hx3 hn3 => ?_)
  show wpAny _ _ (execs _ _) _ _ _
  have z : s.heap.objs.size < h1.objs.size := names.lt
  exact wpAny_execs_nil (hq h3 tk3 dx ⟨fun b o hb e => k3 b o hb (keep b o e), hx3, Nat.le_of_lt (Nat.lt_of_lt_of_le z far), ne, hn3⟩)
/-- one that was made -/
structure Made (h h' : Heap) (e C d : Addr) (v : Value) : Prop where
  old : ∀ b o, h.get? b = some o → h'.get? b = some o
  new : h.objs.size ≤ e
  its : ∃ oe vs, h'.get? e = some oe ∧ oe.cls = .ref C ∧ oe.dict = some d ∧ oe.data = .fields vs ∧ vs[1]? = some .none ∧ vs[2]? = some .none
  far : h.objs.size ≤ d
  two : d ≠ e
  fld : h'.Ns1 d (fun y => if y = "number" then some v else none)
theorem one_made (T : OneTxt K mg C fI) {v : Value} (X : K.In s.heap) (hlim : s.heap.NoLimit) (hroom : A.depth + 1 < recursionLimit)
    (hq : ∀ h' tk e d, Made s.heap h' e C d v → R (.ok (.ret (.ref e))) { s with heap := h', toks := tk }) :
    codeAny (model prog w) A (.call (.ref C) ⟨[v], []⟩) R s := by
  obtain ⟨nm', N', qn, bs, bm, hdct, sn, sub, ab, col, dd, k0, k1, k2, k3, k5, hC, hT⟩ := excInit_of X T.ini
  obtain ⟨hp, g, dr, tk, os⟩ := s
  have keep : ∀ b o, hp.get? b = some o → ((hp.push (kdv_tup [v])).push (excO C hp.objs.size)).get? b = some o := fun b o e => by
    exact Heap.get?_push_of_some _ (Heap.get?_push_of_some _ e)
  have here : ((hp.push (kdv_tup [v])).push (excO C hp.objs.size)).get? (hp.objs.size + 1) = some (excO C hp.objs.size) := by heap_get
  have one : [v].length ≤ sizeLine := by
    show 1 ≤ sizeLine
    rw [sizeLine_eq]
    decide
  refine call_own F.excBase_Exception hT hC (looks_findIn X T.iCl) (fun self => bind_fn X self T.tyI) one ?_
  refine one_init (s := ⟨(hp.push (kdv_tup [v])).push (excO C hp.objs.size), g, dr, tk, os⟩) T (X.keeps keep) (hlim.keeps keep) here ?_ fun h' tk' dx Z => ?_
  · show A.depth + 1 < recursionLimit
    exact hroom
  · have z : hp.objs.size + 1 + 1 ≤ dx := by
      have q := Z.far
      first
        | exact q
        | (simpa only [Heap.size_push] using q)
    refine ⟨rfl, hq h' tk' (hp.objs.size + 1) dx ⟨fun b o e => Z.old b o (Nat.ne_of_lt (Nat.lt_succ_of_lt (Heap.lt_size e))) (keep b o e), Nat.le_succ _, ⟨_, _, Z.its, rfl, rfl, rfl, rfl, rfl⟩, ?_, Z.two, Z.fld⟩⟩
    show hp.objs.size ≤ dx
    omega
end
end YjX_BadSpans
end PySem
namespace Yj
open PySem PySem.Spec PyProof.Rows L2
theorem relO_BadSpans {v : V} {v' : Value} (r : RelV v v') (f : Str) : RelO (List.lookup f [(("number" : Str), v)]) (if f = "number" then some v' else none) := by
  by_cases hw : f = "number"
  · subst hw
    have q : List.lookup ("number" : Str) [(("number" : Str), v)] = some v := by simp [List.lookup]
    rw [if_pos rfl, q]
    exact r
  · have qw : (f == ("number" : Str)) = false := by simpa using hw
    have q2 : List.lookup f [(("number" : Str), v)] = none := by simp [List.lookup, qw]
    rw [if_neg hw, q2]
    trivial
section
variable {X : Cx} {C fI : Addr}
/-- BadSpans(e), made where nothing is handled -/
def tMk_BadSpans (C : Addr) (ta : TA) : L2.St → Hp → XK → Prop := fun σ H Q => ta σ H fun vs H1 => ∃ v, vs = [v] ∧ ∀ d, H1 d = none → Q (.ref C) (some d) (upd H1 d (.xd [(("number" : Str), v)]))
theorem pmk_BadSpans {a : Expr} {ta : TA} {p pos : Pos} {k : Nat} (T : PySem.YjX_BadSpans.OneTxt X.K X.mg C fI) (hr : Room k X.A) (ha : PA X [a] ta) (hg : Gl X "BadSpans" := by rfl) (hdb : (("BadSpans" : Str) == ("__debug__" : Str)) = false := by decide)
    (he : starEach (a :: []) X.env = (false, eval a X.env) :: starEach [] X.env := by rfl) (hpl : (backTo pos (starEach [] X.env)).any (·.1) = false := by rfl) :
    L2N.PMk X (.Call (.Name "BadSpans" p) [a] [] pos) (tMk_BadSpans C ta) := by
  intro pins s σ H Q I h
  refine wpAny_Call_Name_kw (ld_glob I hg T.cla ?_ hdb)
  refine PySem.W.callWith_K (h₀ := X.base) I.ok.mod.kin T.kep (thn (ha.run pos pins s σ H _ I h) fun us s1 hh => ?_) he hpl
  obtain ⟨vs, H1, I1, r1, v, ev, q1⟩ := hh
  subst ev
  obtain ⟨v', rfl, rv⟩ := vals1 r1
  refine ⟨I1.kIn, ?_⟩
  show wpAny _ _ (call (.ref C) [v']) _ _ _
  have lim := I1.nolimit
  obtain ⟨hp, g, dr, tk, os⟩ := s1
  refine wpAny_call (PySem.YjX_BadSpans.one_made T I1.kIn lim (by have := hr.dp; omega) fun h' tk' e d M => ?_)
  show L2N.MkP X pins σ Q (.ref e) ⟨h', g, dr, tk', os⟩
  obtain ⟨oe, fv, hoe, hc, hd, hdat, h1, h2⟩ := M.its
  obtain ⟨G', g1, g2⟩ := restrict h' fun b => decide (b ≠ e)
  have gk : ∀ b, b ≠ e → G'.get? b = h'.get? b := fun b hb => g1 b (decide_eq_true hb)
  have ge : G'.get? e = none := g2 e (by simp)
  have old : ∀ b o, hp.get? b = some o → G'.get? b = some o := fun b o q => by
    rw [gk b (Nat.ne_of_lt (Nat.lt_of_lt_of_le (Heap.lt_size q) M.new))]
    exact M.old b o q
  have ob : ObjOk X.prog X.w (upd H1 d (.xd [(("number" : Str), v)])) G' d (.xd [(("number" : Str), v)]) :=
    ⟨_, M.fld.at (fun o q => (gk d M.two).trans q), fun f => relO_BadSpans rv f⟩
  have J : Inv X pins σ (upd H1 d (.xd [(("number" : Str), v)])) ⟨G', g, dr, tk', os⟩ := I1.laid (t' := tk') old M.far ob
  refine ⟨e, oe, fv, ⟨G', g, dr, tk', os⟩, _, .ref C, some d, rfl, J, fun b o q => ?_, ge, hoe, ⟨hc, hd, fun vs e' => ?_⟩, hdat, h1, ?_, rfl, I1.bare, raises_own T.exB T.tyC, q1 d (I1.hok.fresh M.far)⟩
  · have hb : b ≠ e := fun z => by
      have q' : G'.get? b = some o := q
      rw [z, ge] at q'
      cases q'
    exact (gk b hb).symm.trans q
  · rw [hdat] at e'
    cases e'
    exact h2
  · rw [upd_ne (Ne.symm M.two)]
    exact I1.hok.fresh M.new
/-- raise BadSpans(e) -/
def tRaise_BadSpans (C : Addr) (W : WX) (ta : TA) : TS := fun _ σ H => tMk_BadSpans C ta σ H fun cls d H' => W cls d σ H'
theorem ps_raise_BadSpans {a : Expr} {ta : TA} {W : WX} {p pos pos2 : Pos} {k : Nat} (hc : X.calm = true) (T : PySem.YjX_BadSpans.OneTxt X.K X.mg C fI) (hr : Room k X.A) (tk : L2N.Takes X W) (ha : PA X [a] ta) (hg : Gl X "BadSpans" := by rfl) (hdb : (("BadSpans" : Str) == ("__debug__" : Str)) = false := by decide)
    (he : starEach (a :: []) X.env = (false, eval a X.env) :: starEach [] X.env := by rfl) (hpl : (backTo pos (starEach [] X.env)).any (·.1) = false := by rfl) :
    PS X (.Raise (some (.Call (.Name "BadSpans" p) [a] [] pos)) none pos2) (tRaise_BadSpans C W ta) := by
  exact L2N.ps_raise hc tk (pmk_BadSpans T hr ha hg hdb he hpl)
/-- bad.number, bad the exception that the suite holds -/
def tBy_BadSpans (C : Addr) (a : Addr) (cls : Value) (d : Option Addr) (te : TE) : TE := fun σ H Q => te σ H fun x H1 => x = .ref a ∧ cls = .ref C ∧ ∃ (dd : Addr) (v : V), d = some dd ∧ H1 dd = some (.xd [(("number" : Str), v)]) ∧ Q v H1
theorem pe_by_BadSpans {a : Addr} {oe : Obj} {cls : Value} {d : Option Addr} {pn : List (Addr × Obj)} {e : Expr} {te : TE} {pos : Pos} (T : PySem.YjX_BadSpans.OneTxt X.K X.mg C fI) (hz : L2N.Zn cls d oe) (hf : ∃ vs, oe.data = .fields vs) (he : PE (X.suite a ((a, oe) :: pn)) e te)
    (hb : attributeBase e "number" X.env (eval e X.env) = eval e X.env := by rfl) :
    PE (X.suite a ((a, oe) :: pn)) (.Attribute e "number" pos) (tBy_BadSpans C a cls d te) := by
  refine ⟨fun pins s σ H Q I h => ?_⟩
  refine attr_of hb (thn (he.run pins s σ H _ I h) fun u s1 hh => ?_)
  obtain ⟨x, H1, I1, rx, rfl, rfl, dd, v, rfl, ea, q⟩ := hh
  obtain rfl : u = Value.ref a := rx
  obtain ⟨ha, _⟩ := I1.pin (a, oe) (List.mem_append_left _ List.mem_cons_self)
  obtain ⟨vs, hd⟩ := hf
  obtain ⟨mA, hns, hr⟩ := (show ObjOk X.prog X.w H1 s1.heap dd (.xd [(("number" : Str), v)]) from I1.hok dd _ ea)
  obtain ⟨od, ho, hl⟩ := lookIn_ns hns
  have l : List.lookup ("number" : Str) [(("number" : Str), v)] = some v := by simp [List.lookup]
  obtain ⟨u, hu, ru⟩ := RelO.some_of (v := v) (o := mA "number") (by rw [← l]; exact hr "number")
  have J : PySem.W.InstAt s1.heap a oe C (some od) := ⟨ha, hz.1, by unfold PySem.W.notCls; rw [hd] <;> rfl, by rw [hz.2.1]; exact ho⟩
  refine HandSPX.exc_get I1.kIn J T.gat T.ggt T.exB (PySem.W.findObj_own T.hdC T.non rfl (by rw [hl, hu])) (handed_of ru) ?_
  exact ⟨v, H1, I1.tok _, ru, q⟩
end
end Yj
set_option Elab.async false
set_option linter.all false
set_option maxRecDepth 100000
set_option maxHeartbeats 4000000
set_option pp.maxSteps 1500
/-! An own error below an own error below Exception, with one field that its __init__ stores. -/
namespace PySem
namespace YjX_BadRelations
open PySem.W PySem.Calls PyProof.Rows PySem.HandSPX
abbrev exTail : List Value := [.type "Exception", .type "BaseException", .type "object"]
def nArgs (p1 p2 : Pos) : Arguments := { posonlyargs := [], args := [{ arg := "self", annotation := none, pos := p1 }, { arg := "name", annotation := none, pos := p2 }], vararg := none, kwonlyargs := [], kw_defaults := [], kwarg := none, defaults := [] }
def nBody (q1 q2 q3 q4 : Pos) : List Stmt := [.Assign [.Attribute (.Name "self" q1) "name" q2] (.Name "name" q3) q4]
def nScope (mo : List (Str × Const)) : Scope := { kind := .function, names := [(PySem.Str.ofString "self", .local), (PySem.Str.ofString "name", .local)], isGenerator := false, isCoroutine := false, more := mo }
/-- what the top has left of such a class at C, its __init__ at fI -/
structure OneTxt (K : Frag) (mg : Str → Option Value) (C fI : Addr) : Prop where
  cla : mg "BadRelations" = some (.ref C)
  ini : excInitIn K C exTail "Exception.__new__" = true
  ovr : excOver K C exTail = true
  tak : takerIn K C "name" = some none
  dct : ∃ cd, clsIn K C = some cd ∧ cd.hasDict = true
  sto : findIn K (.ref C) "__setattr__" = some (some (.builtin "object.__setattr__"))
  gat : findIn K (.ref C) "__getattribute__" = some (some (.builtin "BaseException.__getattribute__"))
  ggt : findIn K (.ref C) "__getattr__" = some none
  non : findIn K (.ref C) "name" = some none
  iCl : findIn K (.ref C) "__init__" = some (some (.ref fI))
  tyI : typeIn K (.ref fI) = some (.type "function")
  kep : keepIn K (.ref C) = true
  exB : subIn K (.ref C) (.type "BaseException") = some true
  tyC : typeIn K (.ref C) = some (.type "type")
  hdC : hasDictIn K C = true
  exm : exmOne K (.ref C) (.ref C) = some true
  fun' : ∃ (oc : Value) (od : Option Addr) (doc pm : Value) (an : Option Addr) (cdv ct : Value) (osl : Array (Option Value)) (p1 p2 q1 q2 q3 q4 : Pos) (mo : List (Str × Const)) (kw : Value),
    K.lookup fI = some ⟨oc, od, .func (fnOf "__init__" "BadRelations.__init__" (nArgs p1 p2) (nBody q1 q2 q3 q4) (nScope mo) .none kw doc pm an cdv ct), osl⟩ ∧ codeIn K cdv "BadRelations.__init__" = true
section
open Builtin Builtin.ObjectAttr
variable {prog : Program} {w : World} {A : Around} {E : Value → Shared → Prop} {R : Result → Shared → Prop} {hp : Heap} {g : Array GenState} {dr : Drawn} {t : Nat} {os : OsState} {K : Frag} {mg : Str → Option Value} {C fI : Addr}
/-- the first field of an exception that has no dict yet -/
theorem one_store (T : OneTxt K mg C fI) {x t0 : Addr} {tk : Tok} {v : Value} (X : K.In hp) (hx : hp.get? x = some (excO C t0))
    (hq : ∀ h' tk' dx, (∀ b o, b ≠ x → hp.get? b = some o → h'.get? b = some o) → hp.objs.size ≤ dx → dx ≠ x → h'.get? x = some { cls := .ref C, dict := some dx, data := .fields #[.ref t0, .none, .none, .none, .bool false, .none] } →
      h'.Ns1 dx (fun y => if y = "name" then some v else none) → R (.ok (.ret .none)) ⟨h', g, dr, tk', os⟩) :
    codeAny (model prog w) A (.call (.builtin "object.__setattr__") ⟨[.ref x, .str "name" tk, v], []⟩) R ⟨hp, g, dr, t, os⟩ := by
  have I : InstAt hp x (excO C t0) C none := ⟨hx, rfl, rfl, trivial⟩
  obtain ⟨cd, hcd, hdd⟩ := T.dct
  have hcl : Looks (model prog w) hp (classData C) cd := looks_clsIn X hcd
  have far : x ≠ hp.objs.size := Nat.ne_of_lt (Heap.lt_size hx)
  refine osa_openX (s := ⟨hp, g, dr, t, os⟩) F.store_Exception X I T.ovr T.tak fun b => ?_
  show wpAny _ _ (storeInOwnDict (.ref x) (.ref C) (.str "name" tk) "name" v b) _ _ _
  unfold storeInOwnDict ownDictForStores
  obtain ⟨c1, c2, c3, c4, c5, c6, c7, c8, c9, c10, c11⟩ := cd
  dsimp only at hdd
  subst hdd
  repeat (first | with_reducible refine store_in_new ?_ ?_ | with_reducible refine wpAny_loadPart_at hx ?_ | with_reducible refine hcl.at ?_ | wp_step)
  · exact ⟨_, #[], _, (Heap.get?_update_ne _ _ _ _ far.symm).trans (Heap.get?_push_at rfl rfl), rfl, fun e he => absurd he (by simp), fun _ => rfl⟩
  · intro h' tk' hn' hs
    have e1 : (hp.push { cls := .type "dict", data := .dict #[] }).get? x = some (excO C t0) := Heap.get?_push_of_some _ hx
    refine hq h' tk' hp.objs.size (fun b o hb ho => ?_) (Nat.le_refl _) far.symm ?_ hn'
    · refine (hs.2 b (Nat.ne_of_lt (Heap.lt_size ho))).trans ?_
      exact (Heap.get?_update_ne _ _ _ _ hb).trans (Heap.get?_push_of_some _ ho)
    · exact (hs.2 x far).trans (Heap.get?_update_self _ e1 rfl)
end
/-- a name of the def, read -/
theorem nread {M : Model} {s : Shared} {A : Around} {E : Value → Shared → Prop} {name : Str} {scope : Scope} {L a : Addr} {cd : Value} {m : Str → Option Value} {x : Str} {pos : Pos} {v : Value} {Q : Value → Shared → Prop} (hn : s.heap.Ns L m) (hv : m x = some v) (h : Q v s)
    (hk : scope.kind = .function := by rfl) (hl : (envOfC name scope L a cd).kindOf x = some .local := by rfl) (hd : (x == ("__debug__" : Str)) = false := by decide) :
    wpAny M A (eval (.Name x pos) (envOfC name scope L a cd)) Q E s := by
  exact wpAny_Name (wpAny_loadName_local hk hl hn hv h) hd
section
variable {prog : Program} {w : World} {A : Around} {E : Value → Shared → Prop} {R : Result → Shared → Prop} {s : Shared} {K : Frag} {mg : Str → Option Value} {C fI : Addr}
/-- what __init__ leaves of a fresh exception at x -/
structure Inited (h h' : Heap) (x C dx t1 : Addr) (v : Value) : Prop where
  old : ∀ b o, b ≠ x → h.get? b = some o → h'.get? b = some o
  its : h'.get? x = some { cls := .ref C, dict := some dx, data := .fields #[.ref t1, .none, .none, .none, .bool false, .none] }
  far : h.objs.size ≤ dx
  two : dx ≠ x
  fld : h'.Ns1 dx (fun y => if y = "name" then some v else none)
theorem one_init (T : OneTxt K mg C fI) {x t0 : Addr} {v : Value} (X : K.In s.heap) (hlim : s.heap.NoLimit) (hx : s.heap.get? x = some (excO C t0)) (hroom : A.depth < recursionLimit)
    (hq : ∀ h' tk dx, Inited s.heap h' x C dx t0 v → R (.ok (.ret .none)) { s with heap := h', toks := tk }) :
    codeAny (model prog w) A (.call (.ref fI) ⟨[.ref x, v], []⟩) R s := by
  obtain ⟨oc, od, doc, pm, an, cdv, ct, osl, p1, p2, q1, q2, q3, q4, mo, kw, ho, hcd⟩ := T.fun'
  refine Att.call_fn (binds := [("self", .ref x), ("name", v)]) X hlim ho hcd hroom (BindsTo.of_eq (by first | rfl | with_unfolding_all rfl)) (by first | rfl | decide | with_unfolding_all rfl) (fun s1 IC => ?_) rfl rfl rfl
  obtain ⟨h1, tk1, rfl⟩ := IC.toInCall.same
  have keep : ∀ b o, s.heap.get? b = some o → h1.get? b = some o := IC.toInCall.keep
  have names := IC.toInCall.ns
  have hx1 := keep _ _ hx
  show wpAny _ _ (execs _ _) _ _ _
  refine wpAny_execs_cons (plainObj_wpAny_Assign_Attribute ?_)
  refine nread (v := v) names (by first | rfl | with_unfolding_all rfl | kernel_rfl) (nread (v := .ref x) names (by first | rfl | with_unfolding_all rfl | kernel_rfl) ?_)
  refine set_plain (X.keeps keep) (ox := excO C t0) (od := none) ⟨hx1, rfl, rfl, trivial⟩ T.sto ?_
  refine one_store T (X.keeps keep) hx1 (fun h3 tk3 dx k3 far ne hx3 hn3 => ?_)
  show wpAny _ _ (execs _ _) _ _ _
  have z : s.heap.objs.size < h1.objs.size := names.lt
  exact wpAny_execs_nil (hq h3 tk3 dx ⟨fun b o hb e => k3 b o hb (keep b o e), hx3, Nat.le_of_lt (Nat.lt_of_lt_of_le z far), ne, hn3⟩)
/-- one that was made -/
structure Made (h h' : Heap) (e C d : Addr) (v : Value) : Prop where
  old : ∀ b o, h.get? b = some o → h'.get? b = some o
  new : h.objs.size ≤ e
  its : ∃ oe vs, h'.get? e = some oe ∧ oe.cls = .ref C ∧ oe.dict = some d ∧ oe.data = .fields vs ∧ vs[1]? = some .none ∧ vs[2]? = some .none
  far : h.objs.size ≤ d
  two : d ≠ e
  fld : h'.Ns1 d (fun y => if y = "name" then some v else none)
theorem one_made (T : OneTxt K mg C fI) {v : Value} (X : K.In s.heap) (hlim : s.heap.NoLimit) (hroom : A.depth + 1 < recursionLimit)
    (hq : ∀ h' tk e d, Made s.heap h' e C d v → R (.ok (.ret (.ref e))) { s with heap := h', toks := tk }) :
    codeAny (model prog w) A (.call (.ref C) ⟨[v], []⟩) R s := by
  obtain ⟨nm', N', qn, bs, bm, hdct, sn, sub, ab, col, dd, k0, k1, k2, k3, k5, hC, hT⟩ := excInit_of X T.ini
  obtain ⟨hp, g, dr, tk, os⟩ := s
  have keep : ∀ b o, hp.get? b = some o → ((hp.push (kdv_tup [v])).push (excO C hp.objs.size)).get? b = some o := fun b o e => by
    exact Heap.get?_push_of_some _ (Heap.get?_push_of_some _ e)
  have here : ((hp.push (kdv_tup [v])).push (excO C hp.objs.size)).get? (hp.objs.size + 1) = some (excO C hp.objs.size) := by heap_get
  have one : [v].length ≤ sizeLine := by
    show 1 ≤ sizeLine
    rw [sizeLine_eq]
    decide
  refine call_own F.excBase_Exception hT hC (looks_findIn X T.iCl) (fun self => bind_fn X self T.tyI) one ?_
  refine one_init (s := ⟨(hp.push (kdv_tup [v])).push (excO C hp.objs.size), g, dr, tk, os⟩) T (X.keeps keep) (hlim.keeps keep) here ?_ fun h' tk' dx Z => ?_
  · show A.depth + 1 < recursionLimit
    exact hroom
  · have z : hp.objs.size + 1 + 1 ≤ dx := by
      have q := Z.far
      first
        | exact q
        | (simpa only [Heap.size_push] using q)
    refine ⟨rfl, hq h' tk' (hp.objs.size + 1) dx ⟨fun b o e => Z.old b o (Nat.ne_of_lt (Nat.lt_succ_of_lt (Heap.lt_size e))) (keep b o e), Nat.le_succ _, ⟨_, _, Z.its, rfl, rfl, rfl, rfl, rfl⟩, ?_, Z.two, Z.fld⟩⟩
    show hp.objs.size ≤ dx
    omega
end
end YjX_BadRelations
end PySem
namespace Yj
open PySem PySem.Spec PyProof.Rows L2
theorem relO_BadRelations {v : V} {v' : Value} (r : RelV v v') (f : Str) : RelO (List.lookup f [(("name" : Str), v)]) (if f = "name" then some v' else none) := by
  by_cases hw : f = "name"
  · subst hw
    have q : List.lookup ("name" : Str) [(("name" : Str), v)] = some v := by simp [List.lookup]
    rw [if_pos rfl, q]
    exact r
  · have qw : (f == ("name" : Str)) = false := by simpa using hw
    have q2 : List.lookup f [(("name" : Str), v)] = none := by simp [List.lookup, qw]
    rw [if_neg hw, q2]
    trivial
section
variable {X : Cx} {C fI : Addr}
/-- BadRelations(e), made where nothing is handled -/
def tMk_BadRelations (C : Addr) (ta : TA) : L2.St → Hp → XK → Prop := fun σ H Q => ta σ H fun vs H1 => ∃ v, vs = [v] ∧ ∀ d, H1 d = none → Q (.ref C) (some d) (upd H1 d (.xd [(("name" : Str), v)]))
theorem pmk_BadRelations {a : Expr} {ta : TA} {p pos : Pos} {k : Nat} (T : PySem.YjX_BadRelations.OneTxt X.K X.mg C fI) (hr : Room k X.A) (ha : PA X [a] ta) (hg : Gl X "BadRelations" := by rfl) (hdb : (("BadRelations" : Str) == ("__debug__" : Str)) = false := by decide)
    (he : starEach (a :: []) X.env = (false, eval a X.env) :: starEach [] X.env := by rfl) (hpl : (backTo pos (starEach [] X.env)).any (·.1) = false := by rfl) :
    L2N.PMk X (.Call (.Name "BadRelations" p) [a] [] pos) (tMk_BadRelations C ta) := by
  intro pins s σ H Q I h
  refine wpAny_Call_Name_kw (ld_glob I hg T.cla ?_ hdb)
  refine PySem.W.callWith_K (h₀ := X.base) I.ok.mod.kin T.kep (thn (ha.run pos pins s σ H _ I h) fun us s1 hh => ?_) he hpl
  obtain ⟨vs, H1, I1, r1, v, ev, q1⟩ := hh
  subst ev
  obtain ⟨v', rfl, rv⟩ := vals1 r1
  refine ⟨I1.kIn, ?_⟩
  show wpAny _ _ (call (.ref C) [v']) _ _ _
  have lim := I1.nolimit
  obtain ⟨hp, g, dr, tk, os⟩ := s1
  refine wpAny_call (PySem.YjX_BadRelations.one_made T I1.kIn lim (by have := hr.dp; omega) fun h' tk' e d M => ?_)
  show L2N.MkP X pins σ Q (.ref e) ⟨h', g, dr, tk', os⟩
  obtain ⟨oe, fv, hoe, hc, hd, hdat, h1, h2⟩ := M.its
  obtain ⟨G', g1, g2⟩ := restrict h' fun b => decide (b ≠ e)
  have gk : ∀ b, b ≠ e → G'.get? b = h'.get? b := fun b hb => g1 b (decide_eq_true hb)
  have ge : G'.get? e = none := g2 e (by simp)
  have old : ∀ b o, hp.get? b = some o → G'.get? b = some o := fun b o q => by
    rw [gk b (Nat.ne_of_lt (Nat.lt_of_lt_of_le (Heap.lt_size q) M.new))]
    exact M.old b o q
  have ob : ObjOk X.prog X.w (upd H1 d (.xd [(("name" : Str), v)])) G' d (.xd [(("name" : Str), v)]) :=
    ⟨_, M.fld.at (fun o q => (gk d M.two).trans q), fun f => relO_BadRelations rv f⟩
  have J : Inv X pins σ (upd H1 d (.xd [(("name" : Str), v)])) ⟨G', g, dr, tk', os⟩ := I1.laid (t' := tk') old M.far ob
  refine ⟨e, oe, fv, ⟨G', g, dr, tk', os⟩, _, .ref C, some d, rfl, J, fun b o q => ?_, ge, hoe, ⟨hc, hd, fun vs e' => ?_⟩, hdat, h1, ?_, rfl, I1.bare, raises_own T.exB T.tyC, q1 d (I1.hok.fresh M.far)⟩
  · have hb : b ≠ e := fun z => by
      have q' : G'.get? b = some o := q
      rw [z, ge] at q'
      cases q'
    exact (gk b hb).symm.trans q
  · rw [hdat] at e'
    cases e'
    exact h2
  · rw [upd_ne (Ne.symm M.two)]
    exact I1.hok.fresh M.new
/-- raise BadRelations(e) -/
def tRaise_BadRelations (C : Addr) (W : WX) (ta : TA) : TS := fun _ σ H => tMk_BadRelations C ta σ H fun cls d H' => W cls d σ H'
theorem ps_raise_BadRelations {a : Expr} {ta : TA} {W : WX} {p pos pos2 : Pos} {k : Nat} (hc : X.calm = true) (T : PySem.YjX_BadRelations.OneTxt X.K X.mg C fI) (hr : Room k X.A) (tk : L2N.Takes X W) (ha : PA X [a] ta) (hg : Gl X "BadRelations" := by rfl) (hdb : (("BadRelations" : Str) == ("__debug__" : Str)) = false := by decide)
    (he : starEach (a :: []) X.env = (false, eval a X.env) :: starEach [] X.env := by rfl) (hpl : (backTo pos (starEach [] X.env)).any (·.1) = false := by rfl) :
    PS X (.Raise (some (.Call (.Name "BadRelations" p) [a] [] pos)) none pos2) (tRaise_BadRelations C W ta) := by
  exact L2N.ps_raise hc tk (pmk_BadRelations T hr ha hg hdb he hpl)
/-- bad.name, bad the exception that the suite holds -/
def tBy_BadRelations (C : Addr) (a : Addr) (cls : Value) (d : Option Addr) (te : TE) : TE := fun σ H Q => te σ H fun x H1 => x = .ref a ∧ cls = .ref C ∧ ∃ (dd : Addr) (v : V), d = some dd ∧ H1 dd = some (.xd [(("name" : Str), v)]) ∧ Q v H1
theorem pe_by_BadRelations {a : Addr} {oe : Obj} {cls : Value} {d : Option Addr} {pn : List (Addr × Obj)} {e : Expr} {te : TE} {pos : Pos} (T : PySem.YjX_BadRelations.OneTxt X.K X.mg C fI) (hz : L2N.Zn cls d oe) (hf : ∃ vs, oe.data = .fields vs) (he : PE (X.suite a ((a, oe) :: pn)) e te)
    (hb : attributeBase e "name" X.env (eval e X.env) = eval e X.env := by rfl) :
    PE (X.suite a ((a, oe) :: pn)) (.Attribute e "name" pos) (tBy_BadRelations C a cls d te) := by
  refine ⟨fun pins s σ H Q I h => ?_⟩
  refine attr_of hb (thn (he.run pins s σ H _ I h) fun u s1 hh => ?_)
  obtain ⟨x, H1, I1, rx, rfl, rfl, dd, v, rfl, ea, q⟩ := hh
  obtain rfl : u = Value.ref a := rx
  obtain ⟨ha, _⟩ := I1.pin (a, oe) (List.mem_append_left _ List.mem_cons_self)
  obtain ⟨vs, hd⟩ := hf
  obtain ⟨mA, hns, hr⟩ := (show ObjOk X.prog X.w H1 s1.heap dd (.xd [(("name" : Str), v)]) from I1.hok dd _ ea)
  obtain ⟨od, ho, hl⟩ := lookIn_ns hns
  have l : List.lookup ("name" : Str) [(("name" : Str), v)] = some v := by simp [List.lookup]
  obtain ⟨u, hu, ru⟩ := RelO.some_of (v := v) (o := mA "name") (by rw [← l]; exact hr "name")
  have J : PySem.W.InstAt s1.heap a oe C (some od) := ⟨ha, hz.1, by unfold PySem.W.notCls; rw [hd] <;> rfl, by rw [hz.2.1]; exact ho⟩
  refine HandSPX.exc_get I1.kIn J T.gat T.ggt T.exB (PySem.W.findObj_own T.hdC T.non rfl (by rw [hl, hu])) (handed_of ru) ?_
  exact ⟨v, H1, I1.tok _, ru, q⟩
end
end Yj
set_option Elab.async false
set_option linter.all false
set_option maxRecDepth 100000
set_option maxHeartbeats 4000000
set_option pp.maxSteps 1500
/-! An own error below an own error below Exception, with one field that its __init__ stores. -/
namespace PySem
namespace YjX_BadFact
open PySem.W PySem.Calls PyProof.Rows PySem.HandSPX
abbrev exTail : List Value := [.type "Exception", .type "BaseException", .type "object"]
def nArgs (p1 p2 : Pos) : Arguments := { posonlyargs := [], args := [{ arg := "self", annotation := none, pos := p1 }, { arg := "fact", annotation := none, pos := p2 }], vararg := none, kwonlyargs := [], kw_defaults := [], kwarg := none, defaults := [] }
def nBody (q1 q2 q3 q4 : Pos) : List Stmt := [.Assign [.Attribute (.Name "self" q1) "fact" q2] (.Name "fact" q3) q4]
def nScope (mo : List (Str × Const)) : Scope := { kind := .function, names := [(PySem.Str.ofString "self", .local), (PySem.Str.ofString "fact", .local)], isGenerator := false, isCoroutine := false, more := mo }
/-- what the top has left of such a class at C, its __init__ at fI -/
structure OneTxt (K : Frag) (mg : Str → Option Value) (C fI : Addr) : Prop where
  cla : mg "BadFact" = some (.ref C)
  ini : excInitIn K C exTail "Exception.__new__" = true
  ovr : excOver K C exTail = true
  tak : takerIn K C "fact" = some none
  dct : ∃ cd, clsIn K C = some cd ∧ cd.hasDict = true
  sto : findIn K (.ref C) "__setattr__" = some (some (.builtin "object.__setattr__"))
  gat : findIn K (.ref C) "__getattribute__" = some (some (.builtin "BaseException.__getattribute__"))
  ggt : findIn K (.ref C) "__getattr__" = some none
  non : findIn K (.ref C) "fact" = some none
  iCl : findIn K (.ref C) "__init__" = some (some (.ref fI))
  tyI : typeIn K (.ref fI) = some (.type "function")
  kep : keepIn K (.ref C) = true
  exB : subIn K (.ref C) (.type "BaseException") = some true
  tyC : typeIn K (.ref C) = some (.type "type")
  hdC : hasDictIn K C = true
  exm : exmOne K (.ref C) (.ref C) = some true
  fun' : ∃ (oc : Value) (od : Option Addr) (doc pm : Value) (an : Option Addr) (cdv ct : Value) (osl : Array (Option Value)) (p1 p2 q1 q2 q3 q4 : Pos) (mo : List (Str × Const)) (kw : Value),
    K.lookup fI = some ⟨oc, od, .func (fnOf "__init__" "BadFact.__init__" (nArgs p1 p2) (nBody q1 q2 q3 q4) (nScope mo) .none kw doc pm an cdv ct), osl⟩ ∧ codeIn K cdv "BadFact.__init__" = true
section
open Builtin Builtin.ObjectAttr
variable {prog : Program} {w : World} {A : Around} {E : Value → Shared → Prop} {R : Result → Shared → Prop} {hp : Heap} {g : Array GenState} {dr : Drawn} {t : Nat} {os : OsState} {K : Frag} {mg : Str → Option Value} {C fI : Addr}
/-- the first field of an exception that has no dict yet -/
theorem one_store (T : OneTxt K mg C fI) {x t0 : Addr} {tk : Tok} {v : Value} (X : K.In hp) (hx : hp.get? x = some (excO C t0))
    (hq : ∀ h' tk' dx, (∀ b o, b ≠ x → hp.get? b = some o → h'.get? b = some o) → hp.objs.size ≤ dx → dx ≠ x → h'.get? x = some { cls := .ref C, dict := some dx, data := .fields #[.ref t0, .none, .none, .none, .bool false, .none] } →
      h'.Ns1 dx (fun y => if y = "fact" then some v else none) → R (.ok (.ret .none)) ⟨h', g, dr, tk', os⟩) :
    codeAny (model prog w) A (.call (.builtin "object.__setattr__") ⟨[.ref x, .str "fact" tk, v], []⟩) R ⟨hp, g, dr, t, os⟩ := by
  have I : InstAt hp x (excO C t0) C none := ⟨hx, rfl, rfl, trivial⟩
  obtain ⟨cd, hcd, hdd⟩ := T.dct
  have hcl : Looks (model prog w) hp (classData C) cd := looks_clsIn X hcd
  have far : x ≠ hp.objs.size := Nat.ne_of_lt (Heap.lt_size hx)
  refine osa_openX (s := ⟨hp, g, dr, t, os⟩) F.store_Exception X I T.ovr T.tak fun b => ?_
  show wpAny _ _ (storeInOwnDict (.ref x) (.ref C) (.str "fact" tk) "fact" v b) _ _ _
  unfold storeInOwnDict ownDictForStores
  obtain ⟨c1, c2, c3, c4, c5, c6, c7, c8, c9, c10, c11⟩ := cd
  dsimp only at hdd
  subst hdd
  repeat (first | with_reducible refine store_in_new ?_ ?_ | with_reducible refine wpAny_loadPart_at hx ?_ | with_reducible refine hcl.at ?_ | wp_step)
  · exact ⟨_, #[], _, (Heap.get?_update_ne _ _ _ _ far.symm).trans (Heap.get?_push_at rfl rfl), rfl, fun e he => absurd he (by simp), fun _ => rfl⟩
  · intro h' tk' hn' hs
    have e1 : (hp.push { cls := .type "dict", data := .dict #[] }).get? x = some (excO C t0) := Heap.get?_push_of_some _ hx
    refine hq h' tk' hp.objs.size (fun b o hb ho => ?_) (Nat.le_refl _) far.symm ?_ hn'
    · refine (hs.2 b (Nat.ne_of_lt (Heap.lt_size ho))).trans ?_
      exact (Heap.get?_update_ne _ _ _ _ hb).trans (Heap.get?_push_of_some _ ho)
    · exact (hs.2 x far).trans (Heap.get?_update_self _ e1 rfl)
end
/-- a name of the def, read -/
theorem nread {M : Model} {s : Shared} {A : Around} {E : Value → Shared → Prop} {name : Str} {scope : Scope} {L a : Addr} {cd : Value} {m : Str → Option Value} {x : Str} {pos : Pos} {v : Value} {Q : Value → Shared → Prop} (hn : s.heap.Ns L m) (hv : m x = some v) (h : Q v s)
    (hk : scope.kind = .function := by rfl) (hl : (envOfC name scope L a cd).kindOf x = some .local := by rfl) (hd : (x == ("__debug__" : Str)) = false := by decide) :
    wpAny M A (eval (.Name x pos) (envOfC name scope L a cd)) Q E s := by
  exact wpAny_Name (wpAny_loadName_local hk hl hn hv h) hd
section
variable {prog : Program} {w : World} {A : Around} {E : Value → Shared → Prop} {R : Result → Shared → Prop} {s : Shared} {K : Frag} {mg : Str → Option Value} {C fI : Addr}
/-- what __init__ leaves of a fresh exception at x -/
structure Inited (h h' : Heap) (x C dx t1 : Addr) (v : Value) : Prop where
  old : ∀ b o, b ≠ x → h.get? b = some o → h'.get? b = some o
  its : h'.get? x = some { cls := .ref C, dict := some dx, data := .fields #[.ref t1, .none, .none, .none, .bool false, .none] }
  far : h.objs.size ≤ dx
  two : dx ≠ x
  fld : h'.Ns1 dx (fun y => if y = "fact" then some v else none)
theorem one_init (T : OneTxt K mg C fI) {x t0 : Addr} {v : Value} (X : K.In s.heap) (hlim : s.heap.NoLimit) (hx : s.heap.get? x = some (excO C t0)) (hroom : A.depth < recursionLimit)
    (hq : ∀ h' tk dx, Inited s.heap h' x C dx t0 v → R (.ok (.ret .none)) { s with heap := h', toks := tk }) :
    codeAny (model prog w) A (.call (.ref fI) ⟨[.ref x, v], []⟩) R s := by
  obtain ⟨oc, od, doc, pm, an, cdv, ct, osl, p1, p2, q1, q2, q3, q4, mo, kw, ho, hcd⟩ := T.fun'
  refine Att.call_fn (binds := [("self", .ref x), ("fact", v)]) X hlim ho hcd hroom (BindsTo.of_eq (by first | rfl | with_unfolding_all rfl)) (by first | rfl | decide | with_unfolding_all rfl) (fun s1 IC => ?_) rfl rfl rfl
  obtain ⟨h1, tk1, rfl⟩ := IC.toInCall.same
  have keep : ∀ b o, s.heap.get? b = some o → h1.get? b = some o := IC.toInCall.keep
  have names := IC.toInCall.ns
  have hx1 := keep _ _ hx
  show wpAny _ _ (execs _ _) _ _ _
  refine wpAny_execs_cons (plainObj_wpAny_Assign_Attribute ?_)
  refine nread (v := v) names (by first | rfl | with_unfolding_all rfl | kernel_rfl) (nread (v := .ref x) names (by first | rfl | with_unfolding_all rfl | kernel_rfl) ?_)
  refine set_plain (X.keeps keep) (ox := excO C t0) (od := none) ⟨hx1, rfl, rfl, trivial⟩ T.sto ?_
  refine one_store T (X.keeps keep) hx1 (fun h3 tk3 dx k3 far ne hx3 hn3 => ?_)
  show wpAny _ _ (execs _ _) _ _ _
  have z : s.heap.objs.size < h1.objs.size := names.lt
  exact wpAny_execs_nil (hq h3 tk3 dx ⟨fun b o hb e => k3 b o hb (keep b o e), hx3, Nat.le_of_lt (Nat.lt_of_lt_of_le z far), ne, hn3⟩)
/-- one that was made -/
structure Made (h h' : Heap) (e C d : Addr) (v : Value) : Prop where
  old : ∀ b o, h.get? b = some o → h'.get? b = some o
  new : h.objs.size ≤ e
  its : ∃ oe vs, h'.get? e = some oe ∧ oe.cls = .ref C ∧ oe.dict = some d ∧ oe.data = .fields vs ∧ vs[1]? = some .none ∧ vs[2]? = some .none
  far : h.objs.size ≤ d
  two : d ≠ e
  fld : h'.Ns1 d (fun y => if y = "fact" then some v else none)
theorem one_made (T : OneTxt K mg C fI) {v : Value} (X : K.In s.heap) (hlim : s.heap.NoLimit) (hroom : A.depth + 1 < recursionLimit)
    (hq : ∀ h' tk e d, Made s.heap h' e C d v → R (.ok (.ret (.ref e))) { s with heap := h', toks := tk }) :
    codeAny (model prog w) A (.call (.ref C) ⟨[v], []⟩) R s := by
  obtain ⟨nm', N', qn, bs, bm, hdct, sn, sub, ab, col, dd, k0, k1, k2, k3, k5, hC, hT⟩ := excInit_of X T.ini
  obtain ⟨hp, g, dr, tk, os⟩ := s
  have keep : ∀ b o, hp.get? b = some o → ((hp.push (kdv_tup [v])).push (excO C hp.objs.size)).get? b = some o := fun b o e => by
    exact Heap.get?_push_of_some _ (Heap.get?_push_of_some _ e)
  have here : ((hp.push (kdv_tup [v])).push (excO C hp.objs.size)).get? (hp.objs.size + 1) = some (excO C hp.objs.size) := by heap_get
  have one : [v].length ≤ sizeLine := by
    show 1 ≤ sizeLine
    rw [sizeLine_eq]
    decide
  refine call_own F.excBase_Exception hT hC (looks_findIn X T.iCl) (fun self => bind_fn X self T.tyI) one ?_
  refine one_init (s := ⟨(hp.push (kdv_tup [v])).push (excO C hp.objs.size), g, dr, tk, os⟩) T (X.keeps keep) (hlim.keeps keep) here ?_ fun h' tk' dx Z => ?_
  · show A.depth + 1 < recursionLimit
    exact hroom
  · have z : hp.objs.size + 1 + 1 ≤ dx := by
      have q := Z.far
      first
        | exact q
        | (simpa only [Heap.size_push] using q)
    refine ⟨rfl, hq h' tk' (hp.objs.size + 1) dx ⟨fun b o e => Z.old b o (Nat.ne_of_lt (Nat.lt_succ_of_lt (Heap.lt_size e))) (keep b o e), Nat.le_succ _, ⟨_, _, Z.its, rfl, rfl, rfl, rfl, rfl⟩, ?_, Z.two, Z.fld⟩⟩
    show hp.objs.size ≤ dx
    omega
end
end YjX_BadFact
end PySem
namespace Yj
open PySem PySem.Spec PyProof.Rows L2
theorem relO_BadFact {v : V} {v' : Value} (r : RelV v v') (f : Str) : RelO (List.lookup f [(("fact" : Str), v)]) (if f = "fact" then some v' else none) := by
  by_cases hw : f = "fact"
  · subst hw
    have q : List.lookup ("fact" : Str) [(("fact" : Str), v)] = some v := by simp [List.lookup]
    rw [if_pos rfl, q]
    exact r
  · have qw : (f == ("fact" : Str)) = false := by simpa using hw
    have q2 : List.lookup f [(("fact" : Str), v)] = none := by simp [List.lookup, qw]
    rw [if_neg hw, q2]
    trivial
section
variable {X : Cx} {C fI : Addr}
/-- BadFact(e), made where nothing is handled -/
def tMk_BadFact (C : Addr) (ta : TA) : L2.St → Hp → XK → Prop := fun σ H Q => ta σ H fun vs H1 => ∃ v, vs = [v] ∧ ∀ d, H1 d = none → Q (.ref C) (some d) (upd H1 d (.xd [(("fact" : Str), v)]))
theorem pmk_BadFact {a : Expr} {ta : TA} {p pos : Pos} {k : Nat} (T : PySem.YjX_BadFact.OneTxt X.K X.mg C fI) (hr : Room k X.A) (ha : PA X [a] ta) (hg : Gl X "BadFact" := by rfl) (hdb : (("BadFact" : Str) == ("__debug__" : Str)) = false := by decide)
    (he : starEach (a :: []) X.env = (false, eval a X.env) :: starEach [] X.env := by rfl) (hpl : (backTo pos (starEach [] X.env)).any (·.1) = false := by rfl) :
    L2N.PMk X (.Call (.Name "BadFact" p) [a] [] pos) (tMk_BadFact C ta) := by
  intro pins s σ H Q I h
  refine wpAny_Call_Name_kw (ld_glob I hg T.cla ?_ hdb)
  refine PySem.W.callWith_K (h₀ := X.base) I.ok.mod.kin T.kep (thn (ha.run pos pins s σ H _ I h) fun us s1 hh => ?_) he hpl
  obtain ⟨vs, H1, I1, r1, v, ev, q1⟩ := hh
  subst ev
  obtain ⟨v', rfl, rv⟩ := vals1 r1
  refine ⟨I1.kIn, ?_⟩
  show wpAny _ _ (call (.ref C) [v']) _ _ _
  have lim := I1.nolimit
  obtain ⟨hp, g, dr, tk, os⟩ := s1
  refine wpAny_call (PySem.YjX_BadFact.one_made T I1.kIn lim (by have := hr.dp; omega) fun h' tk' e d M => ?_)
  show L2N.MkP X pins σ Q (.ref e) ⟨h', g, dr, tk', os⟩
  obtain ⟨oe, fv, hoe, hc, hd, hdat, h1, h2⟩ := M.its
  obtain ⟨G', g1, g2⟩ := restrict h' fun b => decide (b ≠ e)
  have gk : ∀ b, b ≠ e → G'.get? b = h'.get? b := fun b hb => g1 b (decide_eq_true hb)
  have ge : G'.get? e = none := g2 e (by simp)
  have old : ∀ b o, hp.get? b = some o → G'.get? b = some o := fun b o q => by
    rw [gk b (Nat.ne_of_lt (Nat.lt_of_lt_of_le (Heap.lt_size q) M.new))]
    exact M.old b o q
  have ob : ObjOk X.prog X.w (upd H1 d (.xd [(("fact" : Str), v)])) G' d (.xd [(("fact" : Str), v)]) :=
    ⟨_, M.fld.at (fun o q => (gk d M.two).trans q), fun f => relO_BadFact rv f⟩
  have J : Inv X pins σ (upd H1 d (.xd [(("fact" : Str), v)])) ⟨G', g, dr, tk', os⟩ := I1.laid (t' := tk') old M.far ob
  refine ⟨e, oe, fv, ⟨G', g, dr, tk', os⟩, _, .ref C, some d, rfl, J, fun b o q => ?_, ge, hoe, ⟨hc, hd, fun vs e' => ?_⟩, hdat, h1, ?_, rfl, I1.bare, raises_own T.exB T.tyC, q1 d (I1.hok.fresh M.far)⟩
  · have hb : b ≠ e := fun z => by
      have q' : G'.get? b = some o := q
      rw [z, ge] at q'
      cases q'
    exact (gk b hb).symm.trans q
  · rw [hdat] at e'
    cases e'
    exact h2
  · rw [upd_ne (Ne.symm M.two)]
    exact I1.hok.fresh M.new
/-- raise BadFact(e) -/
def tRaise_BadFact (C : Addr) (W : WX) (ta : TA) : TS := fun _ σ H => tMk_BadFact C ta σ H fun cls d H' => W cls d σ H'
theorem ps_raise_BadFact {a : Expr} {ta : TA} {W : WX} {p pos pos2 : Pos} {k : Nat} (hc : X.calm = true) (T : PySem.YjX_BadFact.OneTxt X.K X.mg C fI) (hr : Room k X.A) (tk : L2N.Takes X W) (ha : PA X [a] ta) (hg : Gl X "BadFact" := by rfl) (hdb : (("BadFact" : Str) == ("__debug__" : Str)) = false := by decide)
    (he : starEach (a :: []) X.env = (false, eval a X.env) :: starEach [] X.env := by rfl) (hpl : (backTo pos (starEach [] X.env)).any (·.1) = false := by rfl) :
    PS X (.Raise (some (.Call (.Name "BadFact" p) [a] [] pos)) none pos2) (tRaise_BadFact C W ta) := by
  exact L2N.ps_raise hc tk (pmk_BadFact T hr ha hg hdb he hpl)
/-- bad.fact, bad the exception that the suite holds -/
def tBy_BadFact (C : Addr) (a : Addr) (cls : Value) (d : Option Addr) (te : TE) : TE := fun σ H Q => te σ H fun x H1 => x = .ref a ∧ cls = .ref C ∧ ∃ (dd : Addr) (v : V), d = some dd ∧ H1 dd = some (.xd [(("fact" : Str), v)]) ∧ Q v H1
theorem pe_by_BadFact {a : Addr} {oe : Obj} {cls : Value} {d : Option Addr} {pn : List (Addr × Obj)} {e : Expr} {te : TE} {pos : Pos} (T : PySem.YjX_BadFact.OneTxt X.K X.mg C fI) (hz : L2N.Zn cls d oe) (hf : ∃ vs, oe.data = .fields vs) (he : PE (X.suite a ((a, oe) :: pn)) e te)
    (hb : attributeBase e "fact" X.env (eval e X.env) = eval e X.env := by rfl) :
    PE (X.suite a ((a, oe) :: pn)) (.Attribute e "fact" pos) (tBy_BadFact C a cls d te) := by
  refine ⟨fun pins s σ H Q I h => ?_⟩
  refine attr_of hb (thn (he.run pins s σ H _ I h) fun u s1 hh => ?_)
  obtain ⟨x, H1, I1, rx, rfl, rfl, dd, v, rfl, ea, q⟩ := hh
  obtain rfl : u = Value.ref a := rx
  obtain ⟨ha, _⟩ := I1.pin (a, oe) (List.mem_append_left _ List.mem_cons_self)
  obtain ⟨vs, hd⟩ := hf
  obtain ⟨mA, hns, hr⟩ := (show ObjOk X.prog X.w H1 s1.heap dd (.xd [(("fact" : Str), v)]) from I1.hok dd _ ea)
  obtain ⟨od, ho, hl⟩ := lookIn_ns hns
  have l : List.lookup ("fact" : Str) [(("fact" : Str), v)] = some v := by simp [List.lookup]
  obtain ⟨u, hu, ru⟩ := RelO.some_of (v := v) (o := mA "fact") (by rw [← l]; exact hr "fact")
  have J : PySem.W.InstAt s1.heap a oe C (some od) := ⟨ha, hz.1, by unfold PySem.W.notCls; rw [hd] <;> rfl, by rw [hz.2.1]; exact ho⟩
  refine HandSPX.exc_get I1.kIn J T.gat T.ggt T.exB (PySem.W.findObj_own T.hdC T.non rfl (by rw [hl, hu])) (handed_of ru) ?_
  exact ⟨v, H1, I1.tok _, ru, q⟩
end
end Yj
set_option Elab.async false
set_option linter.all false
set_option maxRecDepth 100000
set_option maxHeartbeats 4000000
set_option pp.maxSteps 1500
/-! An own error below an own error below Exception, with one field that its __init__ stores. -/
namespace PySem
namespace YjX_BadChange
open PySem.W PySem.Calls PyProof.Rows PySem.HandSPX
abbrev exTail : List Value := [.type "Exception", .type "BaseException", .type "object"]
def nArgs (p1 p2 : Pos) : Arguments := { posonlyargs := [], args := [{ arg := "self", annotation := none, pos := p1 }, { arg := "word", annotation := none, pos := p2 }], vararg := none, kwonlyargs := [], kw_defaults := [], kwarg := none, defaults := [] }
def nBody (q1 q2 q3 q4 : Pos) : List Stmt := [.Assign [.Attribute (.Name "self" q1) "word" q2] (.Name "word" q3) q4]
def nScope (mo : List (Str × Const)) : Scope := { kind := .function, names := [(PySem.Str.ofString "self", .local), (PySem.Str.ofString "word", .local)], isGenerator := false, isCoroutine := false, more := mo }
/-- what the top has left of such a class at C, its __init__ at fI -/
structure OneTxt (K : Frag) (mg : Str → Option Value) (C fI : Addr) : Prop where
  cla : mg "BadChange" = some (.ref C)
  ini : excInitIn K C exTail "Exception.__new__" = true
  ovr : excOver K C exTail = true
  tak : takerIn K C "word" = some none
  dct : ∃ cd, clsIn K C = some cd ∧ cd.hasDict = true
  sto : findIn K (.ref C) "__setattr__" = some (some (.builtin "object.__setattr__"))
  gat : findIn K (.ref C) "__getattribute__" = some (some (.builtin "BaseException.__getattribute__"))
  ggt : findIn K (.ref C) "__getattr__" = some none
  non : findIn K (.ref C) "word" = some none
  iCl : findIn K (.ref C) "__init__" = some (some (.ref fI))
  tyI : typeIn K (.ref fI) = some (.type "function")
  kep : keepIn K (.ref C) = true
  exB : subIn K (.ref C) (.type "BaseException") = some true
  tyC : typeIn K (.ref C) = some (.type "type")
  hdC : hasDictIn K C = true
  exm : exmOne K (.ref C) (.ref C) = some true
  fun' : ∃ (oc : Value) (od : Option Addr) (doc pm : Value) (an : Option Addr) (cdv ct : Value) (osl : Array (Option Value)) (p1 p2 q1 q2 q3 q4 : Pos) (mo : List (Str × Const)) (kw : Value),
    K.lookup fI = some ⟨oc, od, .func (fnOf "__init__" "BadChange.__init__" (nArgs p1 p2) (nBody q1 q2 q3 q4) (nScope mo) .none kw doc pm an cdv ct), osl⟩ ∧ codeIn K cdv "BadChange.__init__" = true
section
open Builtin Builtin.ObjectAttr
variable {prog : Program} {w : World} {A : Around} {E : Value → Shared → Prop} {R : Result → Shared → Prop} {hp : Heap} {g : Array GenState} {dr : Drawn} {t : Nat} {os : OsState} {K : Frag} {mg : Str → Option Value} {C fI : Addr}
/-- the first field of an exception that has no dict yet -/
theorem one_store (T : OneTxt K mg C fI) {x t0 : Addr} {tk : Tok} {v : Value} (X : K.In hp) (hx : hp.get? x = some (excO C t0))
    (hq : ∀ h' tk' dx, (∀ b o, b ≠ x → hp.get? b = some o → h'.get? b = some o) → hp.objs.size ≤ dx → dx ≠ x → h'.get? x = some { cls := .ref C, dict := some dx, data := .fields #[.ref t0, .none, .none, .none, .bool false, .none] } →
      h'.Ns1 dx (fun y => if y = "word" then some v else none) → R (.ok (.ret .none)) ⟨h', g, dr, tk', os⟩) :
    codeAny (model prog w) A (.call (.builtin "object.__setattr__") ⟨[.ref x, .str "word" tk, v], []⟩) R ⟨hp, g, dr, t, os⟩ := by
  have I : InstAt hp x (excO C t0) C none := ⟨hx, rfl, rfl, trivial⟩
  obtain ⟨cd, hcd, hdd⟩ := T.dct
  have hcl : Looks (model prog w) hp (classData C) cd := looks_clsIn X hcd
  have far : x ≠ hp.objs.size := Nat.ne_of_lt (Heap.lt_size hx)
  refine osa_openX (s := ⟨hp, g, dr, t, os⟩) F.store_Exception X I T.ovr T.tak fun b => ?_
  show wpAny _ _ (storeInOwnDict (.ref x) (.ref C) (.str "word" tk) "word" v b) _ _ _
  unfold storeInOwnDict ownDictForStores
  obtain ⟨c1, c2, c3, c4, c5, c6, c7, c8, c9, c10, c11⟩ := cd
  dsimp only at hdd
  subst hdd
  repeat (first | with_reducible refine store_in_new ?_ ?_ | with_reducible refine wpAny_loadPart_at hx ?_ | with_reducible refine hcl.at ?_ | wp_step)
  · exact ⟨_, #[], _, (Heap.get?_update_ne _ _ _ _ far.symm).trans (Heap.get?_push_at rfl rfl), rfl, fun e he => absurd he (by simp), fun _ => rfl⟩
  · intro h' tk' hn' hs
    have e1 : (hp.push { cls := .type "dict", data := .dict #[] }).get? x = some (excO C t0) := Heap.get?_push_of_some _ hx
    refine hq h' tk' hp.objs.size (fun b o hb ho => ?_) (Nat.le_refl _) far.symm ?_ hn'
    · refine (hs.2 b (Nat.ne_of_lt (Heap.lt_size ho))).trans ?_
      exact (Heap.get?_update_ne _ _ _ _ hb).trans (Heap.get?_push_of_some _ ho)
    · exact (hs.2 x far).trans (Heap.get?_update_self _ e1 rfl)
end
/-- a name of the def, read -/
theorem nread {M : Model} {s : Shared} {A : Around} {E : Value → Shared → Prop} {name : Str} {scope : Scope} {L a : Addr} {cd : Value} {m : Str → Option Value} {x : Str} {pos : Pos} {v : Value} {Q : Value → Shared → Prop} (hn : s.heap.Ns L m) (hv : m x = some v) (h : Q v s)
    (hk : scope.kind = .function := by rfl) (hl : (envOfC name scope L a cd).kindOf x = some .local := by rfl) (hd : (x == ("__debug__" : Str)) = false := by decide) :
    wpAny M A (eval (.Name x pos) (envOfC name scope L a cd)) Q E s := by
  exact wpAny_Name (wpAny_loadName_local hk hl hn hv h) hd
section
variable {prog : Program} {w : World} {A : Around} {E : Value → Shared → Prop} {R : Result → Shared → Prop} {s : Shared} {K : Frag} {mg : Str → Option Value} {C fI : Addr}
/-- what __init__ leaves of a fresh exception at x -/
structure Inited (h h' : Heap) (x C dx t1 : Addr) (v : Value) : Prop where
  old : ∀ b o, b ≠ x → h.get? b = some o → h'.get? b = some o
  its : h'.get? x = some { cls := .ref C, dict := some dx, data := .fields #[.ref t1, .none, .none, .none, .bool false, .none] }
  far : h.objs.size ≤ dx
  two : dx ≠ x
  fld : h'.Ns1 dx (fun y => if y = "word" then some v else none)
theorem one_init (T : OneTxt K mg C fI) {x t0 : Addr} {v : Value} (X : K.In s.heap) (hlim : s.heap.NoLimit) (hx : s.heap.get? x = some (excO C t0)) (hroom : A.depth < recursionLimit)
    (hq : ∀ h' tk dx, Inited s.heap h' x C dx t0 v → R (.ok (.ret .none)) { s with heap := h', toks := tk }) :
    codeAny (model prog w) A (.call (.ref fI) ⟨[.ref x, v], []⟩) R s := by
  obtain ⟨oc, od, doc, pm, an, cdv, ct, osl, p1, p2, q1, q2, q3, q4, mo, kw, ho, hcd⟩ := T.fun'
  refine Att.call_fn (binds := [("self", .ref x), ("word", v)]) X hlim ho hcd hroom (BindsTo.of_eq (by first | rfl | with_unfolding_all rfl)) (by first | rfl | decide | with_unfolding_all rfl) (fun s1 IC => ?_) rfl rfl rfl
  obtain ⟨h1, tk1, rfl⟩ := IC.toInCall.same
  have keep : ∀ b o, s.heap.get? b = some o → h1.get? b = some o := IC.toInCall.keep
  have names := IC.toInCall.ns
  have hx1 := keep _ _ hx
  show wpAny _ _ (execs _ _) _ _ _
  refine wpAny_execs_cons (plainObj_wpAny_Assign_Attribute ?_)
  refine nread (v := v) names (by first | rfl | with_unfolding_all rfl | kernel_rfl) (nread (v := .ref x) names (by first | rfl | with_unfolding_all rfl | kernel_rfl) ?_)
  refine set_plain (X.keeps keep) (ox := excO C t0) (od := none) ⟨hx1, rfl, rfl, trivial⟩ T.sto ?_
  refine one_store T (X.keeps keep) hx1 (fun h3 tk3 dx k3 far ne hx3 hn3 => ?_)
  show wpAny _ _ (execs _ _) _ _ _
  have z : s.heap.objs.size < h1.objs.size := names.lt
  exact wpAny_execs_nil (hq h3 tk3 dx ⟨fun b o hb e => k3 b o hb (keep b o e), hx3, Nat.le_of_lt (Nat.lt_of_lt_of_le z far), ne, hn3⟩)
/-- one that was made -/
structure Made (h h' : Heap) (e C d : Addr) (v : Value) : Prop where
  old : ∀ b o, h.get? b = some o → h'.get? b = some o
  new : h.objs.size ≤ e
  its : ∃ oe vs, h'.get? e = some oe ∧ oe.cls = .ref C ∧ oe.dict = some d ∧ oe.data = .fields vs ∧ vs[1]? = some .none ∧ vs[2]? = some .none
  far : h.objs.size ≤ d
  two : d ≠ e
  fld : h'.Ns1 d (fun y => if y = "word" then some v else none)
theorem one_made (T : OneTxt K mg C fI) {v : Value} (X : K.In s.heap) (hlim : s.heap.NoLimit) (hroom : A.depth + 1 < recursionLimit)
    (hq : ∀ h' tk e d, Made s.heap h' e C d v → R (.ok (.ret (.ref e))) { s with heap := h', toks := tk }) :
    codeAny (model prog w) A (.call (.ref C) ⟨[v], []⟩) R s := by
  obtain ⟨nm', N', qn, bs, bm, hdct, sn, sub, ab, col, dd, k0, k1, k2, k3, k5, hC, hT⟩ := excInit_of X T.ini
  obtain ⟨hp, g, dr, tk, os⟩ := s
  have keep : ∀ b o, hp.get? b = some o → ((hp.push (kdv_tup [v])).push (excO C hp.objs.size)).get? b = some o := fun b o e => by
    exact Heap.get?_push_of_some _ (Heap.get?_push_of_some _ e)
  have here : ((hp.push (kdv_tup [v])).push (excO C hp.objs.size)).get? (hp.objs.size + 1) = some (excO C hp.objs.size) := by heap_get
  have one : [v].length ≤ sizeLine := by
    show 1 ≤ sizeLine
    rw [sizeLine_eq]
    decide
  refine call_own F.excBase_Exception hT hC (looks_findIn X T.iCl) (fun self => bind_fn X self T.tyI) one ?_
  refine one_init (s := ⟨(hp.push (kdv_tup [v])).push (excO C hp.objs.size), g, dr, tk, os⟩) T (X.keeps keep) (hlim.keeps keep) here ?_ fun h' tk' dx Z => ?_
  · show A.depth + 1 < recursionLimit
    exact hroom
  · have z : hp.objs.size + 1 + 1 ≤ dx := by
      have q := Z.far
      first
        | exact q
        | (simpa only [Heap.size_push] using q)
    refine ⟨rfl, hq h' tk' (hp.objs.size + 1) dx ⟨fun b o e => Z.old b o (Nat.ne_of_lt (Nat.lt_succ_of_lt (Heap.lt_size e))) (keep b o e), Nat.le_succ _, ⟨_, _, Z.its, rfl, rfl, rfl, rfl, rfl⟩, ?_, Z.two, Z.fld⟩⟩
    show hp.objs.size ≤ dx
    omega
end
end YjX_BadChange
end PySem
namespace Yj
open PySem PySem.Spec PyProof.Rows L2
theorem relO_BadChange {v : V} {v' : Value} (r : RelV v v') (f : Str) : RelO (List.lookup f [(("word" : Str), v)]) (if f = "word" then some v' else none) := by
  by_cases hw : f = "word"
  · subst hw
    have q : List.lookup ("word" : Str) [(("word" : Str), v)] = some v := by simp [List.lookup]
    rw [if_pos rfl, q]
    exact r
  · have qw : (f == ("word" : Str)) = false := by simpa using hw
    have q2 : List.lookup f [(("word" : Str), v)] = none := by simp [List.lookup, qw]
    rw [if_neg hw, q2]
    trivial
section
variable {X : Cx} {C fI : Addr}
/-- BadChange(e), made where nothing is handled -/
def tMk_BadChange (C : Addr) (ta : TA) : L2.St → Hp → XK → Prop := fun σ H Q => ta σ H fun vs H1 => ∃ v, vs = [v] ∧ ∀ d, H1 d = none → Q (.ref C) (some d) (upd H1 d (.xd [(("word" : Str), v)]))
theorem pmk_BadChange {a : Expr} {ta : TA} {p pos : Pos} {k : Nat} (T : PySem.YjX_BadChange.OneTxt X.K X.mg C fI) (hr : Room k X.A) (ha : PA X [a] ta) (hg : Gl X "BadChange" := by rfl) (hdb : (("BadChange" : Str) == ("__debug__" : Str)) = false := by decide)
    (he : starEach (a :: []) X.env = (false, eval a X.env) :: starEach [] X.env := by rfl) (hpl : (backTo pos (starEach [] X.env)).any (·.1) = false := by rfl) :
    L2N.PMk X (.Call (.Name "BadChange" p) [a] [] pos) (tMk_BadChange C ta) := by
  intro pins s σ H Q I h
  refine wpAny_Call_Name_kw (ld_glob I hg T.cla ?_ hdb)
  refine PySem.W.callWith_K (h₀ := X.base) I.ok.mod.kin T.kep (thn (ha.run pos pins s σ H _ I h) fun us s1 hh => ?_) he hpl
  obtain ⟨vs, H1, I1, r1, v, ev, q1⟩ := hh
  subst ev
  obtain ⟨v', rfl, rv⟩ := vals1 r1
  refine ⟨I1.kIn, ?_⟩
  show wpAny _ _ (call (.ref C) [v']) _ _ _
  have lim := I1.nolimit
  obtain ⟨hp, g, dr, tk, os⟩ := s1
  refine wpAny_call (PySem.YjX_BadChange.one_made T I1.kIn lim (by have := hr.dp; omega) fun h' tk' e d M => ?_)
  show L2N.MkP X pins σ Q (.ref e) ⟨h', g, dr, tk', os⟩
  obtain ⟨oe, fv, hoe, hc, hd, hdat, h1, h2⟩ := M.its
  obtain ⟨G', g1, g2⟩ := restrict h' fun b => decide (b ≠ e)
  have gk : ∀ b, b ≠ e → G'.get? b = h'.get? b := fun b hb => g1 b (decide_eq_true hb)
  have ge : G'.get? e = none := g2 e (by simp)
  have old : ∀ b o, hp.get? b = some o → G'.get? b = some o := fun b o q => by
    rw [gk b (Nat.ne_of_lt (Nat.lt_of_lt_of_le (Heap.lt_size q) M.new))]
    exact M.old b o q
  have ob : ObjOk X.prog X.w (upd H1 d (.xd [(("word" : Str), v)])) G' d (.xd [(("word" : Str), v)]) :=
    ⟨_, M.fld.at (fun o q => (gk d M.two).trans q), fun f => relO_BadChange rv f⟩
  have J : Inv X pins σ (upd H1 d (.xd [(("word" : Str), v)])) ⟨G', g, dr, tk', os⟩ := I1.laid (t' := tk') old M.far ob
  refine ⟨e, oe, fv, ⟨G', g, dr, tk', os⟩, _, .ref C, some d, rfl, J, fun b o q => ?_, ge, hoe, ⟨hc, hd, fun vs e' => ?_⟩, hdat, h1, ?_, rfl, I1.bare, raises_own T.exB T.tyC, q1 d (I1.hok.fresh M.far)⟩
  · have hb : b ≠ e := fun z => by
      have q' : G'.get? b = some o := q
      rw [z, ge] at q'
      cases q'
    exact (gk b hb).symm.trans q
  · rw [hdat] at e'
    cases e'
    exact h2
  · rw [upd_ne (Ne.symm M.two)]
    exact I1.hok.fresh M.new
/-- raise BadChange(e) -/
def tRaise_BadChange (C : Addr) (W : WX) (ta : TA) : TS := fun _ σ H => tMk_BadChange C ta σ H fun cls d H' => W cls d σ H'
theorem ps_raise_BadChange {a : Expr} {ta : TA} {W : WX} {p pos pos2 : Pos} {k : Nat} (hc : X.calm = true) (T : PySem.YjX_BadChange.OneTxt X.K X.mg C fI) (hr : Room k X.A) (tk : L2N.Takes X W) (ha : PA X [a] ta) (hg : Gl X "BadChange" := by rfl) (hdb : (("BadChange" : Str) == ("__debug__" : Str)) = false := by decide)
    (he : starEach (a :: []) X.env = (false, eval a X.env) :: starEach [] X.env := by rfl) (hpl : (backTo pos (starEach [] X.env)).any (·.1) = false := by rfl) :
    PS X (.Raise (some (.Call (.Name "BadChange" p) [a] [] pos)) none pos2) (tRaise_BadChange C W ta) := by
  exact L2N.ps_raise hc tk (pmk_BadChange T hr ha hg hdb he hpl)
/-- bad.word, bad the exception that the suite holds -/
def tBy_BadChange (C : Addr) (a : Addr) (cls : Value) (d : Option Addr) (te : TE) : TE := fun σ H Q => te σ H fun x H1 => x = .ref a ∧ cls = .ref C ∧ ∃ (dd : Addr) (v : V), d = some dd ∧ H1 dd = some (.xd [(("word" : Str), v)]) ∧ Q v H1
theorem pe_by_BadChange {a : Addr} {oe : Obj} {cls : Value} {d : Option Addr} {pn : List (Addr × Obj)} {e : Expr} {te : TE} {pos : Pos} (T : PySem.YjX_BadChange.OneTxt X.K X.mg C fI) (hz : L2N.Zn cls d oe) (hf : ∃ vs, oe.data = .fields vs) (he : PE (X.suite a ((a, oe) :: pn)) e te)
    (hb : attributeBase e "word" X.env (eval e X.env) = eval e X.env := by rfl) :
    PE (X.suite a ((a, oe) :: pn)) (.Attribute e "word" pos) (tBy_BadChange C a cls d te) := by
  refine ⟨fun pins s σ H Q I h => ?_⟩
  refine attr_of hb (thn (he.run pins s σ H _ I h) fun u s1 hh => ?_)
  obtain ⟨x, H1, I1, rx, rfl, rfl, dd, v, rfl, ea, q⟩ := hh
  obtain rfl : u = Value.ref a := rx
  obtain ⟨ha, _⟩ := I1.pin (a, oe) (List.mem_append_left _ List.mem_cons_self)
  obtain ⟨vs, hd⟩ := hf
  obtain ⟨mA, hns, hr⟩ := (show ObjOk X.prog X.w H1 s1.heap dd (.xd [(("word" : Str), v)]) from I1.hok dd _ ea)
  obtain ⟨od, ho, hl⟩ := lookIn_ns hns
  have l : List.lookup ("word" : Str) [(("word" : Str), v)] = some v := by simp [List.lookup]
  obtain ⟨u, hu, ru⟩ := RelO.some_of (v := v) (o := mA "word") (by rw [← l]; exact hr "word")
  have J : PySem.W.InstAt s1.heap a oe C (some od) := ⟨ha, hz.1, by unfold PySem.W.notCls; rw [hd] <;> rfl, by rw [hz.2.1]; exact ho⟩
  refine HandSPX.exc_get I1.kIn J T.gat T.ggt T.exB (PySem.W.findObj_own T.hdC T.non rfl (by rw [hl, hu])) (handed_of ru) ?_
  exact ⟨v, H1, I1.tok _, ru, q⟩
end
end Yj
set_option Elab.async false
set_option linter.all false
set_option maxRecDepth 100000
namespace Yj
open PySem PySem.Spec PyProof.Rows L2
/-! ### the text -/
def topS (i : Nat) : Stmt := PySem.Challenge.pw_twicedated_k61_whole_merging.main.body.getD i (.Pass ⟨0, 0, 0, 0⟩)
abbrev s_is_integer : Stmt := topS 13
abbrev N_is_integer : List Str := ["thing"]
theorem sc_is_integer : FnScope N_is_integer ["thing"] (defScope s_is_integer) := ⟨rfl, rfl, rfl, by decide +kernel, rfl, by decide +kernel, by decide +kernel⟩
abbrev s_is_name : Stmt := topS 14
abbrev N_is_name : List Str := ["thing", "sign"]
theorem sc_is_name : FnScope N_is_name ["thing"] (defScope s_is_name) := ⟨rfl, rfl, rfl, by decide +kernel, rfl, by decide +kernel, by decide +kernel⟩
abbrev s_is_day : Stmt := topS 15
abbrev N_is_day : List Str := ["thing"]
theorem sc_is_day : FnScope N_is_day ["thing"] (defScope s_is_day) := ⟨rfl, rfl, rfl, by decide +kernel, rfl, by decide +kernel, by decide +kernel⟩
abbrev s_are_names : Stmt := topS 16
abbrev N_are_names : List Str := ["thing", "many", "name"]
theorem sc_are_names : FnScope N_are_names ["thing", "many"] (defScope s_are_names) := ⟨rfl, rfl, rfl, by decide +kernel, rfl, by decide +kernel, by decide +kernel⟩
abbrev s_is_fact : Stmt := topS 17
abbrev N_is_fact : List Str := ["relations", "thing", "relation", "names"]
theorem sc_is_fact : FnScope N_is_fact ["relations", "thing"] (defScope s_is_fact) := ⟨rfl, rfl, rfl, by decide +kernel, rfl, by decide +kernel, by decide +kernel⟩
abbrev s_checked_relations : Stmt := topS 18
abbrev N_checked_relations : List Str := ["relations", "name", "many"]
theorem sc_checked_relations : FnScope N_checked_relations ["relations"] (defScope s_checked_relations) := ⟨rfl, rfl, rfl, by decide +kernel, rfl, by decide +kernel, by decide +kernel⟩
abbrev s_is_span : Stmt := topS 20
abbrev N_is_span : List Str := ["thing", "first", "last"]
theorem sc_is_span : FnScope N_is_span ["thing"] (defScope s_is_span) := ⟨rfl, rfl, rfl, by decide +kernel, rfl, by decide +kernel, by decide +kernel⟩
abbrev s_normal : Stmt := topS 21
abbrev N_normal : List Str := ["spans", "number", "span"]
theorem sc_normal : FnScope N_normal ["spans"] (defScope s_normal) := ⟨rfl, rfl, rfl, by decide +kernel, rfl, by decide +kernel, by decide +kernel⟩
abbrev s__melted : Stmt := topS 22
abbrev N__melted : List Str := ["spans", "row", "first", "last"]
theorem sc__melted : FnScope N__melted ["spans"] (defScope s__melted) := ⟨rfl, rfl, rfl, by decide +kernel, rfl, by decide +kernel, by decide +kernel⟩
abbrev s_union : Stmt := topS 23
abbrev N_union : List Str := ["one", "other"]
theorem sc_union : FnScope N_union ["one", "other"] (defScope s_union) := ⟨rfl, rfl, rfl, by decide +kernel, rfl, by decide +kernel, by decide +kernel⟩
abbrev s_meet : Stmt := topS 24
abbrev N_meet : List Str := ["one", "other", "row", "here", "there", "first", "last"]
theorem sc_meet : FnScope N_meet ["one", "other"] (defScope s_meet) := ⟨rfl, rfl, rfl, by decide +kernel, rfl, by decide +kernel, by decide +kernel⟩
abbrev s_others : Stmt := topS 25
abbrev N_others : List Str := ["one", "row", "free", "first", "last"]
theorem sc_others : FnScope N_others ["one"] (defScope s_others) := ⟨rfl, rfl, rfl, by decide +kernel, rfl, by decide +kernel, by decide +kernel⟩
abbrev s_less : Stmt := topS 26
abbrev N_less : List Str := ["one", "other"]
theorem sc_less : FnScope N_less ["one", "other"] (defScope s_less) := ⟨rfl, rfl, rfl, by decide +kernel, rfl, by decide +kernel, by decide +kernel⟩
abbrev s_unlike : Stmt := topS 27
abbrev N_unlike : List Str := ["one", "other"]
theorem sc_unlike : FnScope N_unlike ["one", "other"] (defScope s_unlike) := ⟨rfl, rfl, rfl, by decide +kernel, rfl, by decide +kernel, by decide +kernel⟩
abbrev s__ended_ahead : Stmt := topS 28
abbrev N__ended_ahead : List Str := ["one", "day", "low", "high", "middle"]
theorem sc__ended_ahead : FnScope N__ended_ahead ["one", "day"] (defScope s__ended_ahead) := ⟨rfl, rfl, rfl, by decide +kernel, rfl, by decide +kernel, by decide +kernel⟩
abbrev s_has : Stmt := topS 29
abbrev N_has : List Str := ["one", "day", "place"]
theorem sc_has : FnScope N_has ["one", "day"] (defScope s_has) := ⟨rfl, rfl, rfl, by decide +kernel, rfl, by decide +kernel, by decide +kernel⟩
abbrev s_change_fault : Stmt := topS 34
abbrev N_change_fault : List Str := ["relations", "change", "word", "relation", "names", "first", "last"]
theorem sc_change_fault : FnScope N_change_fault ["relations", "change"] (defScope s_change_fault) := ⟨rfl, rfl, rfl, by decide +kernel, rfl, by decide +kernel, by decide +kernel⟩
abbrev s_check_change : Stmt := topS 35
abbrev N_check_change : List Str := ["relations", "change", "fault"]
theorem sc_check_change : FnScope N_check_change ["relations", "change"] (defScope s_check_change) := ⟨rfl, rfl, rfl, by decide +kernel, rfl, by decide +kernel, by decide +kernel⟩
abbrev s_row_behind : Stmt := topS 36
abbrev N_row_behind : List Str := ["row", "change", "days"]
theorem sc_row_behind : FnScope N_row_behind ["row", "change"] (defScope s_row_behind) := ⟨rfl, rfl, rfl, by decide +kernel, rfl, by decide +kernel, by decide +kernel⟩
abbrev s_Book___init__ : Stmt := inClass (topS 37) 0
abbrev N_Book___init__ : List Str := ["self", "relations", "rows", "fact", "row"]
theorem sc_Book___init__ : FnScope N_Book___init__ ["self", "relations", "rows"] (defScope s_Book___init__) := ⟨rfl, rfl, rfl, by decide +kernel, rfl, by decide +kernel, by decide +kernel⟩
abbrev s_Book___eq__ : Stmt := inClass (topS 37) 1
abbrev N_Book___eq__ : List Str := ["self", "other"]
theorem sc_Book___eq__ : FnScope N_Book___eq__ ["self", "other"] (defScope s_Book___eq__) := ⟨rfl, rfl, rfl, by decide +kernel, rfl, by decide +kernel, by decide +kernel⟩
abbrev s_Book_spans_of : Stmt := inClass (topS 37) 2
abbrev N_Book_spans_of : List Str := ["self", "relation", "names"]
theorem sc_Book_spans_of : FnScope N_Book_spans_of ["self", "relation", "names"] (defScope s_Book_spans_of) := ⟨rfl, rfl, rfl, by decide +kernel, rfl, by decide +kernel, by decide +kernel⟩
abbrev s_Book_has : Stmt := inClass (topS 37) 3
abbrev N_Book_has : List Str := ["self", "relation", "names", "day"]
theorem sc_Book_has : FnScope N_Book_has ["self", "relation", "names", "day"] (defScope s_Book_has) := ⟨rfl, rfl, rfl, by decide +kernel, rfl, by decide +kernel, by decide +kernel⟩
abbrev s_Book_changed : Stmt := inClass (topS 37) 10
abbrev N_Book_changed : List Str := ["self", "change", "rows", "fact"]
theorem sc_Book_changed : FnScope N_Book_changed ["self", "change"] (defScope s_Book_changed) := ⟨rfl, rfl, rfl, by decide +kernel, rfl, by decide +kernel, by decide +kernel⟩
abbrev s__book_of : Stmt := topS 38
abbrev N__book_of : List Str := ["relations", "rows", "made", "fact"]
theorem sc__book_of : FnScope N__book_of ["relations", "rows"] (defScope s__book_of) := ⟨rfl, rfl, rfl, by decide +kernel, rfl, by decide +kernel, by decide +kernel⟩
abbrev s_empty_book : Stmt := topS 39
abbrev N_empty_book : List Str := ["relations"]
theorem sc_empty_book : FnScope N_empty_book ["relations"] (defScope s_empty_book) := ⟨rfl, rfl, rfl, by decide +kernel, rfl, by decide +kernel, by decide +kernel⟩
abbrev s_merged : Stmt := topS 41
abbrev N_merged : List Str := ["base", "one", "other", "rows", "fact", "mine", "here"]
theorem sc_merged : FnScope N_merged ["base", "one", "other"] (defScope s_merged) := ⟨rfl, rfl, rfl, by decide +kernel, rfl, by decide +kernel, by decide +kernel⟩
abbrev s__facts_of : Stmt := topS 42
abbrev N__facts_of : List Str := ["books", "book", "fact"]
theorem sc__facts_of : FnScope N__facts_of ["books"] (defScope s__facts_of) := ⟨rfl, rfl, rfl, by decide +kernel, rfl, by decide +kernel, by decide +kernel⟩
abbrev s_touched : Stmt := topS 43
abbrev N_touched : List Str := ["base", "book", "found", "fact", "days"]
theorem sc_touched : FnScope N_touched ["base", "book"] (defScope s_touched) := ⟨rfl, rfl, rfl, by decide +kernel, rfl, by decide +kernel, by decide +kernel⟩
abbrev s_both_touched : Stmt := topS 44
abbrev N_both_touched : List Str := ["base", "one", "other", "mine", "theirs", "shared", "fact"]
theorem sc_both_touched : FnScope N_both_touched ["base", "one", "other"] (defScope s_both_touched) := ⟨rfl, rfl, rfl, by decide +kernel, rfl, by decide +kernel, by decide +kernel⟩
abbrev s_replayed : Stmt := topS 45
abbrev N_replayed : List Str := ["base", "changes", "book", "change"]
theorem sc_replayed : FnScope N_replayed ["base", "changes"] (defScope s_replayed) := ⟨rfl, rfl, rfl, by decide +kernel, rfl, by decide +kernel, by decide +kernel⟩
abbrev s_do_agree : Stmt := topS 46
abbrev N_do_agree : List Str := ["base", "one", "other"]
theorem sc_do_agree : FnScope N_do_agree ["base", "one", "other"] (defScope s_do_agree) := ⟨rfl, rfl, rfl, by decide +kernel, rfl, by decide +kernel, by decide +kernel⟩
abbrev s__law_number : Stmt := topS 48
abbrev N__law_number : List Str := ["script", "index", "cell", "blend"]
theorem sc__law_number : FnScope N__law_number ["script", "index"] (defScope s__law_number) := ⟨rfl, rfl, rfl, by decide +kernel, rfl, by decide +kernel, by decide +kernel⟩
abbrev s__law_take : Stmt := topS 49
abbrev N__law_take : List Str := ["draw", "many"]
theorem sc__law_take : FnScope N__law_take ["draw", "many"] (defScope s__law_take) := ⟨rfl, rfl, rfl, by decide +kernel, rfl, by decide +kernel, by decide +kernel⟩
abbrev s__law_pick : Stmt := topS 50
abbrev N__law_pick : List Str := ["draw", "items"]
theorem sc__law_pick : FnScope N__law_pick ["draw", "items"] (defScope s__law_pick) := ⟨rfl, rfl, rfl, by decide +kernel, rfl, by decide +kernel, by decide +kernel⟩
abbrev s__law_relations : Stmt := topS 51
abbrev N__law_relations : List Str := []
theorem sc__law_relations : FnScope N__law_relations [] (defScope s__law_relations) := ⟨rfl, rfl, rfl, by decide +kernel, rfl, by decide +kernel, by decide +kernel⟩
abbrev s__law_day : Stmt := topS 52
abbrev N__law_day : List Str := ["draw"]
theorem sc__law_day : FnScope N__law_day ["draw"] (defScope s__law_day) := ⟨rfl, rfl, rfl, by decide +kernel, rfl, by decide +kernel, by decide +kernel⟩
abbrev s__law_change : Stmt := topS 53
abbrev N__law_change : List Str := ["draw", "first", "last", "word", "relation", "names"]
theorem sc__law_change : FnScope N__law_change ["draw"] (defScope s__law_change) := ⟨rfl, rfl, rfl, by decide +kernel, rfl, by decide +kernel, by decide +kernel⟩
abbrev s__law_changes : Stmt := topS 54
abbrev N__law_changes : List Str := ["draw", "most", "turn"]
theorem sc__law_changes : FnScope N__law_changes ["draw", "most"] (defScope s__law_changes) := ⟨rfl, rfl, rfl, by decide +kernel, rfl, by decide +kernel, by decide +kernel⟩
abbrev s__law_facts : Stmt := topS 55
abbrev N__law_facts : List Str := []
theorem sc__law_facts : FnScope N__law_facts [] (defScope s__law_facts) := ⟨rfl, rfl, rfl, by decide +kernel, rfl, by decide +kernel, by decide +kernel⟩
abbrev s__law_days : Stmt := topS 56
abbrev N__law_days : List Str := []
theorem sc__law_days : FnScope N__law_days [] (defScope s__law_days) := ⟨rfl, rfl, rfl, by decide +kernel, rfl, by decide +kernel, by decide +kernel⟩
abbrev s_law : Stmt := topS 58
abbrev N_law : List Str := ["script", "draw", "base", "mine", "theirs", "one", "other", "late", "both", "first", "fact", "day", "before", "here", "there", "agree", "known", "states", "rows", "found", "word", "relation", "names", "begin", "end"]
theorem sc_law : FnScope N_law ["script"] (defScope s_law) := ⟨rfl, rfl, rfl, by decide +kernel, rfl, by decide +kernel, by decide +kernel⟩
structure Txt (K : PySem.W.Frag) (mg : Str → Option Value) (ad : Nat → Addr) (fds : Nat → FuncData) (cs : Nat → Value) : Prop where
  g_is_integer : mg "is_integer" = some (.ref (ad 13))
  F_is_integer : Fun K "is_integer" "is_integer" s_is_integer (ad 13) (fds 13)
  g_is_name : mg "is_name" = some (.ref (ad 14))
  F_is_name : Fun K "is_name" "is_name" s_is_name (ad 14) (fds 14)
  g_is_day : mg "is_day" = some (.ref (ad 15))
  F_is_day : Fun K "is_day" "is_day" s_is_day (ad 15) (fds 15)
  g_are_names : mg "are_names" = some (.ref (ad 16))
  F_are_names : Fun K "are_names" "are_names" s_are_names (ad 16) (fds 16)
  g_is_fact : mg "is_fact" = some (.ref (ad 17))
  F_is_fact : Fun K "is_fact" "is_fact" s_is_fact (ad 17) (fds 17)
  g_checked_relations : mg "checked_relations" = some (.ref (ad 18))
  F_checked_relations : Fun K "checked_relations" "checked_relations" s_checked_relations (ad 18) (fds 18)
  g_is_span : mg "is_span" = some (.ref (ad 20))
  F_is_span : Fun K "is_span" "is_span" s_is_span (ad 20) (fds 20)
  g_normal : mg "normal" = some (.ref (ad 21))
  F_normal : Fun K "normal" "normal" s_normal (ad 21) (fds 21)
  g__melted : mg "_melted" = some (.ref (ad 22))
  F__melted : Fun K "_melted" "_melted" s__melted (ad 22) (fds 22)
  g_union : mg "union" = some (.ref (ad 23))
  F_union : Fun K "union" "union" s_union (ad 23) (fds 23)
  g_meet : mg "meet" = some (.ref (ad 24))
  F_meet : Fun K "meet" "meet" s_meet (ad 24) (fds 24)
  g_others : mg "others" = some (.ref (ad 25))
  F_others : Fun K "others" "others" s_others (ad 25) (fds 25)
  g_less : mg "less" = some (.ref (ad 26))
  F_less : Fun K "less" "less" s_less (ad 26) (fds 26)
  g_unlike : mg "unlike" = some (.ref (ad 27))
  F_unlike : Fun K "unlike" "unlike" s_unlike (ad 27) (fds 27)
  g__ended_ahead : mg "_ended_ahead" = some (.ref (ad 28))
  F__ended_ahead : Fun K "_ended_ahead" "_ended_ahead" s__ended_ahead (ad 28) (fds 28)
  g_has : mg "has" = some (.ref (ad 29))
  F_has : Fun K "has" "has" s_has (ad 29) (fds 29)
  g_change_fault : mg "change_fault" = some (.ref (ad 34))
  F_change_fault : Fun K "change_fault" "change_fault" s_change_fault (ad 34) (fds 34)
  g_check_change : mg "check_change" = some (.ref (ad 35))
  F_check_change : Fun K "check_change" "check_change" s_check_change (ad 35) (fds 35)
  g_row_behind : mg "row_behind" = some (.ref (ad 36))
  F_row_behind : Fun K "row_behind" "row_behind" s_row_behind (ad 36) (fds 36)
  F_Book___init__ : Fun K "__init__" "Book.__init__" s_Book___init__ (ad 38000) (fds 38000)
  F_Book___eq__ : Fun K "__eq__" "Book.__eq__" s_Book___eq__ (ad 38001) (fds 38001)
  F_Book_spans_of : Fun K "spans_of" "Book.spans_of" s_Book_spans_of (ad 38002) (fds 38002)
  F_Book_has : Fun K "has" "Book.has" s_Book_has (ad 38003) (fds 38003)
  F_Book_changed : Fun K "changed" "Book.changed" s_Book_changed (ad 38010) (fds 38010)
  g__book_of : mg "_book_of" = some (.ref (ad 38))
  F__book_of : Fun K "_book_of" "_book_of" s__book_of (ad 38) (fds 38)
  g_empty_book : mg "empty_book" = some (.ref (ad 39))
  F_empty_book : Fun K "empty_book" "empty_book" s_empty_book (ad 39) (fds 39)
  g_merged : mg "merged" = some (.ref (ad 41))
  F_merged : Fun K "merged" "merged" s_merged (ad 41) (fds 41)
  g__facts_of : mg "_facts_of" = some (.ref (ad 42))
  F__facts_of : Fun K "_facts_of" "_facts_of" s__facts_of (ad 42) (fds 42)
  g_touched : mg "touched" = some (.ref (ad 43))
  F_touched : Fun K "touched" "touched" s_touched (ad 43) (fds 43)
  g_both_touched : mg "both_touched" = some (.ref (ad 44))
  F_both_touched : Fun K "both_touched" "both_touched" s_both_touched (ad 44) (fds 44)
  g_replayed : mg "replayed" = some (.ref (ad 45))
  F_replayed : Fun K "replayed" "replayed" s_replayed (ad 45) (fds 45)
  g_do_agree : mg "do_agree" = some (.ref (ad 46))
  F_do_agree : Fun K "do_agree" "do_agree" s_do_agree (ad 46) (fds 46)
  g__law_number : mg "_law_number" = some (.ref (ad 48))
  F__law_number : Fun K "_law_number" "_law_number" s__law_number (ad 48) (fds 48)
  g__law_take : mg "_law_take" = some (.ref (ad 49))
  F__law_take : Fun K "_law_take" "_law_take" s__law_take (ad 49) (fds 49)
  g__law_pick : mg "_law_pick" = some (.ref (ad 50))
  F__law_pick : Fun K "_law_pick" "_law_pick" s__law_pick (ad 50) (fds 50)
  g__law_relations : mg "_law_relations" = some (.ref (ad 51))
  F__law_relations : Fun K "_law_relations" "_law_relations" s__law_relations (ad 51) (fds 51)
  g__law_day : mg "_law_day" = some (.ref (ad 52))
  F__law_day : Fun K "_law_day" "_law_day" s__law_day (ad 52) (fds 52)
  g__law_change : mg "_law_change" = some (.ref (ad 53))
  F__law_change : Fun K "_law_change" "_law_change" s__law_change (ad 53) (fds 53)
  g__law_changes : mg "_law_changes" = some (.ref (ad 54))
  F__law_changes : Fun K "_law_changes" "_law_changes" s__law_changes (ad 54) (fds 54)
  g__law_facts : mg "_law_facts" = some (.ref (ad 55))
  F__law_facts : Fun K "_law_facts" "_law_facts" s__law_facts (ad 55) (fds 55)
  g__law_days : mg "_law_days" = some (.ref (ad 56))
  F__law_days : Fun K "_law_days" "_law_days" s__law_days (ad 56) (fds 56)
  g_law : mg "law" = some (.ref (ad 58))
  F_law : Fun K "law" "law" s_law (ad 58) (fds 58)
  g_has_spans : mg "has_spans" = some (.ref (ad 29))
  g_Book : mg "Book" = some (.ref (ad 38999))
  cl_Book : Cls K (ad 38999)
  mk_Book : Mk K (ad 38999) (ad 38000)
  na_Book_relations : NoAttr K (ad 38999) "relations"
  na_Book_rows : NoAttr K (ad 38999) "rows"
  m_Book_spans_of : Meth K (ad 38999) "spans_of" (ad 38002)
  m_Book_has : Meth K (ad 38999) "has" (ad 38003)
  m_Book_changed : Meth K (ad 38999) "changed" (ad 38010)
  eq_Book : YjD.OwnEq K (ad 38999) (ad 38001)
  is_Book : YjD.IsCls K (ad 38999)
  x_BadSpans : PySem.YjX_BadSpans.OneTxt K mg (ad 4999) (ad 4000)
  x_BadRelations : PySem.YjX_BadRelations.OneTxt K mg (ad 5999) (ad 5000)
  x_BadFact : PySem.YjX_BadFact.OneTxt K mg (ad 6999) (ad 6000)
  x_BadChange : PySem.YjX_BadChange.OneTxt K mg (ad 7999) (ad 7000)
  z_isinstance : mg "isinstance" = none
  z_len : mg "len" = none
  z_all : mg "all" = none
  z_any : mg "any" = none
  z_sum : mg "sum" = none
  z_sorted : mg "sorted" = none
  z_max : mg "max" = none
  z_min : mg "min" = none
  z_tuple : mg "tuple" = none
  z_list : mg "list" = none
  z_int : mg "int" = none
  z_bool : mg "bool" = none
  z_str : mg "str" = none
  z_enumerate : mg "enumerate" = none
  z_range : mg "range" = none
  z_set : mg "set" = none
  z_abs : mg "abs" = none
  c_LETTERS : mg "LETTERS" = some (cs 8)
  r_LETTERS : RelV (.str "abcdefghijklmnopqrstuvwxyz") (cs 8)
  c_FIGURES : mg "FIGURES" = some (cs 9)
  r_FIGURES : RelV (.str "0123456789") (cs 9)
  c_LONGEST_NAME : mg "LONGEST_NAME" = some (cs 10)
  r_LONGEST_NAME : RelV (.int 8) (cs 10)
  c_LAST_DAY : mg "LAST_DAY" = some (cs 11)
  r_LAST_DAY : RelV (.int 999999) (cs 11)
  c_MOST_NAMES : mg "MOST_NAMES" = some (cs 12)
  r_MOST_NAMES : RelV (.int 4) (cs 12)
  c_SET : mg "SET" = some (cs 32)
  r_SET : RelV (.str "set") (cs 32)
  c_CLEAR : mg "CLEAR" = some (cs 33)
  r_CLEAR : RelV (.str "clear") (cs 33)
section
variable {P : Program} {w : World} {K : PySem.W.Frag} {mg : Str → Option Value} {base : Heap} {ad : Nat → Addr} {fds : Nat → FuncData} {cs : Nat → Value}
theorem bi_is_integer (T : Txt K mg ad fds cs) : Binds K (fds 13) ["thing"] [] := T.F_is_integer.binds (ps := ["thing"]) fun _ _ _ _ _ _ us hl => match us, hl with | [_], _ => rfl
theorem bi_is_name (T : Txt K mg ad fds cs) : Binds K (fds 14) ["thing"] [] := T.F_is_name.binds (ps := ["thing"]) fun _ _ _ _ _ _ us hl => match us, hl with | [_], _ => rfl
theorem bi_is_day (T : Txt K mg ad fds cs) : Binds K (fds 15) ["thing"] [] := T.F_is_day.binds (ps := ["thing"]) fun _ _ _ _ _ _ us hl => match us, hl with | [_], _ => rfl
theorem bi_are_names (T : Txt K mg ad fds cs) : Binds K (fds 16) ["thing", "many"] [] := T.F_are_names.binds (ps := ["thing", "many"]) fun _ _ _ _ _ _ us hl => match us, hl with | [_, _], _ => rfl
theorem bi_is_fact (T : Txt K mg ad fds cs) : Binds K (fds 17) ["relations", "thing"] [] := T.F_is_fact.binds (ps := ["relations", "thing"]) fun _ _ _ _ _ _ us hl => match us, hl with | [_, _], _ => rfl
theorem bi_checked_relations (T : Txt K mg ad fds cs) : Binds K (fds 18) ["relations"] [] := T.F_checked_relations.binds (ps := ["relations"]) fun _ _ _ _ _ _ us hl => match us, hl with | [_], _ => rfl
theorem bi_is_span (T : Txt K mg ad fds cs) : Binds K (fds 20) ["thing"] [] := T.F_is_span.binds (ps := ["thing"]) fun _ _ _ _ _ _ us hl => match us, hl with | [_], _ => rfl
theorem bi_normal (T : Txt K mg ad fds cs) : Binds K (fds 21) ["spans"] [] := T.F_normal.binds (ps := ["spans"]) fun _ _ _ _ _ _ us hl => match us, hl with | [_], _ => rfl
theorem bi__melted (T : Txt K mg ad fds cs) : Binds K (fds 22) ["spans"] [] := T.F__melted.binds (ps := ["spans"]) fun _ _ _ _ _ _ us hl => match us, hl with | [_], _ => rfl
theorem bi_union (T : Txt K mg ad fds cs) : Binds K (fds 23) ["one", "other"] [] := T.F_union.binds (ps := ["one", "other"]) fun _ _ _ _ _ _ us hl => match us, hl with | [_, _], _ => rfl
theorem bi_meet (T : Txt K mg ad fds cs) : Binds K (fds 24) ["one", "other"] [] := T.F_meet.binds (ps := ["one", "other"]) fun _ _ _ _ _ _ us hl => match us, hl with | [_, _], _ => rfl
theorem bi_others (T : Txt K mg ad fds cs) : Binds K (fds 25) ["one"] [] := T.F_others.binds (ps := ["one"]) fun _ _ _ _ _ _ us hl => match us, hl with | [_], _ => rfl
theorem bi_less (T : Txt K mg ad fds cs) : Binds K (fds 26) ["one", "other"] [] := T.F_less.binds (ps := ["one", "other"]) fun _ _ _ _ _ _ us hl => match us, hl with | [_, _], _ => rfl
theorem bi_unlike (T : Txt K mg ad fds cs) : Binds K (fds 27) ["one", "other"] [] := T.F_unlike.binds (ps := ["one", "other"]) fun _ _ _ _ _ _ us hl => match us, hl with | [_, _], _ => rfl
theorem bi__ended_ahead (T : Txt K mg ad fds cs) : Binds K (fds 28) ["one", "day"] [] := T.F__ended_ahead.binds (ps := ["one", "day"]) fun _ _ _ _ _ _ us hl => match us, hl with | [_, _], _ => rfl
theorem bi_has (T : Txt K mg ad fds cs) : Binds K (fds 29) ["one", "day"] [] := T.F_has.binds (ps := ["one", "day"]) fun _ _ _ _ _ _ us hl => match us, hl with | [_, _], _ => rfl
theorem bi_change_fault (T : Txt K mg ad fds cs) : Binds K (fds 34) ["relations", "change"] [] := T.F_change_fault.binds (ps := ["relations", "change"]) fun _ _ _ _ _ _ us hl => match us, hl with | [_, _], _ => rfl
theorem bi_check_change (T : Txt K mg ad fds cs) : Binds K (fds 35) ["relations", "change"] [] := T.F_check_change.binds (ps := ["relations", "change"]) fun _ _ _ _ _ _ us hl => match us, hl with | [_, _], _ => rfl
theorem bi_row_behind (T : Txt K mg ad fds cs) : Binds K (fds 36) ["row", "change"] [] := T.F_row_behind.binds (ps := ["row", "change"]) fun _ _ _ _ _ _ us hl => match us, hl with | [_, _], _ => rfl
theorem bi_Book___init__ (T : Txt K mg ad fds cs) : Binds K (fds 38000) ["self", "relations", "rows"] [] := T.F_Book___init__.binds (ps := ["self", "relations", "rows"]) fun _ _ _ _ _ _ us hl => match us, hl with | [_, _, _], _ => rfl
theorem bi_Book___eq__ (T : Txt K mg ad fds cs) : Binds K (fds 38001) ["self", "other"] [] := T.F_Book___eq__.binds (ps := ["self", "other"]) fun _ _ _ _ _ _ us hl => match us, hl with | [_, _], _ => rfl
theorem bi_Book_spans_of (T : Txt K mg ad fds cs) : Binds K (fds 38002) ["self", "relation", "names"] [] := T.F_Book_spans_of.binds (ps := ["self", "relation", "names"]) fun _ _ _ _ _ _ us hl => match us, hl with | [_, _, _], _ => rfl
theorem bi_Book_has (T : Txt K mg ad fds cs) : Binds K (fds 38003) ["self", "relation", "names", "day"] [] := T.F_Book_has.binds (ps := ["self", "relation", "names", "day"]) fun _ _ _ _ _ _ us hl => match us, hl with | [_, _, _, _], _ => rfl
theorem bi_Book_changed (T : Txt K mg ad fds cs) : Binds K (fds 38010) ["self", "change"] [] := T.F_Book_changed.binds (ps := ["self", "change"]) fun _ _ _ _ _ _ us hl => match us, hl with | [_, _], _ => rfl
theorem bi__book_of (T : Txt K mg ad fds cs) : Binds K (fds 38) ["relations", "rows"] [] := T.F__book_of.binds (ps := ["relations", "rows"]) fun _ _ _ _ _ _ us hl => match us, hl with | [_, _], _ => rfl
theorem bi_empty_book (T : Txt K mg ad fds cs) : Binds K (fds 39) ["relations"] [] := T.F_empty_book.binds (ps := ["relations"]) fun _ _ _ _ _ _ us hl => match us, hl with | [_], _ => rfl
theorem bi_merged (T : Txt K mg ad fds cs) : Binds K (fds 41) ["base", "one", "other"] [] := T.F_merged.binds (ps := ["base", "one", "other"]) fun _ _ _ _ _ _ us hl => match us, hl with | [_, _, _], _ => rfl
theorem bi__facts_of (T : Txt K mg ad fds cs) : Binds K (fds 42) ["books"] [] := T.F__facts_of.binds (ps := ["books"]) fun _ _ _ _ _ _ us hl => match us, hl with | [_], _ => rfl
theorem bi_touched (T : Txt K mg ad fds cs) : Binds K (fds 43) ["base", "book"] [] := T.F_touched.binds (ps := ["base", "book"]) fun _ _ _ _ _ _ us hl => match us, hl with | [_, _], _ => rfl
theorem bi_both_touched (T : Txt K mg ad fds cs) : Binds K (fds 44) ["base", "one", "other"] [] := T.F_both_touched.binds (ps := ["base", "one", "other"]) fun _ _ _ _ _ _ us hl => match us, hl with | [_, _, _], _ => rfl
theorem bi_replayed (T : Txt K mg ad fds cs) : Binds K (fds 45) ["base", "changes"] [] := T.F_replayed.binds (ps := ["base", "changes"]) fun _ _ _ _ _ _ us hl => match us, hl with | [_, _], _ => rfl
theorem bi_do_agree (T : Txt K mg ad fds cs) : Binds K (fds 46) ["base", "one", "other"] [] := T.F_do_agree.binds (ps := ["base", "one", "other"]) fun _ _ _ _ _ _ us hl => match us, hl with | [_, _, _], _ => rfl
theorem bi__law_number (T : Txt K mg ad fds cs) : Binds K (fds 48) ["script", "index"] [] := T.F__law_number.binds (ps := ["script", "index"]) fun _ _ _ _ _ _ us hl => match us, hl with | [_, _], _ => rfl
theorem bi__law_take (T : Txt K mg ad fds cs) : Binds K (fds 49) ["draw", "many"] [] := T.F__law_take.binds (ps := ["draw", "many"]) fun _ _ _ _ _ _ us hl => match us, hl with | [_, _], _ => rfl
theorem bi__law_pick (T : Txt K mg ad fds cs) : Binds K (fds 50) ["draw", "items"] [] := T.F__law_pick.binds (ps := ["draw", "items"]) fun _ _ _ _ _ _ us hl => match us, hl with | [_, _], _ => rfl
theorem bi__law_relations (T : Txt K mg ad fds cs) : Binds K (fds 51) [] [] := T.F__law_relations.binds (ps := []) fun _ _ _ _ _ _ us hl => match us, hl with | [], _ => rfl
theorem bi__law_day (T : Txt K mg ad fds cs) : Binds K (fds 52) ["draw"] [] := T.F__law_day.binds (ps := ["draw"]) fun _ _ _ _ _ _ us hl => match us, hl with | [_], _ => rfl
theorem bi__law_change (T : Txt K mg ad fds cs) : Binds K (fds 53) ["draw"] [] := T.F__law_change.binds (ps := ["draw"]) fun _ _ _ _ _ _ us hl => match us, hl with | [_], _ => rfl
theorem bi__law_changes (T : Txt K mg ad fds cs) : Binds K (fds 54) ["draw", "most"] [] := T.F__law_changes.binds (ps := ["draw", "most"]) fun _ _ _ _ _ _ us hl => match us, hl with | [_, _], _ => rfl
theorem bi__law_facts (T : Txt K mg ad fds cs) : Binds K (fds 55) [] [] := T.F__law_facts.binds (ps := []) fun _ _ _ _ _ _ us hl => match us, hl with | [], _ => rfl
theorem bi__law_days (T : Txt K mg ad fds cs) : Binds K (fds 56) [] [] := T.F__law_days.binds (ps := []) fun _ _ _ _ _ _ us hl => match us, hl with | [], _ => rfl
theorem bi_law (T : Txt K mg ad fds cs) : Binds K (fds 58) ["script"] [] := T.F_law.binds (ps := ["script"]) fun _ _ _ _ _ _ us hl => match us, hl with | [_], _ => rfl
theorem passN {X : Cx} : Passes (L2N.CX X.prog X.w) X E0 := fun _ _ _ _ _ _ _ h => by
  obtain ⟨_, _, _, _, _, _, _, _, _, _, _, _, z⟩ := h
  exact z.elim
end
end Yj
set_option Elab.async false
set_option linter.all false
set_option maxRecDepth 100000
set_option maxHeartbeats 4000000
set_option pp.maxSteps 1500
namespace Yj
open PySem PySem.Spec PyProof.Rows L2 RZ
/-! ### things -/
/-- a thing of anybody's, as it stands in the heap -/
inductive Pl (H : Hp) : V → Prop
  | non : Pl H .non
  | bl (b : Bool) : Pl H (.bl b)
  | int (i : Int) : Pl H (.int i)
  | str (x : Str) : Pl H (.str x)
  | lst {a : Addr} {xs : List V} (h : H a = some (.lst xs)) : Pl H (.ref a)
  | tup {a : Addr} {xs : List V} (h : H a = some (.tup xs)) : Pl H (.ref a)
def isI : V → Bool
  | .int _ => true
  | _ => false
end Yj
set_option Elab.async false
set_option linter.all false
set_option maxRecDepth 100000
set_option maxHeartbeats 4000000
set_option pp.maxSteps 1500
namespace Yj
open PySem PySem.Spec PyProof.Rows L2 RZ
section
variable {P : Program} {w : World} {K : PySem.W.Frag} {mg : Str → Option Value} {base : Heap} {ad : Nat → Addr} {fds : Nat → FuncData} {cs : Nat → Value}
def spInteger : Sp := fun vs H Q _ => ∃ x, vs = [x] ∧ Pl H x ∧ Q (.bl (isI x)) H
theorem ok_is_integer (T : Txt K mg ad fds cs) : FnOk P w K mg base CX0 1 (ad 13) (fds 13) ["thing"] spInteger := by
  refine T.F_is_integer.ok sc_is_integer (fun vs H Q E h => ?_) (fun cdv A outer s H vs Q E hr h => ?_)
  · obtain ⟨x, rfl, _⟩ := h
    rfl
  · obtain ⟨x, rfl, hx, q⟩ := h
    refine ⟨_, (pss_one (ps_ret (pe_and (pe_callB call_isi (by rfl) T.z_isinstance (by decide +kernel) (pa_cons (pv 0) (pa_cons (pe_bltn (v := .ty "int") (u := .type "int") (by rfl) T.z_int (by decide +kernel) rfl) pa_nil))) (pe_one (pe_not (pe_callB call_isi (by rfl) T.z_isinstance (by decide +kernel) (pa_cons (pv 0) (pa_cons (pe_bltn (v := .ty "bool") (u := .type "bool") (by rfl) T.z_bool (by decide +kernel) rfl) pa_nil)))))))), ?_⟩
    cases hx with
    | non => exact ⟨_, rfl, _, _, _, _, false, rfl, ClsV.ty _, TyX.base .non, kit_ty (by decide +kernel), _, rfl, iteF q⟩
    | bl b => exact ⟨_, rfl, _, _, _, _, true, rfl, ClsV.ty _, TyX.base (.bl b), kit_ty (by decide +kernel), _, rfl, iteT ⟨_, rfl, _, _, _, _, true, rfl, ClsV.ty _, TyX.base (.bl b), kit_ty (by decide +kernel), _, rfl, q⟩⟩
    | int i => exact ⟨_, rfl, _, _, _, _, true, rfl, ClsV.ty _, TyX.base (.int i), kit_ty (by decide +kernel), _, rfl, iteT ⟨_, rfl, _, _, _, _, false, rfl, ClsV.ty _, TyX.base (.int i), kit_ty (by decide +kernel), _, rfl, q⟩⟩
    | str x => exact ⟨_, rfl, _, _, _, _, false, rfl, ClsV.ty _, TyX.base (.str x), kit_ty (by decide +kernel), _, rfl, iteF q⟩
    | lst h => exact ⟨_, rfl, _, _, _, _, false, rfl, ClsV.ty _, TyX.base (.lst h), kit_ty (by decide +kernel), _, rfl, iteF q⟩
    | tup h => exact ⟨_, rfl, _, _, _, _, false, rfl, ClsV.ty _, TyX.base (.tup h), kit_ty (by decide +kernel), _, rfl, iteF q⟩
end
end Yj
set_option Elab.async false
set_option linter.all false
set_option maxRecDepth 100000
set_option maxHeartbeats 4000000
set_option pp.maxSteps 1500
namespace Yj
open PySem PySem.Spec PyProof.Rows L2 RZ
section
variable {P : Program} {w : World} {K : PySem.W.Frag} {mg : Str → Option Value} {base : Heap} {ad : Nat → Addr} {fds : Nat → FuncData} {cs : Nat → Value}
/-- a day, of anything -/
def isD : V → Bool
  | .int i => decide (0 ≤ i ∧ i ≤ 999999)
  | _ => false
def spDay : Sp := fun vs H Q _ => ∃ x, vs = [x] ∧ Pl H x ∧ Q (.bl (isD x)) H
theorem ok_is_day (T : Txt K mg ad fds cs) : FnOk P w K mg base CX0 2 (ad 15) (fds 15) ["thing"] spDay := by
  refine T.F_is_day.ok sc_is_day (fun vs H Q E h => ?_) (fun cdv A outer s H vs Q E hr h => ?_)
  · obtain ⟨x, rfl, _⟩ := h
    rfl
  · obtain ⟨x, rfl, hx, q⟩ := h
    refine ⟨_, (pss_one (ps_ret (pe_and (pe_call (ok_is_integer T) (hr.mono (by decide)) rfl T.g_is_integer T.F_is_integer.kp (bi_is_integer T) .nil pass0 (pa_cons (pv 0) pa_nil)) (pe_one (pe_chain op_le op_le pe_int (pv 0) (pe_glob rfl T.c_LAST_DAY T.r_LAST_DAY)))))), ?_⟩
    have hno : isI x = false → isD x = false := by
      cases x <;> first | (intro _; rfl) | (intro z; cases z)
    cases e : isI x with
    | false =>
      rw [hno e] at q
      exact ⟨x, rfl, x, rfl, hx, _, rfl, by rw [e]; exact iteF q⟩
    | true =>
      obtain ⟨i, rfl⟩ : ∃ i, x = .int i := by
        cases x <;> first | exact ⟨_, rfl⟩ | cases e
      refine ⟨_, rfl, _, rfl, hx, _, rfl, iteT ?_⟩
      refine ⟨_, rfl, 0, i, rfl, rfl, _, rfl, ?_⟩
      by_cases h0 : 0 ≤ i
      · rw [decide_eq_true h0]
        refine iteT ⟨i, 999999, rfl, rfl, ?_⟩
        have e2 : isD (.int i) = decide (i ≤ 999999) := by
          unfold isD
          exact decide_eq_decide.mpr ⟨fun z => z.2, fun z => ⟨h0, z⟩⟩
        rw [e2] at q
        exact q
      · rw [decide_eq_false h0]
        have e2 : isD (.int i) = false := decide_eq_false fun z => h0 z.1
        rw [e2] at q
        exact iteF q
end
end Yj
set_option Elab.async false
set_option linter.all false
set_option maxRecDepth 100000
set_option maxHeartbeats 4000000
set_option pp.maxSteps 1500
namespace Yj
open PySem PySem.Spec PyProof.Rows L2 RZ
/-! ### rows of spans: the mathematics -/
abbrev Sps := List (Int × Int)
/-- a day is in one of the spans -/
def Mem : Sps → Int → Prop
  | [], _ => False
  | p :: x, d => (p.1 ≤ d ∧ d ≤ p.2) ∨ Mem x d
instance memDec : (l : Sps) → (d : Int) → Decidable (Mem l d)
  | [], _ => .isFalse id
  | p :: x, d => @instDecidableOr _ _ _ (memDec x d)
/-- the one form: from lo on, ascending, a day between each two -/
def Nf : Int → Sps → Prop
  | _, [] => True
  | lo, p :: x => lo ≤ p.1 ∧ p.1 ≤ p.2 ∧ Nf (p.2 + 2) x
/-- all spans are such -/
def Val : Sps → Prop
  | [] => True
  | p :: x => (0 ≤ p.1 ∧ p.1 ≤ p.2 ∧ p.2 ≤ 999999) ∧ Val x
theorem Nf.mono : ∀ {l : Sps} {lo lo' : Int}, Nf lo l → lo' ≤ lo → Nf lo' l
  | [], _, _, _, _ => True.intro
  | p :: x, _, _, h, e => ⟨Int.le_trans e h.1, h.2.1, h.2.2⟩
theorem Nf.low : ∀ {l : Sps} {lo d : Int}, Nf lo l → Mem l d → lo ≤ d
  | [], _, _, _, h => h.elim
  | p :: x, lo, d, ⟨h1, h2, h3⟩, h => by
    rcases h with h | h
    · omega
    · have := h3.low h
      omega
theorem Nf.val : ∀ {l : Sps} {lo : Int}, Nf lo l → ∀ p ∈ l, p.1 ≤ p.2
  | [], _, _, p, h => by cases h
  | q :: x, lo, ⟨h1, h2, h3⟩, p, h => by
    rcases List.mem_cons.mp h with e | h
    · rw [e]
      exact h2
    · exact h3.val p h
theorem Nf.uniq : ∀ {l m : Sps} {lo lo' : Int}, Nf lo l → Nf lo' m → (∀ d, Mem l d ↔ Mem m d) → l = m
  | [], [], _, _, _, _, _ => rfl
  | [], q :: y, _, _, _, hm, h => ((h q.1).mpr (.inl ⟨Int.le_refl _, hm.2.1⟩)).elim
  | p :: x, [], _, _, hl, _, h => ((h p.1).mp (.inl ⟨Int.le_refl _, hl.2.1⟩)).elim
  | (a, b) :: x, (c, d) :: y, _, _, ⟨l1, l2, l3⟩, ⟨m1, m2, m3⟩, h => by
    dsimp only at l1 l2 l3 m1 m2 m3
    have lx : ∀ e, Mem x e → b + 2 ≤ e := fun e z => l3.low z
    have ly : ∀ e, Mem y e → d + 2 ≤ e := fun e z => m3.low z
    have hh : ∀ e, ((a ≤ e ∧ e ≤ b) ∨ Mem x e) ↔ ((c ≤ e ∧ e ≤ d) ∨ Mem y e) := h
    have hac : a = c := by
      have h1 := (hh a).mp (.inl ⟨Int.le_refl _, l2⟩)
      have h2 := (hh c).mpr (.inl ⟨Int.le_refl _, m2⟩)
      rcases h1 with h1 | h1
      · rcases h2 with h2 | h2
        · omega
        · have := lx _ h2
          omega
      · have := ly _ h1
        rcases h2 with h2 | h2
        · omega
        · have := lx _ h2
          omega
    subst hac
    have hbd : b = d := by
      rcases Int.lt_trichotomy b d with z | z | z
      · have h1 := (hh (b + 1)).mpr (.inl ⟨by omega, by omega⟩)
        rcases h1 with h1 | h1
        · omega
        · have := lx _ h1
          omega
      · exact z
      · have h1 := (hh (d + 1)).mp (.inl ⟨by omega, by omega⟩)
        rcases h1 with h1 | h1
        · omega
        · have := ly _ h1
          omega
    subst hbd
    have : x = y := Nf.uniq l3 m3 fun e => by
      constructor
      · intro z
        have g := lx _ z
        rcases (hh e).mp (.inr z) with q | q
        · omega
        · exact q
      · intro z
        have g := ly _ z
        rcases (hh e).mpr (.inr z) with q | q
        · omega
        · exact q
    rw [this]
theorem Val.mem : ∀ {l : Sps} {d : Int}, Val l → Mem l d → 0 ≤ d ∧ d ≤ 999999
  | [], _, _, h => h.elim
  | p :: x, d, ⟨v, vx⟩, h => by
    rcases h with h | h
    · omega
    · exact vx.mem h
theorem Val.all : ∀ {l : Sps}, Val l → ∀ p ∈ l, 0 ≤ p.1 ∧ p.1 ≤ p.2 ∧ p.2 ≤ 999999
  | [], _, _, h => by cases h
  | q :: x, ⟨v, vx⟩, p, h => by
    rcases List.mem_cons.mp h with e | h
    · rw [e]
      exact v
    · exact vx.all p h
theorem val_of : ∀ {l : Sps}, (∀ p ∈ l, 0 ≤ p.1 ∧ p.1 ≤ p.2 ∧ p.2 ≤ 999999) → Val l
  | [], _ => True.intro
  | q :: x, h => ⟨h q (List.mem_cons_self ..), val_of fun p z => h p (List.mem_cons_of_mem _ z)⟩
theorem mem_iff : ∀ {l : Sps} {d : Int}, Mem l d ↔ ∃ p ∈ l, p.1 ≤ d ∧ d ≤ p.2
  | [], d => ⟨fun h => h.elim, fun ⟨_, h, _⟩ => by cases h⟩
  | q :: x, d => by
    constructor
    · intro h
      rcases h with h | h
      · exact ⟨q, List.mem_cons_self .., h⟩
      · obtain ⟨p, hp, h⟩ := mem_iff.mp h
        exact ⟨p, List.mem_cons_of_mem _ hp, h⟩
    · rintro ⟨p, hp, h⟩
      rcases List.mem_cons.mp hp with e | hp
      · rw [e] at h
        exact .inl h
      · exact .inr (mem_iff.mpr ⟨p, hp, h⟩)
theorem mem_append {l m : Sps} {d : Int} : Mem (l ++ m) d ↔ Mem l d ∨ Mem m d := by
  rw [mem_iff, mem_iff, mem_iff]
  constructor
  · rintro ⟨p, hp, h⟩
    rcases List.mem_append.mp hp with z | z
    · exact .inl ⟨p, z, h⟩
    · exact .inr ⟨p, z, h⟩
  · rintro (⟨p, hp, h⟩ | ⟨p, hp, h⟩)
    · exact ⟨p, List.mem_append_left _ hp, h⟩
    · exact ⟨p, List.mem_append_right _ hp, h⟩
/-- a row: in its one form, of days -/
def Row (l : Sps) : Prop := Nf 0 l ∧ Val l
theorem Row.uniq {l m : Sps} (a : Row l) (b : Row m) (h : ∀ d, 0 ≤ d → d ≤ 999999 → (Mem l d ↔ Mem m d)) : l = m := a.1.uniq b.1 fun d => by
  constructor
  · intro z
    obtain ⟨h1, h2⟩ := a.2.mem z
    exact (h d h1 h2).mp z
  · intro z
    obtain ⟨h1, h2⟩ := b.2.mem z
    exact (h d h1 h2).mpr z
/-! melting -/
def meltM : Int × Int → Sps → Sps
  | c, [] => [c]
  | c, p :: x => if p.1 ≤ c.2 + 1 then meltM (c.1, if p.2 > c.2 then p.2 else c.2) x else c :: meltM p x
def melt : Sps → Sps
  | [] => []
  | p :: x => meltM p x
/-- ascending by their first days, each above -/
def Asc : Int → Sps → Prop
  | _, [] => True
  | lo, p :: x => lo ≤ p.1 ∧ p.1 ≤ p.2 ∧ Asc p.1 x
theorem Asc.mono : ∀ {l : Sps} {lo lo' : Int}, Asc lo l → lo' ≤ lo → Asc lo' l
  | [], _, _, _, _ => True.intro
  | p :: x, _, _, h, e => ⟨Int.le_trans e h.1, h.2.1, h.2.2⟩
theorem meltM_nf : ∀ {x : Sps} {c : Int × Int} {lo : Int}, lo ≤ c.1 → c.1 ≤ c.2 → Asc c.1 x → Nf lo (meltM c x)
  | [], c, lo, h1, h2, _ => ⟨h1, h2, True.intro⟩
  | p :: x, c, lo, h1, h2, ⟨a1, a2, a3⟩ => by
    unfold meltM
    split
    · refine meltM_nf h1 ?_ (a3.mono a1)
      dsimp only
      split <;> omega
    · refine ⟨h1, h2, meltM_nf ?_ a2 a3⟩
      omega
theorem meltM_mem : ∀ {x : Sps} {c : Int × Int} {d : Int}, c.1 ≤ c.2 → Asc c.1 x → (Mem (meltM c x) d ↔ (c.1 ≤ d ∧ d ≤ c.2) ∨ Mem x d)
  | [], c, d, _, _ => Iff.rfl
  | p :: x, c, d, h2, ⟨a1, a2, a3⟩ => by
    unfold meltM
    split
    · rename_i h
      have hc : c.1 ≤ (if p.2 > c.2 then p.2 else c.2) := by split <;> omega
      have e := meltM_mem (x := x) (c := (c.1, if p.2 > c.2 then p.2 else c.2)) (d := d) hc (a3.mono a1)
      rw [e]
      show _ ↔ (c.1 ≤ d ∧ d ≤ c.2) ∨ ((p.1 ≤ d ∧ d ≤ p.2) ∨ Mem x d)
      by_cases m : Mem x d
      · simp only [m, or_true]
      · simp only [m, or_false]
        split <;> omega
    · show (c.1 ≤ d ∧ d ≤ c.2) ∨ Mem (meltM p x) d ↔ (c.1 ≤ d ∧ d ≤ c.2) ∨ ((p.1 ≤ d ∧ d ≤ p.2) ∨ Mem x d)
      rw [meltM_mem a2 a3]
theorem meltM_val : ∀ {x : Sps} {c : Int × Int}, (0 ≤ c.1 ∧ c.1 ≤ c.2 ∧ c.2 ≤ 999999) → Val x → Val (meltM c x)
  | [], c, h, _ => ⟨h, True.intro⟩
  | p :: x, c, h, ⟨v, vx⟩ => by
    unfold meltM
    split
    · refine meltM_val ?_ vx
      dsimp only
      split <;> omega
    · exact ⟨h, meltM_val v vx⟩
theorem meltM_len : ∀ {x : Sps} {c : Int × Int}, (meltM c x).length ≤ x.length + 1
  | [], c => Nat.le_refl _
  | p :: x, c => by
    unfold meltM
    split
    · exact Nat.le_trans meltM_len (Nat.le_succ _)
    · exact Nat.succ_le_succ meltM_len
theorem melt_row : ∀ {l : Sps}, Asc 0 l → Val l → Row (melt l) ∧ (∀ d, Mem (melt l) d ↔ Mem l d) ∧ (melt l).length ≤ l.length
  | [], _, _ => ⟨⟨True.intro, True.intro⟩, fun _ => Iff.rfl, Nat.le_refl _⟩
  | p :: x, ⟨a1, a2, a3⟩, ⟨v, vx⟩ => ⟨⟨meltM_nf a1 a2 a3, meltM_val v vx⟩, fun d => meltM_mem a2 a3, meltM_len⟩
/-! meeting -/
def meetM : Sps → Sps → Sps
  | [], _ => []
  | _ :: _, [] => []
  | a :: x, b :: y =>
    let f := if b.1 > a.1 then b.1 else a.1
    let g := if b.2 < a.2 then b.2 else a.2
    let r := if a.2 < b.2 then meetM x (b :: y) else meetM (a :: x) y
    if f ≤ g then (f, g) :: r else r
termination_by l m => l.length + m.length
theorem meetM_nil (m : Sps) : meetM [] m = [] := by unfold meetM; rfl
theorem meetM_nil2 (l : Sps) : meetM l [] = [] := by cases l <;> (unfold meetM; rfl)
theorem meetM_cons (a b : Int × Int) (x y : Sps) : meetM (a :: x) (b :: y) =
    if (if b.1 > a.1 then b.1 else a.1) ≤ (if b.2 < a.2 then b.2 else a.2) then ((if b.1 > a.1 then b.1 else a.1), (if b.2 < a.2 then b.2 else a.2)) :: (if a.2 < b.2 then meetM x (b :: y) else meetM (a :: x) y)
    else (if a.2 < b.2 then meetM x (b :: y) else meetM (a :: x) y) := by
  rw [meetM]
theorem meetM_nf : ∀ (n : Nat) {l m : Sps} {lo lo' : Int}, l.length + m.length ≤ n → Nf lo l → Nf lo' m → Nf lo (meetM l m) ∧ Nf lo' (meetM l m) ∧ (∀ d, Mem (meetM l m) d ↔ Mem l d ∧ Mem m d) ∧ (meetM l m).length ≤ l.length + m.length
  | _, [], m, _, _, _, _, _ => by
    rw [meetM_nil]
    exact ⟨True.intro, True.intro, fun d => ⟨fun h => h.elim, fun h => h.1.elim⟩, Nat.zero_le _⟩
  | _, _ :: _, [], _, _, _, _, _ => by
    rw [meetM_nil2]
    exact ⟨True.intro, True.intro, fun d => ⟨fun h => h.elim, fun h => h.2.elim⟩, Nat.zero_le _⟩
  | 0, _ :: _, _ :: _, _, _, hn, _, _ => by simp at hn
  | n + 1, (a, a') :: x, (b, b') :: y, lo, lo', hn, ⟨l1, l2, l3⟩, ⟨m1, m2, m3⟩ => by
    rw [meetM_cons]
    simp only [List.length_cons] at hn
    dsimp only at l1 l2 l3 m1 m2 m3 ⊢
    have lx : ∀ e, Mem x e → a' + 2 ≤ e := fun e z => l3.low z
    have ly : ∀ e, Mem y e → b' + 2 ≤ e := fun e z => m3.low z
    by_cases c : a' < b'
    · rw [if_pos c]
      obtain ⟨r1, r2, r3, r4⟩ := meetM_nf n (l := x) (m := (b, b') :: y) (by simp only [List.length_cons]; omega) l3 ⟨m1, m2, m3⟩
      have key : ∀ d, ((a ≤ d ∧ d ≤ a') ∨ Mem x d) ∧ ((b ≤ d ∧ d ≤ b') ∨ Mem y d) ↔ ((if b > a then b else a) ≤ d ∧ d ≤ (if b' < a' then b' else a')) ∨ (Mem x d ∧ ((b ≤ d ∧ d ≤ b') ∨ Mem y d)) := by
        intro d
        have q1 := lx d
        have q2 := ly d
        by_cases mx : Mem x d
        · simp only [mx, or_true, true_and]
          have := q1 mx
          split <;> split <;> by_cases my : Mem y d <;> simp only [my, or_true, or_false, or_iff_right_iff_imp] <;> omega
        · by_cases my : Mem y d
          · simp only [mx, my, or_true, or_false, and_true, false_and]
            have := q2 my
            split <;> split <;> omega
          · simp only [mx, my, or_false, false_and]
            split <;> split <;> omega
      by_cases f : (if b > a then b else a) ≤ (if b' < a' then b' else a')
      · rw [if_pos f]
        have e : (if b' < a' then b' else a') = a' := by rw [if_neg (by omega)]
        refine ⟨⟨?_, f, ?_⟩, ⟨?_, f, ?_⟩, fun d => ?_, ?_⟩
        · dsimp only
          split <;> omega
        · dsimp only
          rw [e]
          exact r1
        · dsimp only
          split <;> omega
        · dsimp only
          rw [e]
          exact r1
        · exact Iff.trans (or_congr Iff.rfl (r3 d)) (key d).symm
        · simp only [List.length_cons] at r4 ⊢
          omega
      · rw [if_neg f]
        refine ⟨r1.mono (by omega), r2, fun d => ?_, ?_⟩
        · rw [r3 d]
          refine Iff.trans ?_ (key d).symm
          show Mem x d ∧ ((b ≤ d ∧ d ≤ b') ∨ Mem y d) ↔ _
          constructor
          · exact .inr
          · rintro (z | z)
            · omega
            · exact z
        · simp only [List.length_cons] at r4 ⊢
          omega
    · rw [if_neg c]
      obtain ⟨r1, r2, r3, r4⟩ := meetM_nf n (l := (a, a') :: x) (m := y) (by simp only [List.length_cons]; omega) ⟨l1, l2, l3⟩ m3
      have key : ∀ d, ((a ≤ d ∧ d ≤ a') ∨ Mem x d) ∧ ((b ≤ d ∧ d ≤ b') ∨ Mem y d) ↔ ((if b > a then b else a) ≤ d ∧ d ≤ (if b' < a' then b' else a')) ∨ (((a ≤ d ∧ d ≤ a') ∨ Mem x d) ∧ Mem y d) := by
        intro d
        have q1 := lx d
        have q2 := ly d
        by_cases my : Mem y d
        · simp only [my, or_true, and_true]
          have := q2 my
          split <;> split <;> by_cases mx : Mem x d <;> simp only [mx, or_true, or_false, or_iff_right_iff_imp] <;> omega
        · by_cases mx : Mem x d
          · simp only [mx, my, or_true, or_false, true_and, and_false]
            have := q1 mx
            split <;> split <;> omega
          · simp only [mx, my, or_false, and_false]
            split <;> split <;> omega
      by_cases f : (if b > a then b else a) ≤ (if b' < a' then b' else a')
      · rw [if_pos f]
        have e : (if b' < a' then b' else a') = b' := by split <;> omega
        refine ⟨⟨?_, f, ?_⟩, ⟨?_, f, ?_⟩, fun d => ?_, ?_⟩
        · dsimp only
          split <;> omega
        · dsimp only
          rw [e]
          exact r2
        · dsimp only
          split <;> omega
        · dsimp only
          rw [e]
          exact r2
        · exact Iff.trans (or_congr Iff.rfl (r3 d)) (key d).symm
        · simp only [List.length_cons] at r4 ⊢
          omega
      · rw [if_neg f]
        refine ⟨r1, r2.mono (by omega), fun d => ?_, ?_⟩
        · rw [r3 d]
          refine Iff.trans ?_ (key d).symm
          show ((a ≤ d ∧ d ≤ a') ∨ Mem x d) ∧ Mem y d ↔ _
          constructor
          · exact .inr
          · rintro (z | z)
            · omega
            · exact z
        · simp only [List.length_cons] at r4 ⊢
          omega
theorem nf_val {l : Sps} (h : ∀ {d}, Mem l d → d ≤ 999999) : ∀ {m : Sps} {lo : Int}, 0 ≤ lo → Nf lo m → (∀ d, Mem m d → d ≤ 999999) → Val m
  | [], _, _, _, _ => True.intro
  | p :: x, lo, h0, ⟨h1, h2, h3⟩, k => ⟨⟨by omega, h2, k p.2 (.inl ⟨h2, Int.le_refl _⟩)⟩, nf_val @h (lo := p.2 + 2) (by omega) h3 fun d z => k d (.inr z)⟩
theorem row_of {l : Sps} (h : Nf 0 l) (k : ∀ d, Mem l d → d ≤ 999999) : Row l := ⟨h, nf_val (l := l) (fun {d} z => k d z) (Int.le_refl 0) h k⟩
theorem meet_row {l m : Sps} (hl : Row l) (hm : Row m) : Row (meetM l m) ∧ (∀ d, Mem (meetM l m) d ↔ Mem l d ∧ Mem m d) ∧ (meetM l m).length ≤ l.length + m.length := by
  obtain ⟨r1, r2, r3, r4⟩ := meetM_nf (l.length + m.length) (Nat.le_refl _) hl.1 hm.1
  exact ⟨row_of r1 fun d z => (hl.2.mem ((r3 d).mp z).1).2, r3, r4⟩
/-! others -/
def othersM : Int → Sps → Sps
  | f, [] => if f ≤ 999999 then [(f, 999999)] else []
  | f, p :: x => if f < p.1 then (f, p.1 - 1) :: othersM (p.2 + 1) x else othersM (p.2 + 1) x
theorem othersM_nf : ∀ {l : Sps} {f : Int}, Nf f l → Val l → Nf f (othersM f l) ∧ (∀ d, Mem (othersM f l) d ↔ f ≤ d ∧ d ≤ 999999 ∧ ¬ Mem l d) ∧ (othersM f l).length ≤ l.length + 1
  | [], f, _, _ => by
    unfold othersM
    by_cases c : f ≤ 999999
    · rw [if_pos c]
      refine ⟨⟨Int.le_refl _, c, True.intro⟩, fun d => ?_, Nat.le_refl _⟩
      simp [Mem]
    · rw [if_neg c]
      refine ⟨True.intro, fun d => ?_, Nat.zero_le _⟩
      simp [Mem]
      omega
  | (a, b) :: x, f, ⟨h1, h2, h3⟩, ⟨v, vx⟩ => by
    dsimp only at h1 h2 h3 v
    unfold othersM
    dsimp only
    obtain ⟨r1, r2, r3⟩ := othersM_nf (l := x) (f := b + 1) (h3.mono (by omega)) vx
    have lx : ∀ e, Mem x e → b + 2 ≤ e := fun e z => h3.low z
    by_cases c : f < a
    · rw [if_pos c]
      refine ⟨⟨Int.le_refl _, by dsimp only; omega, by dsimp only; exact r1.mono (by omega)⟩, fun d => ?_, by simp only [List.length_cons]; omega⟩
      show (f ≤ d ∧ d ≤ a - 1) ∨ Mem (othersM (b + 1) x) d ↔ f ≤ d ∧ d ≤ 999999 ∧ ¬ ((a ≤ d ∧ d ≤ b) ∨ Mem x d)
      rw [r2 d]
      have q := lx d
      by_cases mx : Mem x d
      · have := q mx
        simp only [mx, or_true, not_true_eq_false, and_false, or_false, iff_false]
        omega
      · simp only [mx, or_false, not_false_eq_true, and_true]
        omega
    · rw [if_neg c]
      refine ⟨r1.mono (by omega), fun d => ?_, by simp only [List.length_cons]; omega⟩
      rw [r2 d]
      show b + 1 ≤ d ∧ d ≤ 999999 ∧ ¬ Mem x d ↔ f ≤ d ∧ d ≤ 999999 ∧ ¬ ((a ≤ d ∧ d ≤ b) ∨ Mem x d)
      by_cases mx : Mem x d
      · simp only [mx, or_true, not_true_eq_false, and_false]
      · simp only [mx, or_false, not_false_eq_true, and_true]
        omega
theorem others_row {l : Sps} (h : Row l) : Row (othersM 0 l) ∧ (∀ d, Mem (othersM 0 l) d ↔ 0 ≤ d ∧ d ≤ 999999 ∧ ¬ Mem l d) ∧ (othersM 0 l).length ≤ l.length + 1 := by
  obtain ⟨r1, r2, r3⟩ := othersM_nf h.1 h.2
  exact ⟨row_of r1 fun d z => ((r2 d).mp z).2.1, r2, r3⟩
/-! how many -/
def card : Sps → Int
  | [] => 0
  | p :: x => p.2 - p.1 + 1 + card x
/-- how many of the days 0, 1 .. below n are so -/
def cnt (P : Int → Prop) [DecidablePred P] : Nat → Int
  | 0 => 0
  | n + 1 => (if P n then 1 else 0) + cnt P n
theorem cnt_congr {P Q : Int → Prop} [DecidablePred P] [DecidablePred Q] : ∀ n : Nat, (∀ d : Int, 0 ≤ d → d < n → (P d ↔ Q d)) → cnt P n = cnt Q n
  | 0, _ => rfl
  | n + 1, h => by
    unfold cnt
    rw [cnt_congr n fun d h0 h1 => h d h0 (by omega)]
    have e := h n (by omega) (by omega)
    by_cases p : P n
    · rw [if_pos p, if_pos (e.mp p)]
    · rw [if_neg p, if_neg fun z => p (e.mpr z)]
theorem cnt_or {P Q : Int → Prop} [DecidablePred P] [DecidablePred Q] : ∀ n : Nat, cnt (fun d => P d ∨ Q d) n + cnt (fun d => P d ∧ Q d) n = cnt P n + cnt Q n
  | 0 => rfl
  | n + 1 => by
    unfold cnt
    have := cnt_or (P := P) (Q := Q) n
    by_cases p : P n <;> by_cases q : Q n <;> simp only [p, q, or_true, or_false, and_true, and_false, if_true, if_false] <;> omega
theorem cnt_not {P : Int → Prop} [DecidablePred P] : ∀ n : Nat, cnt P n + cnt (fun d => ¬ P d) n = n
  | 0 => rfl
  | n + 1 => by
    unfold cnt
    have := cnt_not (P := P) n
    by_cases p : P n <;> simp only [p, not_true_eq_false, not_false_eq_true, if_true, if_false] <;> omega
theorem cnt_span (a b : Int) : ∀ n : Nat, 0 ≤ a → a ≤ b + 1 → cnt (fun d => a ≤ d ∧ d ≤ b) n = if (n : Int) ≤ a then 0 else if (n : Int) ≤ b then n - a else b + 1 - a
  | 0, h0, h1 => by
    unfold cnt
    rw [if_pos (by omega)]
  | n + 1, h0, h1 => by
    unfold cnt
    rw [cnt_span a b n h0 h1]
    split <;> split <;> split <;> (try split) <;> omega
theorem cnt_none {P : Int → Prop} [DecidablePred P] : ∀ n : Nat, (∀ d : Int, ¬ P d) → cnt P n = 0
  | 0, _ => rfl
  | n + 1, h => by
    unfold cnt
    rw [if_neg (h _), cnt_none n h]
    rfl
theorem card_cnt : ∀ {l : Sps} {lo : Int}, 0 ≤ lo → Nf lo l → Val l → card l = cnt (fun d => Mem l d) 1000000
  | [], _, _, _, _ => (cnt_none 1000000 fun _ => id).symm
  | (a, b) :: x, lo, h0, ⟨h1, h2, h3⟩, ⟨v, vx⟩ => by
    dsimp only at h1 h2 h3 v
    have e := cnt_or (P := fun d => a ≤ d ∧ d ≤ b) (Q := fun d => Mem x d) 1000000
    have e0 : cnt (fun d => (a ≤ d ∧ d ≤ b) ∧ Mem x d) 1000000 = 0 := cnt_none 1000000 fun d z => by
      have := h3.low z.2
      omega
    have e1 := cnt_span a b 1000000 (by omega) (by omega)
    rw [if_neg (by omega), if_neg (by omega)] at e1
    have e2 := card_cnt (lo := b + 2) (by omega) h3 vx
    have e3 : cnt (fun d => Mem ((a, b) :: x) d) 1000000 = cnt (fun d => (a ≤ d ∧ d ≤ b) ∨ Mem x d) 1000000 := cnt_congr _ fun d _ _ => Iff.rfl
    rw [e3]
    show b - a + 1 + card x = _
    omega
theorem Row.card {l : Sps} (h : Row l) : card l = cnt (fun d => Mem l d) 1000000 := card_cnt (Int.le_refl 0) h.1 h.2
theorem card_others {l m : Sps} (h : Row l) (hm : Row m) (k : ∀ d, Mem m d ↔ 0 ≤ d ∧ d ≤ 999999 ∧ ¬ Mem l d) : card l + card m = 1000000 := by
  rw [h.card, hm.card]
  have e := cnt_not (P := fun d => Mem l d) 1000000
  rw [cnt_congr (P := fun d => Mem m d) (Q := fun d => ¬ Mem l d) 1000000 fun d h0 h1 => ?_]
  · exact e
  · rw [k d]
    constructor
    · exact fun z => z.2.2
    · exact fun z => ⟨h0, by omega, z⟩
theorem card_union {l m u t : Sps} (hl : Row l) (hm : Row m) (hu : Row u) (ht : Row t) (k : ∀ d, Mem u d ↔ Mem l d ∨ Mem m d) (k2 : ∀ d, Mem t d ↔ Mem l d ∧ Mem m d) : card u = card l + card m - card t := by
  rw [hl.card, hm.card, hu.card, ht.card]
  have e := cnt_or (P := fun d => Mem l d) (Q := fun d => Mem m d) 1000000
  rw [cnt_congr (P := fun d => Mem u d) (Q := fun d => Mem l d ∨ Mem m d) 1000000 fun d _ _ => k d, cnt_congr (P := fun d => Mem t d) (Q := fun d => Mem l d ∧ Mem m d) 1000000 fun d _ _ => k2 d]
  omega
/-! breaks -/
def brk : Sps → List Int
  | [] => []
  | p :: x => p.1 :: (p.2 + 1) :: brk x
theorem brk_len : ∀ l : Sps, (brk l).length = 2 * l.length
  | [] => rfl
  | p :: x => by
    show (brk x).length + 1 + 1 = 2 * (x.length + 1)
    rw [brk_len x]
    omega
theorem brk_low : ∀ {l : Sps} {lo : Int}, Nf lo l → ∀ z ∈ brk l, lo ≤ z
  | [], _, _, z, h => by cases h
  | p :: x, lo, ⟨h1, h2, h3⟩, z, h => by
    rcases List.mem_cons.mp h with e | h
    · omega
    · rcases List.mem_cons.mp h with e | h
      · omega
      · have := brk_low h3 z h
        omega
theorem brk_asc : ∀ {l : Sps} {lo : Int}, Nf lo l → (brk l).Pairwise (· ≤ ·)
  | [], _, _ => .nil
  | p :: x, lo, ⟨h1, h2, h3⟩ => by
    have k := brk_low h3
    refine .cons (fun z h => ?_) (.cons (fun z h => ?_) (brk_asc h3))
    · rcases List.mem_cons.mp h with e | h
      · omega
      · have := k z h
        omega
    · have := k z h
      omega
theorem brk_mem : ∀ {l : Sps} {lo : Int}, Nf lo l → ∀ d, d ∈ brk l ↔ ¬ (Mem l d ↔ Mem l (d - 1))
  | [], _, _, d => by simp [brk, Mem]
  | (a, b) :: x, lo, ⟨h1, h2, h3⟩, d => by
    dsimp only at h1 h2 h3
    have ih := brk_mem h3 d
    have q1 : Mem x d → b + 2 ≤ d := fun z => h3.low z
    have q2 : Mem x (d - 1) → b + 2 ≤ d - 1 := fun z => h3.low z
    have q3 : d ∈ brk x → b + 2 ≤ d := fun z => brk_low h3 d z
    show d ∈ a :: (b + 1) :: brk x ↔ ¬ ((a ≤ d ∧ d ≤ b) ∨ Mem x d ↔ (a ≤ d - 1 ∧ d - 1 ≤ b) ∨ Mem x (d - 1))
    rw [List.mem_cons, List.mem_cons, ih]
    by_cases m1 : Mem x d <;> by_cases m2 : Mem x (d - 1) <;> simp only [m1, m2, or_true, or_false, true_iff, iff_true, false_iff, iff_false, not_true_eq_false, not_false_eq_true, true_implies, iff_self] at ih q1 q2 q3 ⊢ <;> omega
end Yj
set_option Elab.async false
set_option linter.all false
set_option maxRecDepth 100000
set_option maxHeartbeats 4000000
set_option pp.maxSteps 1500
namespace Yj
open PySem PySem.Spec PyProof.Rows L2 RZ
/-! ### rows in the heap -/
/-- a span: a new tuple of two ints -/
def Pr (H : Hp) (v : V) (p : Int × Int) : Prop := ∃ t, v = .ref t ∧ H t = some (.tup [.int p.1, .int p.2])
inductive Prs (H : Hp) : List V → Sps → Prop
  | nil : Prs H [] []
  | cons {v : V} {vs : List V} {p : Int × Int} {l : Sps} : Pr H v p → Prs H vs l → Prs H (v :: vs) (p :: l)
theorem Pr.mono {H H' : Hp} {v : V} {p : Int × Int} (s : Same H H') (h : Pr H v p) : Pr H' v p := by
  obtain ⟨t, e, h⟩ := h
  exact ⟨t, e, s _ _ h⟩
theorem Prs.mono {H H' : Hp} (s : Same H H') : ∀ {vs : List V} {l : Sps}, Prs H vs l → Prs H' vs l
  | _, _, .nil => .nil
  | _, _, .cons h t => .cons (h.mono s) (t.mono s)
theorem Prs.len {H : Hp} : ∀ {vs : List V} {l : Sps}, Prs H vs l → vs.length = l.length
  | _, _, .nil => rfl
  | _, _, .cons h t => congrArg (· + 1) t.len
theorem Prs.get {H : Hp} : ∀ {vs : List V} {l : Sps} {i : Nat} {v : V}, Prs H vs l → vs[i]? = some v → ∃ p, l[i]? = some p ∧ Pr H v p
  | _, _, _, _, .nil, h => by simp at h
  | _, _, 0, _, .cons h t, e => by
    have e' := Option.some.inj e
    rw [← e']
    exact ⟨_, rfl, h⟩
  | _, _, i + 1, _, .cons h t, e => t.get (i := i) e
theorem Prs.at {H : Hp} : ∀ {vs : List V} {l : Sps} {i : Nat} {p : Int × Int}, Prs H vs l → l[i]? = some p → ∃ v, vs[i]? = some v ∧ Pr H v p
  | _, _, _, _, .nil, h => by simp at h
  | _, _, 0, _, .cons h t, e => by
    have e' := Option.some.inj e
    rw [← e']
    exact ⟨_, rfl, h⟩
  | _, _, i + 1, _, .cons h t, e => t.at (i := i) e
theorem Prs.app {H : Hp} : ∀ {vs us : List V} {l m : Sps}, Prs H vs l → Prs H us m → Prs H (vs ++ us) (l ++ m)
  | _, _, _, _, .nil, h => h
  | _, _, _, _, .cons h t, k => .cons h (t.app k)
theorem Prs.snoc {H : Hp} {vs : List V} {l : Sps} {v : V} {p : Int × Int} (h : Prs H vs l) (k : Pr H v p) : Prs H (vs ++ [v]) (l ++ [p]) := h.app (.cons k .nil)
/-- the last one apart -/
theorem Prs.last {H : Hp} : ∀ {l : Sps} {vs : List V} {p : Int × Int}, Prs H vs (l ++ [p]) → ∃ us v, vs = us ++ [v] ∧ Prs H us l ∧ Pr H v p
  | [], _, p, .cons h .nil => ⟨[], _, rfl, .nil, h⟩
  | q :: l, _, p, .cons h t => by
    obtain ⟨us, v, e, k1, k2⟩ := Prs.last t
    exact ⟨_ :: us, v, by rw [e]; rfl, .cons h k1, k2⟩
theorem same_upd {H : Hp} {p : Addr} {o : HO} (h : H p = none) : Same H (upd H p o) := fun b x e => by
  rw [upd_ne (ne_of_none e h)]
  exact e
theorem same_at {H H' : Hp} {p : Addr} {o : HO} (s : Same H H') (h : H p = none) : Same H (upd H' p o) := fun b x e => by
  rw [upd_ne (ne_of_none e h)]
  exact s _ _ e
/-- spans stay when the list at r is changed -/
theorem Pr.off {H : Hp} {r : Addr} {xs : List V} {o : HO} {v : V} {p : Int × Int} (hr : H r = some (.lst xs)) (h : Pr H v p) : Pr (upd H r o) v p := by
  obtain ⟨t, e, h⟩ := h
  refine ⟨t, e, ?_⟩
  rw [upd_ne fun z => ?_]
  · exact h
  · rw [z, hr] at h
    cases h
theorem Prs.off {H : Hp} {r : Addr} {xs : List V} {o : HO} (hr : H r = some (.lst xs)) : ∀ {vs : List V} {l : Sps}, Prs H vs l → Prs (upd H r o) vs l
  | _, _, .nil => .nil
  | _, _, .cons h t => .cons (h.off hr) (t.off hr)
theorem ifT {c : Prop} [Decidable c] {A B : Prop} (hc : c) (h : A) : if decide c = true then A else B := by
  rw [decide_eq_true hc]
  exact iteT h
theorem ifF {c : Prop} [Decidable c] {A B : Prop} (hc : ¬ c) (h : B) : if decide c = true then A else B := by
  rw [decide_eq_false hc]
  exact iteF h
theorem ofNat_lt {n : Nat} (h : n ≤ 1000000) : n < sizeLine := by
  rw [sizeLine_eq]
  omega
theorem ofNat_le {n : Nat} (h : n ≤ 1000000) : n ≤ sizeLine := Nat.le_of_lt (ofNat_lt h)
/-- what a def that changes nothing hands back: a new tuple of spans -/
def BackT (H : Hp) (Q : VK) (l : Sps) : Prop := ∀ H' p us, Same H H' → H p = none → H' p = some (.tup us) → Prs H' us l → Q (.ref p) H'
def RowT (H : Hp) (a : Addr) (l : Sps) : Prop := ∃ us, H a = some (.tup us) ∧ Prs H us l
theorem RowT.mono {H H' : Hp} {a : Addr} {l : Sps} (s : Same H H') (h : RowT H a l) : RowT H' a l := by
  obtain ⟨us, h, k⟩ := h
  exact ⟨us, s _ _ h, k.mono s⟩
theorem drop_get {α : Type} {l : List α} {i : Nat} {p : α} (h : l[i]? = some p) : l.drop i = p :: l.drop (i + 1) := by
  obtain ⟨hi, e⟩ := List.getElem?_eq_some_iff.mp h
  rw [List.drop_eq_getElem_cons hi, e]
theorem drop_end {α : Type} (l : List α) : l.drop l.length = [] := List.drop_eq_nil_of_le (Nat.le_refl _)
end Yj
set_option Elab.async false
set_option linter.all false
set_option maxRecDepth 100000
set_option maxHeartbeats 4000000
set_option pp.maxSteps 1500
namespace Yj
open PySem PySem.Spec PyProof.Rows L2 RZ
section
variable {P : Program} {w : World} {K : PySem.W.Frag} {mg : Str → Option Value} {base : Heap} {ad : Nat → Addr} {fds : Nat → FuncData} {cs : Nat → Value}
/-! ### _melted -/
def spMelt : Sp := fun vs H Q _ => ∃ a us l, vs = [.ref a] ∧ H a = some (.lst us) ∧ Prs H us l ∧ l.length ≤ 1000000 ∧ BackT H Q (melt l)
/-- the row that is made, behind i spans: its last one may still grow -/
def MeltAt (l : Sps) (i : Nat) (m : Sps) : Prop := m.length ≤ i ∧ ((i = 0 ∧ m = []) ∨ ∃ m' c, m = m' ++ [c] ∧ melt l = m' ++ meltM c (l.drop i))
theorem MeltAt.next {l m : Sps} {i : Nat} {p : Int × Int} (h : MeltAt l i m) (hp : l[i]? = some p) :
    (m = [] ∧ MeltAt l (i + 1) [p]) ∨ ∃ m' c, m = m' ++ [c] ∧ (p.1 ≤ c.2 + 1 → MeltAt l (i + 1) (m' ++ [(c.1, if p.2 > c.2 then p.2 else c.2)])) ∧ (¬ p.1 ≤ c.2 + 1 → MeltAt l (i + 1) (m ++ [p])) := by
  obtain ⟨hl, h⟩ := h
  rcases h with ⟨rfl, rfl⟩ | ⟨m', c, rfl, e⟩
  · refine .inl ⟨rfl, Nat.le_refl _, .inr ⟨[], p, rfl, ?_⟩⟩
    have z := drop_get hp
    rw [List.drop_zero] at z
    rw [z]
    rfl
  · rw [drop_get hp] at e
    rw [List.length_append] at hl
    refine .inr ⟨m', c, rfl, fun q => ⟨?_, .inr ⟨m', _, rfl, ?_⟩⟩, fun q => ⟨?_, .inr ⟨m' ++ [c], p, rfl, ?_⟩⟩⟩
    · simp only [List.length_append, List.length_cons, List.length_nil] at hl ⊢
      omega
    · rw [e]
      show m' ++ (if p.1 ≤ c.2 + 1 then _ else _) = _
      rw [if_pos q]
    · simp only [List.length_append, List.length_cons, List.length_nil] at hl ⊢
      omega
    · rw [e, List.append_assoc]
      show m' ++ (if p.1 ≤ c.2 + 1 then _ else _) = _
      rw [if_neg q]
      rfl
theorem MeltAt.done {l m : Sps} (h : MeltAt l l.length m) : m = melt l := by
  obtain ⟨_, h⟩ := h
  rcases h with ⟨h0, rfl⟩ | ⟨m', c, rfl, e⟩
  · have : l = [] := List.eq_nil_of_length_eq_zero h0
    rw [this]
    rfl
  · rw [e, drop_end]
    rfl
theorem ok__melted (T : Txt K mg ad fds cs) : FnOk P w K mg base CX0 1 (ad 22) (fds 22) ["spans"] spMelt := by
  refine T.F__melted.ok sc__melted (fun vs H Q E h => ?_) (fun cdv A outer s H vs Q E hr h => ?_)
  · obtain ⟨a, us, l, rfl, _⟩ := h
    rfl
  · obtain ⟨a, us, l, rfl, ha, hp, hlen, q⟩ := h
    refine ⟨_, (pss_cons (ps_set (i := 1) sc__melted.nd rfl (by first | exact .inl rfl | exact .inr rfl) (pe_lst pa_nil))
      (pss_cons (ps_for PassesOwn.never rfl (pi_list (pv 0)) (pg_tup rfl (pgs_cons (pg_name (i := 2) sc__melted.nd rfl (by first | exact .inl rfl | exact .inr rfl)) (pgs_cons (pg_name (i := 3) sc__melted.nd rfl (by first | exact .inl rfl | exact .inr rfl)) pgs_nil)))
      (pss_one (ps_if (PW.pt (pw_and (pt_truth (pv 1) (by intro _; rfl)) (pw_and1 (pt_cmpR op_le (pv 2) (pe_op op_add (pe_ix ix_seq (pe_ix ix_seq (pv 1) (pe_un un_neg pe_int) (fun _ _ => rfl)) pe_int (fun _ _ => rfl)) pe_int) (nomark _))))) (pss_one (ps_asg (pe_tup (pa_cons (pe_ix ix_seq (pe_ix ix_seq (pv 1) (pe_un un_neg pe_int) (fun _ _ => rfl)) pe_int (fun _ _ => rfl)) (pa_cons (pe_callB (call_max2 rfl) (by rfl) T.z_max (by decide +kernel) (pa_cons (pe_ix ix_seq (pe_ix ix_seq (pv 1) (pe_un un_neg pe_int) (fun _ _ => rfl)) pe_int (fun _ _ => rfl)) (pa_cons (pv 3) pa_nil))) pa_nil))) (pg_sub (pv 1) (pe_un un_neg pe_int) set_list))) (pss_one (ps_expr (pe_bm PySem.F.plainAttrs_list PySem.F.slot_list_append PySem.F.type_list_append mt_append (pv 1) (pa_cons (pe_tup (pa_cons (pv 2) (pa_cons (pv 3) pa_nil))) pa_nil)))))))
      (pss_one (ps_ret (pe_callTy call_tuple_of (by rfl) T.z_tuple (by decide +kernel) (pa_cons (pv 1) pa_nil)))))), ?_⟩
    refine ⟨Nat.zero_le _, fun r nr => ?_⟩
    have nra : r ≠ a := (ne_of_none ha nr).symm
    have s1 : Same H (upd H r (.lst [])) := same_upd nr
    refine ⟨_, rfl, a, rfl, ⟨_, SqL.of (s1 _ _ ha)⟩, for_list (xs := us) (fun i σ H1 => ∃ y2 y3 ws m, σ = [some (.ref a), some (.ref r), y2, y3] ∧ Same H H1 ∧ H1 r = some (.lst ws) ∧ Prs H1 ws m ∧ MeltAt l i m)
      ⟨none, none, [], [], rfl, s1, upd_same, .nil, Nat.le_refl _, .inl ⟨rfl, rfl⟩⟩ (fun i σ H1 _ ⟨_, _, _, _, _, s2, _⟩ => SqL.of (s2 _ _ ha)) ?_ ?_⟩
    · rintro i x σ H1 hx ⟨y2, y3, ws, m, rfl, s2, hr1, hm, hat⟩
      obtain ⟨p, hp1, t, rfl, ht⟩ := hp.get hx
      have hi : i < us.length := (List.getElem?_eq_some_iff.mp hx).1
      have hml : ws.length < sizeLine := ofNat_lt (by
        have h1 := hm.len
        have h2 := hat.1
        have h3 := hp.len
        omega)
      have ht1 := s2 _ _ ht
      refine ⟨t, _, rfl, SqT.of ht1, rfl, _, _, rfl, _, _, rfl, rfl, ?_⟩
      refine ⟨_, rfl, _, .inl ⟨_, SqL.of hr1, rfl⟩, ?_⟩
      rcases hat.next hp1 with ⟨rfl, n1⟩ | ⟨m', c, rfl, n1, n2⟩
      · -- the first one
        cases hm
        refine iteF ?_
        refine ⟨.ref r, rfl, .inl ⟨rfl, _, SqL.of hr1⟩, _, rfl, _, rfl, (by show 2 ≤ sizeLine; decide), fun u nu => ?_⟩
        have nur : r ≠ u := ne_of_none hr1 nu
        refine ⟨r, _, _, rfl, rfl, (upd_ne nur).trans hr1, hml, ?_⟩
        have s3 : Same H1 (upd H1 u (.tup [.int p.1, .int p.2])) := same_upd nu
        refine ⟨_, _, _, [p], rfl, same_at (s2.trans s3) nr, upd_same, .cons ⟨u, rfl, ?_⟩ .nil, n1⟩
        rw [upd_ne nur.symm]
        exact upd_same
      · obtain ⟨vs', v, rfl, k1, tv, rfl, k2⟩ := hm.last
        have e1 : (!(vs' ++ [V.ref tv]).isEmpty) = true := by
          cases vs' <;> rfl
        rw [e1]
        refine iteT ?_
        refine ⟨_, rfl, _, rfl, 1, rfl, .inl ⟨r, _, -1, _, rfl, rfl, SqL.of hr1, atI_last _ _, .inr (.inl ⟨tv, _, 1, _, rfl, rfl, SqT.of k2, atI_nat (j := 1) rfl, _, _, rfl, rfl, _, _, rfl, rfl, _, rfl, ?_⟩)⟩⟩
        by_cases hc : p.1 ≤ c.2 + 1
        · refine ifT hc ?_
          refine ⟨_, rfl, 1, rfl, .inl ⟨r, _, -1, _, rfl, rfl, SqL.of hr1, atI_last _ _, .inr (.inl ⟨tv, _, 0, _, rfl, rfl, SqT.of k2, atI_nat (j := 0) rfl, ?_⟩)⟩⟩
          refine ⟨_, rfl, 1, rfl, .inl ⟨r, _, -1, _, rfl, rfl, SqL.of hr1, atI_last _ _, .inr (.inl ⟨tv, _, 1, _, rfl, rfl, SqT.of k2, atI_nat (j := 1) rfl, ?_⟩)⟩⟩
          refine ⟨_, rfl, _, _, rfl, (by show 2 ≤ sizeLine; decide), fun u nu => ?_⟩
          have nur : r ≠ u := ne_of_none hr1 nu
          have s3 := same_upd (o := .tup [.int c.1, .int (if p.2 > c.2 then p.2 else c.2)]) nu
          refine ⟨_, rfl, 1, rfl, r, _, -1, vs'.length, rfl, rfl, (upd_ne nur).trans hr1, ?_, ?_⟩
          · unfold ixN
            rw [List.length_append, if_neg (by decide), if_pos (by simp only [List.length_cons, List.length_nil]; omega)]
            simp only [List.length_cons, List.length_nil, Option.some.injEq]
            omega
          · refine ⟨_, _, _, _, rfl, same_at (s2.trans s3) nr, upd_same, ?_, n1 hc⟩
            rw [List.set_append_right _ _ (Nat.le_refl _), Nat.sub_self]
            refine (Prs.off ((upd_ne nur).trans hr1) (k1.mono s3)).snoc ⟨u, rfl, ?_⟩
            rw [upd_ne nur.symm]
            exact upd_same
        · refine ifF hc ?_
          refine ⟨.ref r, rfl, .inl ⟨rfl, _, SqL.of hr1⟩, _, rfl, _, rfl, (by show 2 ≤ sizeLine; decide), fun u nu => ?_⟩
          have nur : r ≠ u := ne_of_none hr1 nu
          have s3 := same_upd (o := .tup [.int p.1, .int p.2]) nu
          refine ⟨r, _, _, rfl, rfl, (upd_ne nur).trans hr1, hml, ?_⟩
          refine ⟨_, _, _, _, rfl, same_at (s2.trans s3) nr, upd_same, ?_, n2 hc⟩
          refine (Prs.off ((upd_ne nur).trans hr1) (hm.mono s3)).snoc ⟨u, rfl, ?_⟩
          rw [upd_ne nur.symm]
          exact upd_same
    · rintro σ H1 ⟨y2, y3, ws, m, rfl, s2, hr1, hm, hat⟩
      rw [hp.len] at hat
      have hm' : m = melt l := hat.done
      subst hm'
      refine ⟨_, rfl, r, _, rfl, .inl ⟨SqL.of hr1, fun t nt => ?_⟩⟩
      have s3 := same_upd (o := .tup ws) nt
      exact q _ t ws (s2.trans s3) (s2.free nt) upd_same (hm.mono s3)
end
end Yj
set_option Elab.async false
set_option linter.all false
set_option maxRecDepth 100000
set_option maxHeartbeats 4000000
set_option pp.maxSteps 1500
namespace Yj
open PySem PySem.Spec PyProof.Rows L2 RZ
/-! ### sorted rows -/
/-- the two ints of a span -/
def twoOf (H : Hp) : V → Int × Int
  | .ref t => match H t with
    | some (.tup [.int i, .int j]) => (i, j)
    | _ => (0, 0)
  | _ => (0, 0)
theorem Pr.two {H : Hp} {v : V} {p : Int × Int} (h : Pr H v p) : twoOf H v = p := by
  obtain ⟨t, rfl, h⟩ := h
  show (match H t with | some (.tup [.int i, .int j]) => (i, j) | _ => (0, 0)) = p
  rw [h]
theorem Prs.two {H : Hp} : ∀ {vs : List V} {l : Sps}, Prs H vs l → vs.map (twoOf H) = l
  | _, _, .nil => rfl
  | _, _, .cons h t => by rw [List.map_cons, h.two, t.two]
theorem Prs.each {H : Hp} : ∀ {vs : List V} {l : Sps}, Prs H vs l → ∀ v ∈ vs, Pr H v (twoOf H v)
  | _, _, .nil, v, hv => by cases hv
  | _, _, .cons h t, v, hv => by
    rcases List.mem_cons.mp hv with e | hv
    · rw [e, h.two]
      exact h
    · exact t.each v hv
theorem prs_of {H : Hp} : ∀ {vs : List V}, (∀ v ∈ vs, Pr H v (twoOf H v)) → Prs H vs (vs.map (twoOf H))
  | [], _ => .nil
  | v :: vs, h => .cons (h v (List.mem_cons_self ..)) (prs_of fun u hu => h u (List.mem_cons_of_mem _ hu))
theorem asc_of : ∀ {l : Sps} {lo : Int}, Val l → (∀ p ∈ l, lo ≤ p.1) → l.Pairwise (fun x y => SrtO.lexB y x = false) → Asc lo l
  | [], _, _, _, _ => True.intro
  | p :: x, lo, ⟨v, vx⟩, h, hs => by
    obtain ⟨h1, h2⟩ := List.pairwise_cons.mp hs
    refine ⟨h p (List.mem_cons_self ..), v.2.1, asc_of vx (fun q hq => ?_) h2⟩
    have := SrtO.lexB_no.mp (h1 q hq)
    omega
/-- what sorted makes of a list of spans -/
theorem sorted_prs {H : Hp} {xs ys : List V} {l : Sps} (h : Prs H xs l) (hv : Val l) (h1 : SrtO.Srtd (ltP (twoOf H)) ys) (h2 : SrtO.Stb (ltP (twoOf H)) ys xs) :
    ∃ l', Prs H ys l' ∧ l'.Perm l ∧ Asc 0 l' ∧ Val l' := by
  have hp : (ys.map (twoOf H)).Perm l := by
    rw [← h.two]
    exact h2.perm.map _
  have hv' : Val (ys.map (twoOf H)) := val_of fun p hp' => hv.all p (hp.mem_iff.mp hp')
  refine ⟨ys.map (twoOf H), prs_of fun v hv => h.each v (h2.perm.mem_iff.mp hv), hp, ?_, hv'⟩
  refine asc_of hv' (fun p hp' => (hv'.all p hp').1) ?_
  rw [List.pairwise_map]
  exact h1
theorem mem_perm {l m : Sps} (h : l.Perm m) (d : Int) : Mem l d ↔ Mem m d := by
  rw [mem_iff, mem_iff]
  exact ⟨fun ⟨p, hp, z⟩ => ⟨p, h.mem_iff.mp hp, z⟩, fun ⟨p, hp, z⟩ => ⟨p, h.mem_iff.mpr hp, z⟩⟩
theorem val_app {l m : Sps} (hl : Val l) (hm : Val m) : Val (l ++ m) := val_of fun p hp => by
  rcases List.mem_append.mp hp with z | z
  · exact hl.all p z
  · exact hm.all p z
end Yj
set_option Elab.async false
set_option linter.all false
set_option maxRecDepth 100000
set_option maxHeartbeats 4000000
set_option pp.maxSteps 1500
namespace Yj
open PySem PySem.Spec PyProof.Rows L2 RZ
section
variable {P : Program} {w : World} {K : PySem.W.Frag} {mg : Str → Option Value} {base : Heap} {ad : Nat → Addr} {fds : Nat → FuncData} {cs : Nat → Value}
/-! ### union -/
/-- two rows, and what is wanted of the row made of them -/
def spTwo (n : Nat) (F : Sps → Sps → Sps → Prop) : Sp := fun vs H Q _ => ∃ a b l m, vs = [.ref a, .ref b] ∧ RowT H a l ∧ RowT H b m ∧ Row l ∧ Row m ∧ l.length ≤ n ∧ m.length ≤ n ∧
  ∀ r, F l m r → BackT H Q r
def FUnion (l m r : Sps) : Prop := Row r ∧ (∀ d, Mem r d ↔ Mem l d ∨ Mem m d) ∧ r.length ≤ l.length + m.length
def FMeet (l m r : Sps) : Prop := Row r ∧ (∀ d, Mem r d ↔ Mem l d ∧ Mem m d) ∧ r.length ≤ l.length + m.length
def FLess (l m r : Sps) : Prop := Row r ∧ (∀ d, Mem r d ↔ Mem l d ∧ ¬ Mem m d) ∧ r.length ≤ l.length + m.length + 1
def FUnlike (l m r : Sps) : Prop := Row r ∧ (∀ d, Mem r d ↔ (Mem l d ∧ ¬ Mem m d) ∨ (Mem m d ∧ ¬ Mem l d)) ∧ r.length ≤ 2 * (l.length + m.length + 1)
theorem two_len {n : Nat} {F : Sps → Sps → Sps → Prop} {vs : List V} {H : Hp} {Q : VK} {E : XK} (h : spTwo n F vs H Q E) : vs.length = 2 := by
  obtain ⟨a, b, l, m, rfl, _⟩ := h
  rfl
theorem ok_union (T : Txt K mg ad fds cs) : FnOk P w K mg base CX0 2 (ad 23) (fds 23) ["one", "other"] (spTwo 300000 FUnion) := by
  refine T.F_union.ok sc_union (fun vs H Q E h => two_len h) (fun cdv A outer s H vs Q E hr h => ?_)
  obtain ⟨a, b, l, m, rfl, ⟨us, ha, hl⟩, ⟨ws, hb, hm⟩, rl, rm, z1, z2, q⟩ := h
  refine ⟨_, (pss_one (ps_ret (pe_call (ok__melted T) (hr.mono (by decide)) rfl T.g__melted T.F__melted.kp (bi__melted T) .nil pass0 (pa_cons (pe_callB cr_sortedPO (by rfl) T.z_sorted (by decide +kernel) (pa_cons (pe_lst (StX.pa_star (pv 0) (StX.pa_star (pv 1) pa_nil))) pa_nil)) pa_nil)))), ?_⟩
  have hz := hl.len
  have hz2 := hm.len
  refine ⟨_, rfl, a, us, rfl, .inl (SqT.of ha), _, rfl, b, ws, rfl, .inl (SqT.of hb), ?_⟩
  refine ⟨ofNat_le (by rw [List.length_append, List.append_nil]; omega), fun c nc => ?_⟩
  have s1 := same_upd (o := .lst (us ++ (ws ++ []))) nc
  have hp : Prs (upd H c (.lst (us ++ (ws ++ [])))) (us ++ (ws ++ [])) (l ++ m) := by
    rw [List.append_nil]
    exact (hl.mono (by rw [List.append_nil] at s1; exact s1)).app (hm.mono (by rw [List.append_nil] at s1; exact s1))
  refine ⟨c, _, twoOf _, rfl, SqL.of upd_same, fun x hx => hp.each x hx, fun ys t hs ht nt => ?_⟩
  obtain ⟨l', h1, h2, h3, h4⟩ := sorted_prs hp (val_app rl.2 rm.2) hs ht
  have s2 := same_upd (o := .lst ys) nt
  obtain ⟨m1, m2, m3⟩ := melt_row h3 h4
  have hlen := h2.length_eq
  rw [List.length_append] at hlen
  refine ⟨t, ys, l', rfl, upd_same, h1.mono s2, by omega, fun H' p vs' s3 np hp' hr' => ?_⟩
  refine q _ ⟨m1, fun d => ?_, by omega⟩ H' p vs' ((s1.trans s2).trans s3) ((s1.trans s2).free np) hp' hr'
  rw [m2 d, mem_perm h2 d, mem_append]
end
end Yj
set_option Elab.async false
set_option linter.all false
set_option maxRecDepth 100000
set_option maxHeartbeats 4000000
set_option pp.maxSteps 1500
namespace Yj
open PySem PySem.Spec PyProof.Rows L2 RZ
section
variable {P : Program} {w : World} {K : PySem.W.Frag} {mg : Str → Option Value} {base : Heap} {ad : Nat → Addr} {fds : Nat → FuncData} {cs : Nat → Value}
/-! ### meet -/
theorem ok_meet (T : Txt K mg ad fds cs) : FnOk P w K mg base CX0 1 (ad 24) (fds 24) ["one", "other"] (spTwo 300000 FMeet) := by
  refine T.F_meet.ok sc_meet (fun vs H Q E h => two_len h) (fun cdv A outer s H vs Q E hr h => ?_)
  obtain ⟨a, b, l, m, rfl, ⟨us, ha, hl⟩, ⟨ws, hb, hm⟩, rl, rm, z1, z2, q⟩ := h
  refine ⟨_, (pss_cons (ps_set (i := 2) sc_meet.nd rfl (by first | exact .inl rfl | exact .inr rfl) (pe_lst pa_nil))
      (pss_cons (ps_asg2 pe_int (pg_name (i := 3) sc_meet.nd rfl (by first | exact .inl rfl | exact .inr rfl)) (pg_name (i := 4) sc_meet.nd rfl (by first | exact .inl rfl | exact .inr rfl)))
      (pss_cons (ps_while PassesOwn.never (PW.pt (pw_and (pt_cmpR op_lt (pv 3) (pe_callB call_len_seq (by rfl) T.z_len (by decide +kernel) (pa_cons (pv 0) pa_nil)) (nomark _)) (pw_and1 (pt_cmpR op_lt (pv 4) (pe_callB call_len_seq (by rfl) T.z_len (by decide +kernel) (pa_cons (pv 1) pa_nil)) (nomark _)))))
      (pss_cons (ps_set (i := 5) sc_meet.nd rfl (by first | exact .inl rfl | exact .inr rfl) (pe_callB (call_max2 rfl) (by rfl) T.z_max (by decide +kernel) (pa_cons (pe_ix ix_seq (pe_ix ix_seq (pv 0) (pv 3) (fun _ _ => rfl)) pe_int (fun _ _ => rfl)) (pa_cons (pe_ix ix_seq (pe_ix ix_seq (pv 1) (pv 4) (fun _ _ => rfl)) pe_int (fun _ _ => rfl)) pa_nil))))
      (pss_cons (ps_set (i := 6) sc_meet.nd rfl (by first | exact .inl rfl | exact .inr rfl) (pe_callB (call_min2 rfl) (by rfl) T.z_min (by decide +kernel) (pa_cons (pe_ix ix_seq (pe_ix ix_seq (pv 0) (pv 3) (fun _ _ => rfl)) pe_int (fun _ _ => rfl)) (pa_cons (pe_ix ix_seq (pe_ix ix_seq (pv 1) (pv 4) (fun _ _ => rfl)) pe_int (fun _ _ => rfl)) pa_nil))))
      (pss_cons (ps_if (pt_cmpR op_le (pv 5) (pv 6) (nomark _)) (pss_one (ps_expr (pe_bm PySem.F.plainAttrs_list PySem.F.slot_list_append PySem.F.type_list_append mt_append (pv 2) (pa_cons (pe_tup (pa_cons (pv 5) (pa_cons (pv 6) pa_nil))) pa_nil)))) pss_nil)
      (pss_one (ps_if (pt_cmpR op_lt (pe_ix ix_seq (pe_ix ix_seq (pv 0) (pv 3) (fun _ _ => rfl)) pe_int (fun _ _ => rfl)) (pe_ix ix_seq (pe_ix ix_seq (pv 1) (pv 4) (fun _ _ => rfl)) pe_int (fun _ _ => rfl)) (nomark _)) (pss_one (ps_aug (i := 3) sc_meet.nd rfl (by first | exact .inl rfl | exact .inr rfl) pe_int ip_add)) (pss_one (ps_aug (i := 4) sc_meet.nd rfl (by first | exact .inl rfl | exact .inr rfl) pe_int ip_add))))))))
      (pss_one (ps_ret (pe_callTy call_tuple_of (by rfl) T.z_tuple (by decide +kernel) (pa_cons (pv 2) pa_nil))))))), ?_⟩
  refine ⟨Nat.zero_le _, fun r nr => ?_⟩
  have s1 : Same H (upd H r (.lst [])) := same_upd nr
  have el := hl.len
  have em := hm.len
  refine ⟨fun n σ H1 => ∃ (i j : Nat) (y5 y6 : Option V) (xs : List V) (t : Sps), σ = [some (.ref a), some (.ref b), some (.ref r), some (.int i), some (.int j), y5, y6] ∧ Same H H1 ∧ H1 r = some (.lst xs) ∧ Prs H1 xs t ∧
    i ≤ l.length ∧ j ≤ m.length ∧ t ++ meetM (l.drop i) (m.drop j) = meetM l m ∧ t.length ≤ i + j ∧ n = (l.length - i) + (m.length - j),
    ⟨_, 0, 0, none, none, [], [], rfl, s1, upd_same, .nil, Nat.zero_le _, Nat.zero_le _, rfl, Nat.zero_le _, rfl⟩, ?_⟩
  rintro n σ H1 ⟨i, j, y5, y6, xs, t, rfl, s2, hr1, ht, hi, hj, e, et, rfl⟩
  have fin : l.drop i = [] ∨ m.drop j = [] → Prs H1 xs (meetM l m) := fun z => by
    have : t = meetM l m := by
      rw [← e]
      rcases z with z | z
      · rw [z, meetM_nil, List.append_nil]
      · rw [z, meetM_nil2, List.append_nil]
    rw [← this]
    exact ht
  have out : Prs H1 xs (meetM l m) → BackT H Q (meetM l m) → ∀ p, H1 p = none → Q (.ref p) (upd H1 p (.tup xs)) := fun k z p np => z _ p xs (s2.trans (same_upd np)) (s2.free np) upd_same (k.mono (same_upd np))
  obtain ⟨m1, m2, m3⟩ := meet_row rl rm
  have q' : BackT H Q (meetM l m) := q _ ⟨m1, m2, m3⟩
  refine ⟨_, rfl, _, rfl, a, us, rfl, .inr (SqT.of (s2 _ _ ha)), _, _, rfl, rfl, _, rfl, ?_⟩
  by_cases c1 : i < us.length
  · refine ifT (by omega) ?_
    refine ⟨_, rfl, _, rfl, b, ws, rfl, .inr (SqT.of (s2 _ _ hb)), _, _, rfl, rfl, _, rfl, ?_⟩
    by_cases c2 : j < ws.length
    · refine ifT (by omega) ?_
      refine ⟨fun σ' H' => ∃ m' : Nat, m' < (l.length - i) + (m.length - j) ∧ ∃ (i j : Nat) (y5 y6 : Option V) (xs : List V) (t : Sps), σ' = [some (.ref a), some (.ref b), some (.ref r), some (.int i), some (.int j), y5, y6] ∧ Same H H' ∧ H' r = some (.lst xs) ∧ Prs H' xs t ∧
        i ≤ l.length ∧ j ≤ m.length ∧ t ++ meetM (l.drop i) (m.drop j) = meetM l m ∧ t.length ≤ i + j ∧ m' = (l.length - i) + (m.length - j), fun σ' H' z => z, ?_⟩
      obtain ⟨p, hp1, ta, eta, hta⟩ := hl.get (List.getElem?_eq_getElem c1)
      obtain ⟨p', hp2, tb, etb, htb⟩ := hm.get (List.getElem?_eq_getElem c2)
      have ha1 := SqT.of (K := K) (s2 _ _ ha)
      have hb1 := SqT.of (K := K) (s2 _ _ hb)
      have ga : atI us (i : Int) = some (.ref ta) := atI_nat (by rw [← eta]; exact List.getElem?_eq_getElem c1)
      have gb : atI ws (j : Int) = some (.ref tb) := atI_nat (by rw [← etb]; exact List.getElem?_eq_getElem c2)
      have ta1 := SqT.of (K := K) (s2 _ _ hta)
      have tb1 := SqT.of (K := K) (s2 _ _ htb)
      -- first
      refine ⟨_, rfl, _, rfl, .inr (.inl ⟨a, us, _, _, rfl, rfl, ha1, ga, .inr (.inl ⟨ta, _, 0, _, rfl, rfl, ta1, atI_nat (j := 0) rfl, ?_⟩)⟩)⟩
      refine ⟨_, rfl, _, rfl, .inr (.inl ⟨b, ws, _, _, rfl, rfl, hb1, gb, .inr (.inl ⟨tb, _, 0, _, rfl, rfl, tb1, atI_nat (j := 0) rfl, _, _, rfl, ?_⟩)⟩)⟩
      -- last
      refine ⟨_, rfl, _, rfl, .inr (.inl ⟨a, us, _, _, rfl, rfl, ha1, ga, .inr (.inl ⟨ta, _, 1, _, rfl, rfl, ta1, atI_nat (j := 1) rfl, ?_⟩)⟩)⟩
      refine ⟨_, rfl, _, rfl, .inr (.inl ⟨b, ws, _, _, rfl, rfl, hb1, gb, .inr (.inl ⟨tb, _, 1, _, rfl, rfl, tb1, atI_nat (j := 1) rfl, _, _, rfl, ?_⟩)⟩)⟩
      have dl := drop_get hp1
      have dm := drop_get hp2
      have c1' : i + 1 ≤ l.length := by omega
      have c2' : j + 1 ≤ m.length := by omega
      rw [dl, dm, meetM_cons] at e
      refine ⟨_, rfl, _, rfl, _, _, rfl, rfl, _, rfl, ?_⟩
      by_cases c : (if p'.1 > p.1 then p'.1 else p.1) ≤ (if p'.2 < p.2 then p'.2 else p.2)
      case' pos =>
        refine ifT c ?_
        refine ⟨.ref r, rfl, .inl ⟨rfl, _, SqL.of hr1⟩, _, rfl, _, rfl, (by show 2 ≤ sizeLine; decide), fun u nu => ?_⟩
        have nur : r ≠ u := ne_of_none hr1 nu
        have s3 := same_upd (o := .tup [.int (if p'.1 > p.1 then p'.1 else p.1), .int (if p'.2 < p.2 then p'.2 else p.2)]) nu
        refine ⟨r, _, _, rfl, rfl, (upd_ne nur).trans hr1, ofNat_lt (by have := ht.len; omega), ?_⟩
        rw [if_pos c] at e
        have k2 := (Prs.off (o := .lst (xs ++ [.ref u])) ((upd_ne nur).trans hr1) (ht.mono s3)).snoc (p := ((if p'.1 > p.1 then p'.1 else p.1), (if p'.2 < p.2 then p'.2 else p.2))) ⟨u, rfl, by
          rw [upd_ne nur.symm]
          exact upd_same⟩
        have s4 := same_at (o := .lst (xs ++ [.ref u])) (s2.trans s3) nr
        have h2 : upd (upd H1 u (.tup [.int (if p'.1 > p.1 then p'.1 else p.1), .int (if p'.2 < p.2 then p'.2 else p.2)])) r (.lst (xs ++ [.ref u])) r = some (.lst (xs ++ [.ref u])) := upd_same
        have kl : (t ++ [((if p'.1 > p.1 then p'.1 else p.1), (if p'.2 < p.2 then p'.2 else p.2))]).length ≤ i + j + 1 := by
          simp only [List.length_append, List.length_cons, List.length_nil]
          omega
        have e2 : (t ++ [((if p'.1 > p.1 then p'.1 else p.1), (if p'.2 < p.2 then p'.2 else p.2))]) ++ (if p.2 < p'.2 then meetM (l.drop (i + 1)) (p' :: m.drop (j + 1)) else meetM (p :: l.drop (i + 1)) (m.drop (j + 1))) = meetM l m := by
          rw [List.append_assoc]
          exact e
        generalize xs ++ [V.ref u] = xs2 at k2 s4 h2 ⊢
        generalize t ++ [((if p'.1 > p.1 then p'.1 else p.1), (if p'.2 < p.2 then p'.2 else p.2))] = t2 at k2 kl e2
        generalize upd (upd H1 u (.tup [.int (if p'.1 > p.1 then p'.1 else p.1), .int (if p'.2 < p.2 then p'.2 else p.2)])) r (.lst xs2) = H2 at k2 s4 h2 ⊢
      case' neg =>
        refine ifF c ?_
        rw [if_neg c] at e
        have k2 := ht
        have s4 := s2
        have h2 := hr1
        have kl : t.length ≤ i + j + 1 := by omega
        have e2 := e
        generalize xs = xs2 at k2 h2
        generalize t = t2 at k2 kl e2
      all_goals
        refine ⟨_, rfl, _, rfl, .inr (.inl ⟨a, us, _, _, rfl, rfl, SqT.of (s4 _ _ ha), ga, .inr (.inl ⟨ta, _, 1, _, rfl, rfl, SqT.of (s4 _ _ hta), atI_nat (j := 1) rfl, ?_⟩)⟩)⟩
        refine ⟨_, rfl, _, rfl, .inr (.inl ⟨b, ws, _, _, rfl, rfl, SqT.of (s4 _ _ hb), gb, .inr (.inl ⟨tb, _, 1, _, rfl, rfl, SqT.of (s4 _ _ htb), atI_nat (j := 1) rfl, _, _, rfl, rfl, _, rfl, ?_⟩)⟩)⟩
        by_cases c3 : p.2 < p'.2
        · refine ifT c3 ?_
          rw [if_pos c3, ← dm] at e2
          exact ⟨_, rfl, _, _, rfl, rfl, _, by omega, i + 1, j, _, _, xs2, t2, rfl, s4, h2, k2, c1', hj, e2, by omega, rfl⟩
        · refine ifF c3 ?_
          rw [if_neg c3, ← dl] at e2
          exact ⟨_, rfl, _, _, rfl, rfl, _, by omega, i, j + 1, _, _, xs2, t2, rfl, s4, h2, k2, hi, c2', e2, by omega, rfl⟩
    · refine ifF (by omega) ?_
      exact ⟨_, rfl, r, xs, rfl, .inl ⟨SqL.of hr1, out (fin (.inr (List.drop_eq_nil_of_le (by omega)))) q'⟩⟩
  · refine ifF (by omega) ?_
    exact ⟨_, rfl, r, xs, rfl, .inl ⟨SqL.of hr1, out (fin (.inl (List.drop_eq_nil_of_le (by omega)))) q'⟩⟩
end
end Yj
set_option Elab.async false
set_option linter.all false
set_option maxRecDepth 100000
set_option maxHeartbeats 4000000
set_option pp.maxSteps 1500
namespace Yj
open PySem PySem.Spec PyProof.Rows L2 RZ
/-! ### rules that name the written part, for a comprehension's block -/
theorem pg_tupK {X : Cx} {K : PySem.W.Frag} {pos : Pos} {es : List Expr} {k : Nat} {t : TGs} {n : Nat} (hc : X.calm = true) (h : PGs X es t) (hK : X.K = K := by rfl)
    (hn : (assignEach es X.env).length = n := by rfl) (hst : (assignEach es X.env).findIdx? (·.1) = none := by rfl) : PG X (.Tuple es k pos) (gTup K n t) := by
  subst hK
  exact pg_tup hc h hn hst
theorem ix_seqK {X : Cx} {K : PySem.W.Frag} (hK : X.K = K := by rfl) : IxR X (rIx K) := by
  subst hK
  exact ix_seq
theorem call_lenK {X : Cx} {K : PySem.W.Frag} (hK : X.K = K := by rfl) : CallR X (.builtin "len") (fun xs H Q => ∃ p ys, xs = [V.ref p] ∧ (SqL K H p ys ∨ SqT K H p ys) ∧ Q (.int ys.length) H) := by
  subst hK
  exact call_len_seq
/-! ### rows as data -/
def datP (p : Int × Int) : PyData := .tuple [.int p.1, .int p.2]
def dat (l : Sps) : PyData := .tuple (l.map datP)
theorem datA_lay : ∀ l : Sps, PyData.canLayAll0 (l.map datP) = true
  | [] => rfl
  | p :: x => by
    show (PyData.canLay0 (datP p) && PyData.canLayAll0 (x.map datP)) = true
    rw [datA_lay x]
    rfl
theorem datA_depth : ∀ l : Sps, PyData.depthAll (l.map datP) ≤ 1
  | [] => Nat.zero_le _
  | p :: x => by
    show max (PyData.depth (datP p)) (PyData.depthAll (x.map datP)) ≤ 1
    have h1 := datA_depth x
    have h2 : PyData.depth (datP p) = 1 := rfl
    omega
theorem shaped_of {ds : List PyData} {n : Nat} (h1 : PyData.canLayAll0 ds = true) (h2 : PyData.depthAll ds ≤ n) (h3 : n ≤ 63) : SeqAt.shaped (.tuple ds) = true ∧ SeqAt.shaped (.list ds) = true := by
  have e : PyData.depthAll ds + 1 ≤ 64 := by omega
  refine ⟨?_, ?_⟩
  · show (PyData.canLayAll0 ds && decide (PyData.depthAll ds + 1 ≤ 64)) = true
    rw [h1, decide_eq_true e]
    rfl
  · show (PyData.canLayAll0 ds && decide (PyData.depthAll ds + 1 ≤ 64)) = true
    rw [h1, decide_eq_true e]
    rfl
theorem dat_shaped (l : Sps) : SeqAt.shaped (dat l) = true := (shaped_of (datA_lay l) (datA_depth l) (by decide)).1
theorem datP_eqv (p q : Int × Int) : PyData.eqv (datP p) (datP q) = decide (p = q) := by
  show (p.1 == q.1 && (p.2 == q.2 && true)) = decide (p = q)
  obtain ⟨a, b⟩ := p
  obtain ⟨c, d⟩ := q
  rw [Bool.eq_iff_iff]
  simp
theorem datA_eqv : ∀ l m : Sps, PyData.eqvAll (l.map datP) (m.map datP) = decide (l = m)
  | [], [] => rfl
  | [], _ :: _ => rfl
  | _ :: _, [] => rfl
  | p :: x, q :: y => by
    show (PyData.eqv (datP p) (datP q) && PyData.eqvAll (x.map datP) (y.map datP)) = _
    rw [datP_eqv, datA_eqv x y, Bool.eq_iff_iff]
    simp
theorem dat_eqv (l m : Sps) : PyData.eqv (dat l) (dat m) = decide (l = m) := datA_eqv l m
theorem Prs.dat {K : PySem.W.Frag} {H : Hp} : ∀ {vs : List V} {l : Sps}, Prs H vs l → DpAll K H vs (l.map datP)
  | _, _, .nil => .nil
  | _, _, .cons ⟨t, e, h⟩ k => .cons (by rw [e]; exact .tup (SqT.of h) (.cons (.int _) (.cons (.int _) .nil))) k.dat
theorem RowT.dat {K : PySem.W.Frag} {H : Hp} {a : Addr} {l : Sps} (h : RowT H a l) : Dp K H (.ref a) (dat l) := by
  obtain ⟨us, h, k⟩ := h
  exact .tup (SqT.of h) k.dat
/-! ### places in a row -/
theorem Nf.lt : ∀ {l : Sps} {lo : Int} {i k : Nat} {p q : Int × Int}, Nf lo l → i < k → l[i]? = some p → l[k]? = some q → p.2 + 2 ≤ q.1
  | [], _, _, _, _, _, _, _, h, _ => by simp at h
  | a :: x, lo, 0, k + 1, p, q, ⟨_, _, h3⟩, _, hp, hq => by
    have e := Option.some.inj hp
    rw [← e]
    have hq' : x[k]? = some q := hq
    have hm : q ∈ x := List.mem_of_getElem? hq'
    have : Mem x q.1 := by
      rw [mem_iff]
      exact ⟨q, hm, Int.le_refl _, by
        have := h3.val q hm
        exact this⟩
    exact h3.low this
  | a :: x, lo, i + 1, k + 1, p, q, ⟨_, _, h3⟩, h, hp, hq => Nf.lt h3 (Nat.lt_of_succ_lt_succ h) (show x[i]? = some p from hp) (show x[k]? = some q from hq)
theorem mem_at {l : Sps} {d : Int} : Mem l d ↔ ∃ (k : Nat) (p : Int × Int), l[k]? = some p ∧ p.1 ≤ d ∧ d ≤ p.2 := by
  rw [mem_iff]
  constructor
  · rintro ⟨p, hp, h⟩
    obtain ⟨k, hk⟩ := List.mem_iff_getElem?.mp hp
    exact ⟨k, p, hk, h⟩
  · rintro ⟨k, p, hk, h⟩
    exact ⟨p, List.mem_of_getElem? hk, h⟩
end Yj
set_option Elab.async false
set_option linter.all false
set_option maxRecDepth 100000
set_option maxHeartbeats 4000000
set_option pp.maxSteps 1500
namespace Yj
open PySem PySem.Spec PyProof.Rows L2 RZ
section
variable {P : Program} {w : World} {K : PySem.W.Frag} {mg : Str → Option Value} {base : Heap} {ad : Nat → Addr} {fds : Nat → FuncData} {cs : Nat → Value}
/-! ### others -/
def spOthers : Sp := fun vs H Q _ => ∃ a l, vs = [.ref a] ∧ RowT H a l ∧ Row l ∧ l.length ≤ 900000 ∧
  ∀ r, Row r → (∀ d, Mem r d ↔ 0 ≤ d ∧ d ≤ 999999 ∧ ¬ Mem l d) → r.length ≤ l.length + 1 → BackT H Q r
theorem ok_others (T : Txt K mg ad fds cs) : FnOk P w K mg base CX0 1 (ad 25) (fds 25) ["one"] spOthers := by
  refine T.F_others.ok sc_others (fun vs H Q E h => ?_) (fun cdv A outer s H vs Q E hr h => ?_)
  · obtain ⟨a, l, rfl, _⟩ := h
    rfl
  obtain ⟨a, l, rfl, ⟨us, ha, hl⟩, rl, z1, q⟩ := h
  refine ⟨_, (pss_cons (ps_set (i := 1) sc_others.nd rfl (by first | exact .inl rfl | exact .inr rfl) (pe_lst pa_nil))
      (pss_cons (ps_set (i := 2) sc_others.nd rfl (by first | exact .inl rfl | exact .inr rfl) pe_int)
      (pss_cons (ps_for PassesOwn.never rfl (pi_tup (pv 0)) (pg_tup rfl (pgs_cons (pg_name (i := 3) sc_others.nd rfl (by first | exact .inl rfl | exact .inr rfl)) (pgs_cons (pg_name (i := 4) sc_others.nd rfl (by first | exact .inl rfl | exact .inr rfl)) pgs_nil)))
      (pss_cons (ps_if (pt_cmpR op_lt (pv 2) (pv 3) (nomark _)) (pss_one (ps_expr (pe_bm PySem.F.plainAttrs_list PySem.F.slot_list_append PySem.F.type_list_append mt_append (pv 1) (pa_cons (pe_tup (pa_cons (pv 2) (pa_cons (pe_op op_sub (pv 3) pe_int) pa_nil))) pa_nil)))) pss_nil)
      (pss_one (ps_set (i := 2) sc_others.nd rfl (by first | exact .inl rfl | exact .inr rfl) (pe_op op_add (pv 4) pe_int)))))
      (pss_cons (ps_if (pt_cmpR op_le (pv 2) (pe_glob rfl T.c_LAST_DAY T.r_LAST_DAY) (nomark _)) (pss_one (ps_expr (pe_bm PySem.F.plainAttrs_list PySem.F.slot_list_append PySem.F.type_list_append mt_append (pv 1) (pa_cons (pe_tup (pa_cons (pv 2) (pa_cons (pe_glob rfl T.c_LAST_DAY T.r_LAST_DAY) pa_nil))) pa_nil)))) pss_nil)
      (pss_one (ps_ret (pe_callTy call_tuple_of (by rfl) T.z_tuple (by decide +kernel) (pa_cons (pv 1) pa_nil)))))))), ?_⟩
  refine ⟨Nat.zero_le _, fun r nr => ?_⟩
  have s1 : Same H (upd H r (.lst [])) := same_upd nr
  have el := hl.len
  obtain ⟨m1, m2, m3⟩ := others_row rl
  refine ⟨_, rfl, a, rfl, ⟨_, SqT.of (s1 _ _ ha)⟩, for_tup (xs := us) (fun i σ H1 => ∃ (f : Int) (y3 y4 : Option V) (ws : List V) (t : Sps), σ = [some (.ref a), some (.ref r), some (.int f), y3, y4] ∧ Same H H1 ∧ H1 r = some (.lst ws) ∧ Prs H1 ws t ∧
      t ++ othersM f (l.drop i) = othersM 0 l ∧ t.length ≤ i)
    ⟨0, none, none, [], [], rfl, s1, upd_same, .nil, rfl, Nat.le_refl _⟩ (fun i σ H1 _ ⟨_, _, _, _, _, _, s2, _⟩ => SqT.of (s2 _ _ ha)) ?_ ?_⟩
  · rintro i x σ H1 hx ⟨f, y3, y4, ws, t, rfl, s2, hr1, ht, e, et⟩
    obtain ⟨p, hp1, tp, rfl, hp⟩ := hl.get hx
    have hi : i < us.length := (List.getElem?_eq_some_iff.mp hx).1
    rw [drop_get hp1] at e
    refine ⟨tp, _, rfl, SqT.of (s2 _ _ hp), rfl, _, _, rfl, _, _, rfl, rfl, ?_⟩
    refine ⟨_, rfl, _, rfl, _, _, rfl, rfl, _, rfl, ?_⟩
    by_cases c : f < p.1
    · refine ifT c ?_
      refine ⟨.ref r, rfl, .inl ⟨rfl, _, SqL.of hr1⟩, _, rfl, _, rfl, _, _, rfl, rfl, (by show 2 ≤ sizeLine; decide), fun u nu => ?_⟩
      have nur : r ≠ u := ne_of_none hr1 nu
      have s3 := same_upd (o := .tup [.int f, .int (p.1 - 1)]) nu
      refine ⟨r, _, _, rfl, rfl, (upd_ne nur).trans hr1, ofNat_lt (by have := ht.len; omega), ?_⟩
      refine ⟨_, rfl, _, _, rfl, rfl, ?_⟩
      refine ⟨p.2 + 1, _, _, _, t ++ [(f, p.1 - 1)], rfl, same_at (s2.trans s3) nr, upd_same, ?_, ?_, ?_⟩
      · refine (Prs.off ((upd_ne nur).trans hr1) (ht.mono s3)).snoc ⟨u, rfl, ?_⟩
        rw [upd_ne nur.symm]
        exact upd_same
      · rw [List.append_assoc, ← e]
        show _ = t ++ (if f < p.1 then _ else _)
        rw [if_pos c]
        rfl
      · simp only [List.length_append, List.length_cons, List.length_nil]
        omega
    · refine ifF c ?_
      refine ⟨_, rfl, _, _, rfl, rfl, ?_⟩
      refine ⟨p.2 + 1, _, _, ws, t, rfl, s2, hr1, ht, ?_, by omega⟩
      rw [← e]
      show _ = t ++ (if f < p.1 then _ else _)
      rw [if_neg c]
  · rintro σ H1 ⟨f, y3, y4, ws, t, rfl, s2, hr1, ht, e, et⟩
    rw [el, drop_end] at e
    have q' : BackT H Q (othersM 0 l) := q _ m1 m2 m3
    refine ⟨_, rfl, _, _, rfl, rfl, _, rfl, ?_⟩
    by_cases c : f ≤ 999999
    · refine ifT c ?_
      refine ⟨.ref r, rfl, .inl ⟨rfl, _, SqL.of hr1⟩, _, rfl, (by show 2 ≤ sizeLine; decide), fun u nu => ?_⟩
      have nur : r ≠ u := ne_of_none hr1 nu
      have s3 := same_upd (o := .tup [.int f, .int 999999]) nu
      refine ⟨r, _, _, rfl, rfl, (upd_ne nur).trans hr1, ofNat_lt (by have := ht.len; omega), ?_⟩
      refine ⟨_, rfl, r, _, rfl, .inl ⟨SqL.of upd_same, fun v nv => ?_⟩⟩
      have e2 : t ++ [(f, 999999)] = othersM 0 l := by
        rw [← e]
        show _ = t ++ (if f ≤ 999999 then _ else _)
        rw [if_pos c]
      have k2 : Prs (upd (upd H1 u (.tup [.int f, .int 999999])) r (.lst (ws ++ [.ref u]))) (ws ++ [.ref u]) (othersM 0 l) := by
        rw [← e2]
        refine (Prs.off ((upd_ne nur).trans hr1) (ht.mono s3)).snoc ⟨u, rfl, ?_⟩
        rw [upd_ne nur.symm]
        exact upd_same
      have s4 := same_at (o := .lst (ws ++ [.ref u])) (s2.trans s3) nr
      exact q' _ v _ (s4.trans (same_upd nv)) (s4.free nv) upd_same (k2.mono (same_upd nv))
    · refine ifF c ?_
      have e2 : t = othersM 0 l := by
        rw [← e]
        show _ = t ++ (if f ≤ 999999 then _ else _)
        rw [if_neg c, List.append_nil]
      subst e2
      exact ⟨_, rfl, r, _, rfl, .inl ⟨SqL.of hr1, fun v nv => q' _ v _ (s2.trans (same_upd nv)) (s2.free nv) upd_same (ht.mono (same_upd nv))⟩⟩
end
end Yj
set_option Elab.async false
set_option linter.all false
set_option maxRecDepth 100000
set_option maxHeartbeats 4000000
set_option pp.maxSteps 1500
namespace Yj
open PySem PySem.Spec PyProof.Rows L2 RZ
section
variable {P : Program} {w : World} {K : PySem.W.Frag} {mg : Str → Option Value} {base : Heap} {ad : Nat → Addr} {fds : Nat → FuncData} {cs : Nat → Value}
/-! ### less, unlike, is_part -/
theorem ok_less (T : Txt K mg ad fds cs) : FnOk P w K mg base CX0 2 (ad 26) (fds 26) ["one", "other"] (spTwo 100000 FLess) := by
  refine T.F_less.ok sc_less (fun vs H Q E h => two_len h) (fun cdv A outer s H vs Q E hr h => ?_)
  obtain ⟨a, b, l, m, rfl, ha, hb, rl, rm, z1, z2, q⟩ := h
  refine ⟨_, (pss_one (ps_ret (pe_call (ok_meet T) (hr.mono (by decide)) rfl T.g_meet T.F_meet.kp (bi_meet T) .nil pass0 (pa_cons (pv 0) (pa_cons (pe_call (ok_others T) (hr.mono (by decide)) rfl T.g_others T.F_others.kp (bi_others T) .nil pass0 (pa_cons (pv 1) pa_nil)) pa_nil))))), ?_⟩
  refine ⟨_, rfl, _, rfl, b, m, rfl, hb, rm, by omega, fun r hr' kr er H1 p us s1 np hp hus => ?_⟩
  refine ⟨a, p, l, r, rfl, ha.mono s1, ⟨us, hp, hus⟩, rl, hr', by omega, by omega, fun t ⟨t1, t2, t3⟩ H2 p2 us2 s2 np2 hp2 hus2 => ?_⟩
  refine q t ⟨t1, fun d => ?_, by omega⟩ H2 p2 us2 (s1.trans s2) (s1.free np2) hp2 hus2
  rw [t2 d, kr d]
  constructor
  · rintro ⟨h1, h2⟩
    exact ⟨h1, h2.2.2⟩
  · rintro ⟨h1, h2⟩
    have := rl.2.mem h1
    exact ⟨h1, this.1, this.2, h2⟩
end
end Yj
set_option Elab.async false
set_option linter.all false
set_option maxRecDepth 100000
set_option maxHeartbeats 4000000
set_option pp.maxSteps 1500
namespace Yj
open PySem PySem.Spec PyProof.Rows L2 RZ
section
variable {P : Program} {w : World} {K : PySem.W.Frag} {mg : Str → Option Value} {base : Heap} {ad : Nat → Addr} {fds : Nat → FuncData} {cs : Nat → Value}
theorem ok_unlike (T : Txt K mg ad fds cs) : FnOk P w K mg base CX0 3 (ad 27) (fds 27) ["one", "other"] (spTwo 100000 FUnlike) := by
  refine T.F_unlike.ok sc_unlike (fun vs H Q E h => two_len h) (fun cdv A outer s H vs Q E hr h => ?_)
  obtain ⟨a, b, l, m, rfl, ha, hb, rl, rm, z1, z2, q⟩ := h
  refine ⟨_, (pss_one (ps_ret (pe_call (ok_union T) (hr.mono (by decide)) rfl T.g_union T.F_union.kp (bi_union T) .nil pass0 (pa_cons (pe_call (ok_less T) (hr.mono (by decide)) rfl T.g_less T.F_less.kp (bi_less T) .nil pass0 (pa_cons (pv 0) (pa_cons (pv 1) pa_nil))) (pa_cons (pe_call (ok_less T) (hr.mono (by decide)) rfl T.g_less T.F_less.kp (bi_less T) .nil pass0 (pa_cons (pv 1) (pa_cons (pv 0) pa_nil))) pa_nil))))), ?_⟩
  refine ⟨_, rfl, _, rfl, a, b, l, m, rfl, ha, hb, rl, rm, z1, z2, fun r ⟨r1, r2, r3⟩ H1 p us s1 np hp hus => ?_⟩
  refine ⟨_, rfl, _, rfl, b, a, m, l, rfl, hb.mono s1, ha.mono s1, rm, rl, z2, z1, fun t ⟨t1, t2, t3⟩ H2 p2 us2 s2 np2 hp2 hus2 => ?_⟩
  refine ⟨p, p2, r, t, rfl, RowT.mono s2 ⟨us, hp, hus⟩, ⟨us2, hp2, hus2⟩, r1, t1, by omega, by omega, fun u ⟨u1, u2, u3⟩ H3 p3 us3 s3 np3 hp3 hus3 => ?_⟩
  refine q u ⟨u1, fun d => ?_, by omega⟩ H3 p3 us3 ((s1.trans s2).trans s3) ((s1.trans s2).free np3) hp3 hus3
  rw [u2 d, r2 d, t2 d]
end
end Yj
set_option Elab.async false
set_option linter.all false
set_option maxRecDepth 100000
set_option maxHeartbeats 4000000
set_option pp.maxSteps 1500
namespace Yj
open PySem PySem.Spec PyProof.Rows L2 RZ
section
variable {P : Program} {w : World} {K : PySem.W.Frag} {mg : Str → Option Value} {base : Heap} {ad : Nat → Addr} {fds : Nat → FuncData} {cs : Nat → Value}
/-! ### has -/
def spHas : Sp := fun vs H Q _ => ∃ a l d lo, vs = [.ref a, .int d] ∧ RowT H a l ∧ Nf lo l ∧ l.length ≤ 1000000 ∧ Q (.bl (decide (Mem l d))) H
def spEnded : Sp := fun vs H Q _ => ∃ a l d lo, vs = [.ref a, .int d] ∧ RowT H a l ∧ Nf lo l ∧ l.length ≤ 1000000 ∧
    ∀ i : Nat, i ≤ l.length → (∀ k p, k < i → l[k]? = some p → p.2 < d) → (∀ k p, i ≤ k → l[k]? = some p → d ≤ p.2) → Q (.int (i : Int)) H
theorem has_end {l : Sps} {d : Int} {lo : Int} {n : Nat} (h : Nf lo l) (h1 : ∀ k p, k < n → l[k]? = some p → p.2 < d) (h2 : ∀ k p, n ≤ k → l[k]? = some p → d ≤ p.2) :
    Mem l d ↔ ∃ p, l[n]? = some p ∧ p.1 ≤ d := by
  rw [mem_at]
  constructor
  · rintro ⟨k, p, hk, k1, k2⟩
    rcases Nat.lt_trichotomy k n with z | z | z
    · have := h1 k p z hk
      omega
    · rw [← z]
      exact ⟨p, hk, k1⟩
    · have hl : k < l.length := (List.getElem?_eq_some_iff.mp hk).1
      have hn : l[n]? = some l[n] := List.getElem?_eq_getElem (by omega)
      have e := h.lt z hn hk
      have := h2 n _ (Nat.le_refl _) hn
      omega
  · rintro ⟨p, hp, k1⟩
    exact ⟨n, p, hp, k1, h2 n p (Nat.le_refl _) hp⟩
theorem ok__ended_ahead (T : Txt K mg ad fds cs) : FnOk P w K mg base CX0 1 (ad 28) (fds 28) ["one", "day"] spEnded := by
  refine T.F__ended_ahead.ok sc__ended_ahead (fun vs H Q E h => ?_) (fun cdv A outer s H vs Q E hr h => ?_)
  · obtain ⟨a, l, d, lo, rfl, _⟩ := h
    rfl
  obtain ⟨a, l, d, lo, rfl, ⟨us, ha, hl⟩, rl, z1, q⟩ := h
  refine ⟨_, (pss_cons (ps_set (i := 2) sc__ended_ahead.nd rfl (by first | exact .inl rfl | exact .inr rfl) pe_int)
      (pss_cons (ps_set (i := 3) sc__ended_ahead.nd rfl (by first | exact .inl rfl | exact .inr rfl) (pe_callB call_len_seq (by rfl) T.z_len (by decide +kernel) (pa_cons (pv 0) pa_nil)))
      (pss_cons (ps_while PassesOwn.never (pt_cmpR op_lt (pv 2) (pv 3) (nomark _))
      (pss_cons (ps_set (i := 4) sc__ended_ahead.nd rfl (by first | exact .inl rfl | exact .inr rfl) (pe_op op_fdiv (pe_op op_add (pv 2) (pv 3)) pe_int))
      (pss_one (ps_if (pt_cmpR op_lt (pe_ix ix_seq (pe_ix ix_seq (pv 0) (pv 4) (fun _ _ => rfl)) pe_int (fun _ _ => rfl)) (pv 1) (nomark _)) (pss_one (ps_set (i := 2) sc__ended_ahead.nd rfl (by first | exact .inl rfl | exact .inr rfl) (pe_op op_add (pv 4) pe_int))) (pss_one (ps_set (i := 3) sc__ended_ahead.nd rfl (by first | exact .inl rfl | exact .inr rfl) (pv 4)))))))
      (pss_one (ps_ret (pv 2)))))), ?_⟩
  have el := hl.len
  refine ⟨_, rfl, a, us, rfl, .inr (SqT.of ha), ?_⟩
  refine ⟨fun n σ H1 => ∃ (i j : Nat) (y4 : Option V), σ = [some (.ref a), some (.int d), some (.int i), some (.int j), y4] ∧ H1 = H ∧ i ≤ j ∧ j ≤ l.length ∧
      (∀ k p, k < i → l[k]? = some p → p.2 < d) ∧ (∀ k p, j ≤ k → l[k]? = some p → d ≤ p.2) ∧ n = j - i,
    ⟨_, 0, us.length, none, rfl, rfl, Nat.zero_le _, by omega, fun k p z => by omega, fun k p z hk => ?_, rfl⟩, ?_⟩
  · have : k < l.length := (List.getElem?_eq_some_iff.mp hk).1
    omega
  rintro n σ H1 ⟨i, j, y4, rfl, rfl, hij, hj, h1, h2, rfl⟩
  refine ⟨_, rfl, _, rfl, _, _, rfl, rfl, _, rfl, ?_⟩
  by_cases c : i < j
  · refine ifT (by omega) ?_
    refine ⟨fun σ' H' => ∃ m' : Nat, m' < j - i ∧ ∃ (i j : Nat) (y4 : Option V), σ' = [some (.ref a), some (.int d), some (.int i), some (.int j), y4] ∧ H' = H1 ∧ i ≤ j ∧ j ≤ l.length ∧
      (∀ k p, k < i → l[k]? = some p → p.2 < d) ∧ (∀ k p, j ≤ k → l[k]? = some p → d ≤ p.2) ∧ m' = j - i, fun σ' H' z => z, ?_⟩
    refine ⟨_, rfl, _, rfl, _, _, rfl, rfl, _, _, rfl, rfl, ⟨by decide, by decide⟩, ?_⟩
    obtain ⟨k, hk⟩ : ∃ k : Nat, k = (i + j) / 2 := ⟨_, rfl⟩
    have ek : ((i : Int) + (j : Int)) / 2 = (k : Int) := by omega
    have hk1 : i ≤ k := by omega
    have hk2 : k < j := by omega
    have hk3 : k < us.length := by omega
    obtain ⟨p, hp1, tp, etp, hp⟩ := hl.get (List.getElem?_eq_getElem hk3)
    have ga : atI us (((i : Int) + (j : Int)) / 2) = some (.ref tp) := by
      rw [ek]
      exact atI_nat (by rw [← etp]; exact List.getElem?_eq_getElem hk3)
    refine ⟨_, rfl, _, rfl, .inr (.inl ⟨a, us, _, _, rfl, rfl, SqT.of ha, ga, .inr (.inl ⟨tp, _, 1, _, rfl, rfl, SqT.of hp, atI_nat (j := 1) rfl, ?_⟩)⟩)⟩
    refine ⟨_, rfl, _, _, rfl, rfl, _, rfl, ?_⟩
    by_cases c2 : p.2 < d
    · refine ifT c2 ?_
      refine ⟨_, rfl, _, _, rfl, rfl, ?_⟩
      refine ⟨_, (by omega : j - (k + 1) < j - i), k + 1, j, some (.int (((i : Int) + (j : Int)) / 2)), ?_, rfl, by omega, hj, fun m r hm hr' => ?_, h2, rfl⟩
      · show [some (V.ref a), some (V.int d), some (V.int (((i : Int) + (j : Int)) / 2 + 1)), some (V.int j), some (V.int (((i : Int) + (j : Int)) / 2))] = _
        rw [ek]
        rfl
      · rcases Nat.lt_or_ge m k with z | z
        · have hl' : m < l.length := (List.getElem?_eq_some_iff.mp hr').1
          have := rl.lt z hr' hp1
          have := rl.val p (List.mem_of_getElem? hp1)
          omega
        · have : m = k := by omega
          subst this
          rw [hp1] at hr'
          cases hr'
          exact c2
    · refine ifF c2 ?_
      refine ⟨_, rfl, ?_⟩
      refine ⟨_, (by omega : k - i < j - i), i, k, some (.int (((i : Int) + (j : Int)) / 2)), ?_, rfl, hk1, by omega, h1, fun m r hm hr' => ?_, rfl⟩
      · show [some (V.ref a), some (V.int d), some (V.int i), some (V.int (((i : Int) + (j : Int)) / 2)), some (V.int (((i : Int) + (j : Int)) / 2))] = _
        rw [ek]
      · rcases Nat.lt_or_ge k m with z | z
        · have := rl.lt z hp1 hr'
          have := rl.val r (List.mem_of_getElem? hr')
          omega
        · have : m = k := by omega
          subst this
          rw [hp1] at hr'
          cases hr'
          omega
  · refine ifF (by omega) ?_
    have eij : i = j := by omega
    subst eij
    exact ⟨_, rfl, q i (by omega) h1 h2⟩
theorem ok_has (T : Txt K mg ad fds cs) : FnOk P w K mg base CX0 2 (ad 29) (fds 29) ["one", "day"] spHas := by
  refine T.F_has.ok sc_has (fun vs H Q E h => ?_) (fun cdv A outer s H vs Q E hr h => ?_)
  · obtain ⟨a, l, d, lo, rfl, _⟩ := h
    rfl
  obtain ⟨a, l, d, lo, rfl, ⟨us, ha, hl⟩, rl, z1, q⟩ := h
  refine ⟨_, (pss_cons (ps_set (i := 2) sc_has.nd rfl (by first | exact .inl rfl | exact .inr rfl) (pe_call (ok__ended_ahead T) (hr.mono (by decide)) rfl T.g__ended_ahead T.F__ended_ahead.kp (bi__ended_ahead T) .nil pass0 (pa_cons (pv 0) (pa_cons (pv 1) pa_nil))))
      (pss_one (ps_ret (pe_and (pe_cmpR op_lt (pv 2) (pe_callB call_len_seq (by rfl) T.z_len (by decide +kernel) (pa_cons (pv 0) pa_nil)) (nomark _)) (pe_one (pe_cmpR op_le (pe_ix ix_seq (pe_ix ix_seq (pv 0) (pv 2) (fun _ _ => rfl)) pe_int (fun _ _ => rfl)) (pv 1) (nomark _))))))), ?_⟩
  have el := hl.len
  refine ⟨_, rfl, _, rfl, ?_⟩
  refine ⟨a, l, d, lo, rfl, ⟨us, ha, hl⟩, rl, z1, fun i hi h1 h2 => ?_⟩
  have fin := has_end rl h1 h2
  refine ⟨_, rfl, _, rfl, a, us, rfl, .inr (SqT.of ha), _, _, rfl, rfl, _, rfl, ?_⟩
  by_cases c2 : i < us.length
  · refine ifT (by omega) ?_
    obtain ⟨p, hp1, tp, etp, hp⟩ := hl.get (List.getElem?_eq_getElem c2)
    have ga : atI us (i : Int) = some (.ref tp) := atI_nat (by rw [← etp]; exact List.getElem?_eq_getElem c2)
    refine ⟨_, rfl, _, rfl, .inr (.inl ⟨a, us, _, _, rfl, rfl, SqT.of ha, ga, .inr (.inl ⟨tp, _, 0, _, rfl, rfl, SqT.of hp, atI_nat (j := 0) rfl, ?_⟩)⟩)⟩
    refine ⟨_, rfl, _, _, rfl, rfl, ?_⟩
    have e : decide (Mem l d) = decide (p.1 ≤ d) := decide_eq_decide.mpr (fin.trans ⟨fun ⟨r, h3, h4⟩ => by
      rw [hp1] at h3
      cases h3
      exact h4, fun h4 => ⟨p, hp1, h4⟩⟩)
    rw [e] at q
    exact q
  · refine ifF (by omega) ?_
    have e : decide (Mem l d) = false := decide_eq_false fun z => by
      obtain ⟨p, h3, _⟩ := fin.mp z
      have := (List.getElem?_eq_some_iff.mp h3).1
      omega
    rw [e] at q
    exact q
end
end Yj
set_option Elab.async false
set_option linter.all false
set_option maxRecDepth 100000
set_option maxHeartbeats 4000000
set_option pp.maxSteps 1500
namespace Yj
open PySem PySem.Spec PyProof.Rows L2 RZ
/-! ### is_span -/
/-- a span, of anything; the items of a tuple stand in the heap -/
def SpanV (H : Hp) (x : V) (k : Bool) : Prop :=
  (Pl H x ∧ k = false ∧ ∀ a, x = .ref a → ∃ xs, H a = some (.lst xs)) ∨
  ∃ a xs, x = .ref a ∧ H a = some (.tup xs) ∧ ((xs.length ≠ 2 ∧ k = false) ∨ ∃ u v, xs = [u, v] ∧ Pl H u ∧ Pl H v ∧ k = (isD u && isD v && (match u, v with | .int i, .int j => decide (i ≤ j) | _, _ => false)))
end Yj
set_option Elab.async false
set_option linter.all false
set_option maxRecDepth 100000
set_option maxHeartbeats 4000000
set_option pp.maxSteps 1500
namespace Yj
open PySem PySem.Spec PyProof.Rows L2 RZ
section
variable {P : Program} {w : World} {K : PySem.W.Frag} {mg : Str → Option Value} {base : Heap} {ad : Nat → Addr} {fds : Nat → FuncData} {cs : Nat → Value}
def spSpan : Sp := fun vs H Q _ => ∃ x k, vs = [x] ∧ SpanV H x k ∧ Q (.bl k) H
theorem ok_is_span (T : Txt K mg ad fds cs) : FnOk P w K mg base CX0 3 (ad 20) (fds 20) ["thing"] spSpan := by
  refine T.F_is_span.ok sc_is_span (fun vs H Q E h => ?_) (fun cdv A outer s H vs Q E hr h => ?_)
  · obtain ⟨x, k, rfl, _⟩ := h
    rfl
  obtain ⟨x, k, rfl, hx, q⟩ := h
  refine ⟨_, (pss_cons (ps_if (PW.pt (pw_or (pt_not (pt_val (pe_callB call_isi (by rfl) T.z_isinstance (by decide +kernel) (pa_cons (pv 0) (pa_cons (pe_bltn (v := .ty "tuple") (u := .type "tuple") (by rfl) T.z_tuple (by decide +kernel) rfl) pa_nil))))) (pw_or1 (pt_cmpR op_ne (pe_callB call_len_seq (by rfl) T.z_len (by decide +kernel) (pa_cons (pv 0) pa_nil)) pe_int (nomark _))))) (pss_one (ps_ret pe_bl)) pss_nil)
      (pss_cons (ps_asg (pv 0) (pg_tup rfl (pgs_cons (pg_name (i := 1) sc_is_span.nd rfl (by first | exact .inl rfl | exact .inr rfl)) (pgs_cons (pg_name (i := 2) sc_is_span.nd rfl (by first | exact .inl rfl | exact .inr rfl)) pgs_nil))))
      (pss_one (ps_ret (pe_and (pe_call (ok_is_day T) (hr.mono (by decide)) rfl T.g_is_day T.F_is_day.kp (bi_is_day T) .nil pass0 (pa_cons (pv 1) pa_nil)) (pe_and (pe_call (ok_is_day T) (hr.mono (by decide)) rfl T.g_is_day T.F_is_day.kp (bi_is_day T) .nil pass0 (pa_cons (pv 2) pa_nil)) (pe_one (pe_cmpR op_le (pv 1) (pv 2) (nomark _))))))))), ?_⟩
  rcases hx with ⟨hx, rfl, hl⟩ | ⟨a, xs, rfl, ha, hx⟩
  · cases hx with
    | non => exact ⟨_, rfl, _, _, _, _, false, rfl, ClsV.ty _, TyX.base .non, kit_ty (by decide +kernel), _, rfl, iteT (iteT q)⟩
    | bl b => exact ⟨_, rfl, _, _, _, _, false, rfl, ClsV.ty _, TyX.base (.bl b), kit_ty (by decide +kernel), _, rfl, iteT (iteT q)⟩
    | int i => exact ⟨_, rfl, _, _, _, _, false, rfl, ClsV.ty _, TyX.base (.int i), kit_ty (by decide +kernel), _, rfl, iteT (iteT q)⟩
    | str x => exact ⟨_, rfl, _, _, _, _, false, rfl, ClsV.ty _, TyX.base (.str x), kit_ty (by decide +kernel), _, rfl, iteT (iteT q)⟩
    | lst h => exact ⟨_, rfl, _, _, _, _, false, rfl, ClsV.ty _, TyX.base (.lst h), kit_ty (by decide +kernel), _, rfl, iteT (iteT q)⟩
    | @tup a xs h =>
      obtain ⟨ys, e⟩ := hl a rfl
      rw [h] at e
      cases e
  · refine ⟨_, rfl, _, _, _, _, true, rfl, ClsV.ty _, TyX.base (.tup ha), kit_ty (by decide +kernel), _, rfl, iteF ?_⟩
    refine ⟨_, rfl, a, xs, rfl, .inr (SqT.of ha), rfl, _, rfl, ?_⟩
    rcases hx with ⟨hn, rfl⟩ | ⟨u, v, rfl, hu, hv, rfl⟩
    · have e : decide (V.int (xs.length : Nat) = V.int 2) = false := decide_eq_false fun z => hn (by
        have := V.int.inj z
        omega)
      rw [e]
      exact iteT q
    · refine iteF ?_
      refine ⟨_, rfl, a, _, rfl, SqT.of ha, rfl, _, _, rfl, _, _, rfl, rfl, ?_⟩
      refine ⟨_, rfl, u, rfl, hu, _, rfl, ?_⟩
      cases eu : isD u with
      | false =>
        rw [eu] at q
        exact iteF q
      | true =>
        refine iteT ⟨_, rfl, v, rfl, hv, _, rfl, ?_⟩
        cases ev : isD v with
        | false =>
          rw [eu, ev] at q
          exact iteF q
        | true =>
          rw [eu, ev] at q
          obtain ⟨i, rfl⟩ : ∃ i, u = .int i := by
            cases u <;> first | exact ⟨_, rfl⟩ | cases eu
          obtain ⟨j, rfl⟩ : ∃ j, v = .int j := by
            cases v <;> first | exact ⟨_, rfl⟩ | cases ev
          exact iteT ⟨_, rfl, _, rfl, _, _, rfl, rfl, q⟩
end
end Yj
set_option Elab.async false
set_option linter.all false
set_option maxRecDepth 100000
set_option maxHeartbeats 4000000
set_option pp.maxSteps 1500
/-! Over tuples: enumerate, sorted; an item of a list as the left side of an augmented store. -/
namespace PySem
open Sem (wp)
open AutoSeq1 (wpAny_loadPart')
theorem meets_enumT (l : Addr) (o : Obj) (items : Array Value) (n : Nat) (hc : o.cls = .type "tuple") (hd : o.data = .seq items n) :
    Meets (Builtin.«enumerate.__new__» ⟨[.type "enumerate", .ref l], []⟩) (fun _ R s => s.heap.get? l = some o ∧
      R (.ok (.ret (.ref (s.heap.push { cls := .type "tuple_iterator", data := .fields #[.ref l, .int 0 0] }).objs.size)))
        { s with heap := (s.heap.push { cls := .type "tuple_iterator", data := .fields #[.ref l, .int 0 0] }).push { cls := .type "enumerate", data := .fields #[.none, .bool false, .ref s.heap.objs.size, rawInt 0, .none, .none] } }) :=
  .of_wp fun prog w A R s h => by
    obtain ⟨hp, g, d, tk, os⟩ := s
    obtain ⟨hl, h⟩ := h
    have sub := sub_enumerate
    have hL : Heap.IsTuple (Shared.heap ⟨hp, g, d, tk, os⟩) l items := ⟨o, hl, hc, n, hd⟩
    wp_walk using wpAny_loadPart' hl
    refine wpAny_stack_any fun st => wpAny_pure ?_
    split
    · rename_i c _ _ _ _ _
      cases (c == Value.type "enumerate") <;> (wp_walk using wpAny_loadPart' hl, wpAny_pyIter_tuple hL; exact ⟨_, rfl, h⟩)
    · (wp_walk using wpAny_loadPart' hl, wpAny_pyIter_tuple hL); exact ⟨_, rfl, h⟩
theorem call_enumT {prog : Program} {w : World} {A : Around} {E : Value → Shared → Prop} {s : Shared} {l : Addr} {items : Array Value} {Q : Value → Shared → Prop} (hL : s.heap.IsTuple l items)
    (h : ∀ h', IsEnum h' (s.heap.objs.size + 1) s.heap.objs.size 0 .none → h'.IsTupleIter s.heap.objs.size l 0 → h'.objs.size = s.heap.objs.size + 2 →
      (∀ b o, s.heap.get? b = some o → h'.get? b = some o) → Q (.ref (s.heap.objs.size + 1)) { s with heap := h' }) :
    wpAny (model prog w) A (call (.type "enumerate") [.ref l]) Q E s := by
  obtain ⟨o, hl, hc, n, hd⟩ := hL
  refine callType_new F.called_enumerate (by decide) (F.typeCall_enumerate_1 _) (F.newCall_enumerate_1 _) (fun obj => F.args_object_init_2 obj _) F.entry_enumerate_new (meets_enumT l o items n hc hd) ⟨hl, ?_⟩
  have hz : (s.heap.push { cls := .type "tuple_iterator", data := .fields #[.ref l, .int 0 0] }).objs.size = s.heap.objs.size + 1 := Heap.size_push ..
  show _ ∧ _
  rw [hz]
  have he : IsEnum ((s.heap.push { cls := .type "tuple_iterator", data := .fields #[.ref l, .int 0 0] }).push
      { cls := .type "enumerate", data := .fields #[.none, .bool false, .ref s.heap.objs.size, rawInt 0, .none, .none] }) (s.heap.objs.size + 1) s.heap.objs.size 0 .none := by
    have q := Heap.get?_push_size (s.heap.push { cls := .type "tuple_iterator", data := .fields #[.ref l, .int 0 0] })
      (o := { cls := .type "enumerate", data := .fields #[.none, .bool false, .ref s.heap.objs.size, rawInt 0, .none, .none] }) rfl
    rw [hz] at q
    exact q
  refine ⟨⟨_, he, rfl⟩, h _ he ⟨_, Heap.get?_push_of_some _ (Heap.get?_push_size _ rfl), rfl, rfl⟩ (by rw [Heap.size_push, hz]) fun b o x => ?_⟩
  exact Heap.get?_push_of_some _ (Heap.get?_push_of_some _ x)
end PySem
namespace SrtO
open PySem PyProof.Rows Srt
section
variable {prog : Program} {w : World} {A : Around} {E : Value → Shared → Prop} {s : Shared}
/-- all of a tuple collected into a new list -/
theorem collect_tup {l : Addr} {o : Obj} {n : Nat} {vs : List Value} {Q : List Value → Shared → Prop} (ho : s.heap.get? l = some o) (hc : o.cls = .type "tuple") (hd : o.data = .seq vs.toArray n) (hz : vs.length ≤ sizeLine)
    (h : Q vs { s with heap := (s.heap.push (seqObj "list" #[] 0)).update s.heap.objs.size (Obj.mapSeq (· ++ vs.toArray)) }) : wpAny (model prog w) A (collect (.ref l)) Q E s := by
  have hS : (s.heap.push (seqObj "list" #[] 0)).get? s.heap.objs.size = some (seqObj "list" #[] 0) := Heap.get?_push_size _ rfl
  have hS2 := Heap.get?_update_self (Obj.mapSeq (· ++ vs.toArray)) hS rfl
  have ho2 : (s.heap.push (seqObj "list" #[] 0)).get? l = some o := Heap.get?_push_of_some _ ho
  have here : ∀ (r : Result) (s' : Shared), (r = Except.ok (Flow.ret (.ref s.heap.objs.size)) ∧ s' = { s with heap := (s.heap.push (seqObj "list" #[] 0)).update s.heap.objs.size (Obj.mapSeq (· ++ vs.toArray)) }) →
      r = Except.ok (.ret (.ref s.heap.objs.size)) ∧ wpAny (model prog w) A (do
        let o ← load s.heap.objs.size
        match o.data with
        | .seq xs _ => pure xs.toList
        | _ => unsupported "internal:collect") Q E s' := by
    rintro r s' ⟨rfl, rfl⟩
    refine ⟨rfl, wpAny_bind (wpAny_load hS2 ?_)⟩
    show wpAny _ _ (pure ((#[] : Array Value) ++ vs.toArray).toList) Q E _
    have e : ((#[] : Array Value) ++ vs.toArray).toList = vs := by simp
    rw [e]
    exact wpAny_pure h
  unfold collect
  refine wpAny_bind (wpAny_runValue (codeAny_builtin F.entry_proto_collect ?_))
  rw [Around.under_plainId F.plain_proto_collect _]
  show wpAny _ A.in1 (newList [] >>= fun k => again (.builtin "list.__iadd__" ⟨[k, .ref l], []⟩)) _ _ s
  refine wpAny_bind (wpAny_newObj_type (wpAny_pure ⟨plainId_quiet F.plain_list_iadd _, codeAny_builtin F.entry_list_iadd ?_⟩))
  rw [Around.under_plainId F.plain_list_iadd _]
  refine wpAny_mono (wpAny_extend_seq (A := A) (s := { s with heap := s.heap.push (seqObj "list" #[] 0) })
    (R := fun r s' => r = .ok (.ret (.ref s.heap.objs.size)) ∧ s' = { s with heap := (s.heap.push (seqObj "list" #[] 0)).update s.heap.objs.size (Obj.mapSeq (· ++ vs.toArray)) })
    s.heap.objs.size l (.ref s.heap.objs.size) 0 (.inr rfl) hS ho2 hc hd ⟨rfl, rfl⟩ (by rw [List.size_toArray]; exact hz)) (fun fin s' hf => ?_) (fun e s' hf => nomatch hf.1)
  cases fin with
  | done f =>
    obtain ⟨e, z⟩ := here _ _ hf
    cases e
    exact z
  | again c' =>
    refine ⟨hf.1, codeAny_mono hf.2 fun r s2 hr => ?_⟩
    obtain ⟨e, z⟩ := here _ _ hr
    subst e
    exact z
/-- sorted(t), t a tuple of pairs of ints -/
theorem sorted_tupO {l : Addr} {o : Obj} {n : Nat} {vs : List Value} {k : Value → Int × Int} {Q : Value → Shared → Prop} (ho : s.heap.get? l = some o) (hc : o.cls = .type "tuple") (hd : o.data = .seq vs.toArray n) (hz : vs.length ≤ sizeLine) (hp : ∀ v ∈ vs, IsPair s.heap v (k v).1 (k v).2)
    (h : ∀ (h' : Heap) (d : Addr) (out : List Value), Srtd (fun v u => lexB (k v) (k u)) out → Stb (fun v u => lexB (k v) (k u)) out vs → (∀ b o, s.heap.get? b = some o → h'.get? b = some o) → s.heap.objs.size ≤ d → (∃ n, h'.get? d = some (seqObj "list" out.toArray n)) → Q (.ref d) { s with heap := h' }) :
    wpAny (model prog w) A (call (.builtin "sorted") [.ref l]) Q E s := by
  refine Calls.call_function_entry kind_sorted plain_sorted entry_sorted (args_sorted1 _) ?_
  unfold Builtin.«sorted»
  refine wpAny_bind (m := checkCount "sorted" 1 1 _) (wpAny_pure ?_)
  refine wpAny_bind (collect_tup ho hc hd hz (wpAny_bind (wpAny_newList ?_ hz)))
  have hsz : ((s.heap.push (seqObj "list" #[] 0)).update s.heap.objs.size (Obj.mapSeq (· ++ vs.toArray))).objs.size = s.heap.objs.size + 1 := by
    rw [Heap.size_update]
    exact size_push' _ _
  have old : ∀ b o, s.heap.get? b = some o → b ≠ s.heap.objs.size + 1 ∧ (((s.heap.push (seqObj "list" #[] 0)).update s.heap.objs.size (Obj.mapSeq (· ++ vs.toArray))).push (seqObj "list" vs.toArray 0)).get? b = some o := fun b o q => by
    have hlt : b < s.heap.objs.size := Heap.lt_size q
    refine ⟨Nat.ne_of_lt (Nat.lt_succ_of_lt hlt), Heap.get?_push_of_some _ ((Heap.get?_update_ne _ _ _ _ (Nat.ne_of_lt hlt)).trans (Heap.get?_push_of_some _ q))⟩
  have hoL : (((s.heap.push (seqObj "list" #[] 0)).update s.heap.objs.size (Obj.mapSeq (· ++ vs.toArray))).push (seqObj "list" vs.toArray 0)).get? (s.heap.objs.size + 1) = some (seqObj "list" vs.toArray 0) := by
    rw [← hsz]
    exact Heap.get?_push_size _ rfl
  have hS : 2 ≤ vs.length → SortableO prog w A.in1.in1 { s with heap := ((s.heap.push (seqObj "list" #[] 0)).update s.heap.objs.size (Obj.mapSeq (· ++ vs.toArray))).push (seqObj "list" vs.toArray 0) } (s.heap.objs.size + 1) vs fun v u => lexB (k v) (k u) := fun h2 => by
    refine pairs_sortableO (s := { s with heap := ((s.heap.push (seqObj "list" #[] 0)).update s.heap.objs.size (Obj.mapSeq (· ++ vs.toArray))).push (seqObj "list" vs.toArray 0) }) (by omega) (fun v hm => (hp v hm).keeps fun b o e _ => (old b o e).2) fun o e c => ?_
    have e' := e.symm.trans hoL
    cases e'
    exact absurd (Value.type.inj c) (by decide)
  show wpAny _ _ _ _ _ { s with heap := ((s.heap.push (seqObj "list" #[] 0)).update s.heap.objs.size (Obj.mapSeq (· ++ vs.toArray))).push (seqObj "list" vs.toArray 0) }
  rw [hsz]
  refine wpAny_bind (wpAny_holding (wpAny_call_entry slot_list_sort ⟨_, hoL, rfl⟩ entry_list_sort (list_sort_ord (swo_lex k) hoL hz hS fun out hs hb => ⟨_, rfl, ?_⟩) (args_list_sort _)))
  have fin := h (sortedAll s.heap vs out.toArray) (s.heap.objs.size + 1) out hs hb (fun b o e => sortedAll_old e) (Nat.le_succ _) (sortedAll_at s.heap vs out.toArray)
  exact wpAny_pure ⟨_, rfl, fin⟩
end
end SrtO
namespace Yj
open PySem PySem.Spec PyProof.Rows L2
/-- a row's spans in either a list or a tuple -/
def RowA (H : Hp) (a : Addr) (us : List V) : Prop := H a = some (.lst us) ∨ H a = some (.tup us)
def rSortedPA : List V → Hp → VK → Prop := fun vs H Q => ∃ (a : Addr) (xs : List V) (k : V → Int × Int), vs = [V.ref a] ∧ RowA H a xs ∧ (∀ x ∈ xs, ∃ t, x = V.ref t ∧ H t = some (.tup [.int (k x).1, .int (k x).2])) ∧
  ∀ ys p, SrtO.Srtd (ltP k) ys → SrtO.Stb (ltP k) ys xs → H p = none → Q (.ref p) (upd H p (.lst ys))
section
variable {X : Cx}
theorem cr_sortedPA : CallR X (.builtin "sorted") rSortedPA := by
  intro pins s σ H vs us Q I r h
  obtain ⟨a, xs, k, rfl, hs, hx, q⟩ := h
  rcases hs with hs | hs
  · exact cr_sortedPO pins s σ H _ us Q I r ⟨a, xs, k, rfl, SqL.of hs, hx, q⟩
  obtain ⟨its, rv, ⟨o, ho, hc, n, hd⟩, hz⟩ := I.tuple (SqT.of (K := X.K) hs)
  obtain ⟨u, rfl, ru⟩ := vals1 r
  obtain rfl : u = Value.ref a := ru
  obtain ⟨e1, e2⟩ := refs_back rv fun x m => (hx x m).imp fun t h => h.1
  have hlen := rv.length
  refine SrtO.sorted_tupO (k := fun u => k (backV u)) ho hc hd (by omega) (fun v hv => ?_) fun h' d out h1 h2 kp hfar hn => ?_
  · obtain ⟨t, rfl⟩ := e2 v hv
    have hm : V.ref t ∈ xs := by
      rw [e1]
      exact List.mem_map.mpr ⟨_, hv, rfl⟩
    obtain ⟨t', e, ht⟩ := hx _ hm
    cases e
    obtain ⟨_, its2, r2, o2, ho2, hc2, n2, hd2⟩ := I.hok _ _ ht
    obtain ⟨u1, u2, rfl, ⟨t1, rfl⟩, ⟨t2, rfl⟩⟩ := vals2 r2
    exact ⟨t, o2, t1, t2, n2, rfl, ho2, hc2, hd2⟩
  · have h3 : ∀ u ∈ out, ∃ a, u = Value.ref a := fun u hu => e2 u (h2.perm.mem_iff.mp hu)
    obtain ⟨n', hn⟩ := hn
    have hb : SrtO.Stb (ltP k) (out.map backV) xs := by
      have z := SrtO.Stb.map (ltP_swo k) backV h2
      rw [e1]
      exact z
    have hz2 : (out.map backV).length ≤ sizeLine := by
      have z := hb.perm.length_eq
      omega
    exact ⟨.ref d, upd H d (.lst (out.map backV)), I.laid (t' := s.toks) kp hfar ⟨hz2, out, n', vals_back h3, hn⟩, rfl, q _ d (SrtO.srtd_map h1) hb (I.hok.fresh hfar)⟩
/-- a list's item at a place from the left, by values -/
theorem pget_list : PGet X (fun o i H Q => ∃ p xs, ∃ k : Nat, ∃ v, o = .ref p ∧ i = .int k ∧ SqL X.K H p xs ∧ xs[k]? = some v ∧ Q v H) := by
  intro pins s σ H o i ov iv Q I ro ri h
  obtain ⟨p, xs, k, v, rfl, rfl, hs, hv, q⟩ := h
  obtain rfl : ov = Value.ref p := ro
  obtain ⟨t, rfl⟩ := ri
  obtain ⟨its, r, pl, hz⟩ := I.list hs
  obtain ⟨u, hu, ru⟩ := r.get hv
  have hk : k < xs.length := (List.getElem?_eq_some_iff.mp hv).1
  have hn := line63
  exact wpAny_getItem_list pl.isList (by omega) (by omega) (by simpa using hu) ⟨v, H, I, ru, q⟩
end
end Yj
set_option Elab.async false
set_option linter.all false
set_option maxRecDepth 100000
set_option maxHeartbeats 4000000
set_option pp.maxSteps 1500
namespace Yj
open PySem PySem.Spec PyProof.Rows L2
/-! ### enumerate over a tuple -/
/-- the tuple at a, each item in a new pair with its place -/
def IteT (K : PySem.W.Frag) (a : Addr) : It :=
  ⟨fun i H => ∃ (xs : List V) (x : V), SqT K H a xs ∧ xs[i]? = some x, fun i H v H' => ∃ T x, v = .ref T ∧ H T = none ∧ H' = upd H T (.tup [.int (i : Nat), x]) ∧ ∀ xs, SqT K H a xs → xs[i]? = some x, fun i H => ∃ xs : List V, SqT K H a xs ∧ xs.length = i⟩
theorem kinds_ne {h : Heap} {a b : Addr} {o u : Obj} (ha : h.get? a = some o) (hb : h.get? b = some u) (hc : o.cls ≠ u.cls) : a ≠ b := fun z => by
  subst z
  rw [ha] at hb
  cases hb
  exact hc rfl
theorem turn_enumT {P : Program} {w : World} {K : PySem.W.Frag} {elts : List Expr} {kk : Nat} {tpos : Pos} (a e it : Addr) :
    Turn P w K (.Tuple elts kk tpos) (IteT K a) [e, it] e (fun i h => (∃ old, IsEnum h e it ((i : Nat) : Int) old) ∧ h.IsTupleIter it a i ∧ e ≠ it) where
  mem := by simp
  obj := fun i h st b hb => by
    obtain ⟨⟨old, he⟩, ⟨o, ho, hc, hd⟩, _⟩ := st
    rcases (by simpa using hb : b = e ∨ b = it) with z | z
    · rw [z]
      exact ⟨_, he, fun v q => nomatch q⟩
    · rw [z]
      exact ⟨o, ho, fun v q => by rw [hd] at q; cases q⟩
  keep := fun i h h' st k => by
    obtain ⟨⟨old, he⟩, hi, hne⟩ := st
    exact ⟨⟨old, k e (by simp) _ he⟩, hi.at fun o q => k it (by simp) o q, hne⟩
  item := by
    intro X hP hw hK hc i pins s σ H E I hf st hg
    subst hP hw hK
    obtain ⟨⟨old, he⟩, hit, hne⟩ := st
    obtain ⟨xs, x, hq, hx⟩ := hg
    obtain ⟨its, rv, p, hz⟩ := I.tuple hq
    obtain ⟨u, hu, ru⟩ := rv.get hx
    have hel : e < s.heap.objs.size := Heap.lt_size he
    have hil : it < s.heap.objs.size := by
      obtain ⟨_, q, _⟩ := hit
      exact Heap.lt_size q
    obtain ⟨ot, hot, hct, hdt⟩ := id p
    obtain ⟨oi, hoi, hci, hdi⟩ := id hit
    have nai : a ≠ it := kinds_ne hot hoi (by rw [hct, hci]; intro z; exact absurd (Value.type.inj z) (by decide))
    have nae : a ≠ e := kinds_ne hot he (by rw [hct]; intro z; exact absurd (Value.type.inj z) (by decide))
    have hh : X.A.in1.handled = none := I.ok.hd hc
    refine wpAny_pyNext_enum_itemD (Draws.tuple hh it a nai its.toArray) he ⟨hit, p⟩ (i := i) ?_ hne (by simp [hne, Ne.symm nae]) fun y h' tk hy ho hit' hT hsz hk => ?_
    · have := (List.getElem?_eq_some_iff.mp hu).1
      simpa using this
    have ey : y = u := by
      have : its.toArray[i]? = some y := hy
      rw [List.getElem?_toArray, hu] at this
      exact (Option.some.inj this).symm
    subst ey
    refine ⟨_, rfl, wpAny_letOwnedTupleGo_enum (s := { s with heap := h', toks := tk + 1 }) ho fun h'' he' sb => ?_⟩
    have hT2 : h''.get? s.heap.objs.size = some { cls := .type "tuple", data := .seq #[.int i tk, y] } := (sb.2 _ (Nat.ne_of_gt hel)).trans hT
    have new : ObjOk X.prog X.w (upd H s.heap.objs.size (.tup [.int (i : Nat), x])) h'' s.heap.objs.size (.tup [.int (i : Nat), x]) :=
      ⟨by show 2 ≤ sizeLine; decide, [.int i tk, y], .cons ⟨_, rfl⟩ (.cons ru .nil), ⟨_, hT2, rfl, _, rfl⟩⟩
    have I1 : Inv X pins σ (upd H s.heap.objs.size (.tup [.int (i : Nat), x])) { s with heap := h'', toks := tk + 1 } :=
      I.turnedNew (ch := [e, it]) (fun b ob hb q => (sb.2 b (fun z => hb (by simp [z]))).trans (hk b ob (fun z => hb (by simp [z])) (fun z => hb (by simp [z])) q)) hf (Nat.le_refl _) new
    refine ⟨.ref s.heap.objs.size, _, I1, rfl, ⟨_, x, rfl, I.hok.fresh (Nat.le_refl _), rfl, fun ys hy => by rw [I.tuple_inj hy hq]; exact hx⟩, ⟨⟨y, ?_⟩, hit'.1.at fun o q => (sb.2 it (Ne.symm hne)).trans q, hne⟩, fun b hb => ?_⟩
    · have e1 : ((i + 1 : Nat) : Int) = (i : Int) + 1 := by omega
      rw [e1]
      exact he'
    · have hb' : b < s.heap.objs.size := by
        rcases (by simpa using hb : b = e ∨ b = it) with z | z
        · rw [z]
          exact hel
        · rw [z]
          exact hil
      rw [upd_ne (Nat.ne_of_lt hb')]
      exact (hf b hb).1
  done := by
    intro X hP hw hK hc i pins s σ H E I hf st hg
    subst hP hw hK
    obtain ⟨⟨old, he⟩, hit, hne⟩ := st
    obtain ⟨xs, hq, hx⟩ := hg
    obtain ⟨its, rv, p, hz⟩ := I.tuple hq
    obtain ⟨f0, f1, f2, f3, f4, f5⟩ := hf it (by simp)
    obtain ⟨ot, hot, hct, hdt⟩ := id p
    obtain ⟨oi, hoi, hci, hdi⟩ := id hit
    have nai : a ≠ it := kinds_ne hot hoi (by rw [hct, hci]; intro z; exact absurd (Value.type.inj z) (by decide))
    have hh : X.A.in1.handled = none := I.ok.hd hc
    have hl := rv.length
    have ei : its.toArray.size = i := by
      rw [List.size_toArray]
      omega
    refine wpAny_pyNext_enum_endD (Draws.tuple hh it a nai its.toArray) he ?_ fun h' eb => ⟨rfl, I.turned (t' := s.toks) (fun b o hb q => eb b o hb q) f0 f1 f3 f4 f5⟩
    rw [ei]
    exact ⟨hit, p⟩
  self := fun A i s Q E st h => by
    obtain ⟨⟨_, he⟩, _⟩ := st
    exact wpAny_pyIter_enum he h
/-- a list or a tuple walked with places -/
def iEnumA (K : PySem.W.Frag) (ta : TA) : TI := fun σ H R => ta σ H fun vs H1 => ∃ a xs, vs = [.ref a] ∧ ((SqL K H1 a xs ∧ R (Ite K a) H1) ∨ (SqT K H1 a xs ∧ R (IteT K a) H1))
theorem pi_enumA {X : Cx} {e : Expr} {ta : TA} {p pos tpos : Pos} {elts : List Expr} {kk : Nat} (hg : Gl X "enumerate") (hm : X.mg "enumerate" = none) (ha : PA X [e] ta) (hs : starEach [e] X.env = [(false, eval e X.env)] := by rfl) :
    PI X (.Tuple elts kk tpos) (.Call (.Name "enumerate" p) [e] [] pos) (iEnumA X.K ta) := by
  refine ⟨fun pins s σ H R I h => ?_⟩
  refine Call_ (ld_blt I hg hm boot_enumerate (PyProof.Rows.callWith_type1 (thn (ha.run pos pins s σ H _ I h) fun us s1 ⟨vs, H1, I1, r1, q1⟩ => ?_) hs rfl))
  obtain ⟨a, xs, rfl, q⟩ := q1
  obtain ⟨u, rfl, ru⟩ := vals1 r1
  obtain rfl : u = Value.ref a := ru
  have fp : ∀ b ∈ [s1.heap.objs.size + 1, s1.heap.objs.size], FpOk X pins H1 b := fun b hb => by
    have hle : s1.heap.objs.size ≤ b := by
      rcases (by simpa using hb : b = s1.heap.objs.size + 1 ∨ b = s1.heap.objs.size) with z | z <;> omega
    exact I1.fpOk hle (I1.hok.fresh hle)
  rcases q with ⟨hq, q⟩ | ⟨hq, q⟩
  · obtain ⟨its, rv, p', hz⟩ := I1.list hq
    refine call_enumerate_list p'.isList fun h' he hit hsz hk => wpAny_pyIter_enum he ?_
    exact ⟨s1.heap.objs.size + 1, _, _, _, H1, rfl, I1.kept (t' := s1.toks) hk, turn_enum a (s1.heap.objs.size + 1) s1.heap.objs.size, ⟨⟨.none, he⟩, hit, Nat.succ_ne_self _⟩, fp, q⟩
  · obtain ⟨its, rv, p', hz⟩ := I1.tuple hq
    refine call_enumT p' fun h' he hit hsz hk => wpAny_pyIter_enum he ?_
    exact ⟨s1.heap.objs.size + 1, _, _, _, H1, rfl, I1.kept (t' := s1.toks) hk, turn_enumT a (s1.heap.objs.size + 1) s1.heap.objs.size, ⟨⟨.none, he⟩, hit, Nat.succ_ne_self _⟩, fp, q⟩
/-- the loop over them, by an invariant -/
theorem for_enumA {K : PySem.W.Frag} {xs : List V} {g : TG} {tb : TS} {D : Ends} {σ : L2.St} {H : Hp} {a : Addr} (hA : RowA H a xs) (Pv : Nat → L2.St → Hp → Prop) (h0 : Pv 0 σ H) (hl : ∀ i σ H', i ≤ xs.length → Pv i σ H' → Same H H')
    (hs : ∀ i x T σ H, xs[i]? = some x → Pv i σ H → H T = none → g (.ref T) σ (upd H T (.tup [.int (i : Nat), x])) fun σ2 H2 => tb { D with nx := Pv (i + 1), ct := Pv (i + 1), bk := D.nx } σ2 H2) (hd : ∀ σ H, Pv xs.length σ H → D.nx σ H) :
    ∃ a' xs, ([.ref a] : List V) = [.ref a'] ∧ ((SqL K H a' xs ∧ ∃ W : Nat → Nat → L2.St → Hp → Prop, (∃ m, W 0 m σ H) ∧ ∀ i m σ H, W i m σ H →
        ((Ite K a').stop i H ∧ D.nx σ H) ∨ ((Ite K a').go i H ∧ ∃ N : L2.St → Hp → Prop, (∀ σ' H', N σ' H' → ∃ m', m' < m ∧ W (i + 1) m' σ' H') ∧ ∀ x H', (Ite K a').yld i H x H' → g x σ H' fun σ2 H2 => tb { D with nx := N, ct := N, bk := D.nx } σ2 H2)) ∨
      (SqT K H a' xs ∧ ∃ W : Nat → Nat → L2.St → Hp → Prop, (∃ m, W 0 m σ H) ∧ ∀ i m σ H, W i m σ H →
        ((IteT K a').stop i H ∧ D.nx σ H) ∨ ((IteT K a').go i H ∧ ∃ N : L2.St → Hp → Prop, (∀ σ' H', N σ' H' → ∃ m', m' < m ∧ W (i + 1) m' σ' H') ∧ ∀ x H', (IteT K a').yld i H x H' → g x σ H' fun σ2 H2 => tb { D with nx := N, ct := N, bk := D.nx } σ2 H2))) := by
  refine ⟨a, xs, rfl, ?_⟩
  rcases hA with hA | hA
  · refine .inl ⟨SqL.of hA, fun i m σ H' => m = xs.length - i ∧ i ≤ xs.length ∧ Pv i σ H', ⟨xs.length, by simp, Nat.zero_le _, h0⟩, ?_⟩
    rintro i m σ H' ⟨rfl, hi, p⟩
    have st := hl i σ H' hi p
    have hS := SqL.of (K := K) (st _ _ hA)
    by_cases hlt : i < xs.length
    · refine .inr ⟨⟨xs, xs[i], hS, List.getElem?_eq_getElem hlt⟩, Pv (i + 1), fun σ' H2 p' => ⟨xs.length - (i + 1), by omega, rfl, hlt, p'⟩, fun x H2 y => ?_⟩
      obtain ⟨T, z, rfl, nT, rfl, hz⟩ := y
      exact hs i z T σ H' (hz xs hS) p nT
    · have e : i = xs.length := by omega
      subst e
      exact .inl ⟨⟨xs, hS, Nat.le_refl _⟩, hd σ H' p⟩
  · refine .inr ⟨SqT.of hA, fun i m σ H' => m = xs.length - i ∧ i ≤ xs.length ∧ Pv i σ H', ⟨xs.length, by simp, Nat.zero_le _, h0⟩, ?_⟩
    rintro i m σ H' ⟨rfl, hi, p⟩
    have st := hl i σ H' hi p
    have hS := SqT.of (K := K) (st _ _ hA)
    by_cases hlt : i < xs.length
    · refine .inr ⟨⟨xs, xs[i], hS, List.getElem?_eq_getElem hlt⟩, Pv (i + 1), fun σ' H2 p' => ⟨xs.length - (i + 1), by omega, rfl, hlt, p'⟩, fun x H2 y => ?_⟩
      obtain ⟨T, z, rfl, nT, rfl, hz⟩ := y
      exact hs i z T σ H' (hz xs hS) p nT
    · have e : i = xs.length := by omega
      subst e
      exact .inl ⟨⟨xs, hS, rfl⟩, hd σ H' p⟩
end Yj
set_option Elab.async false
set_option linter.all false
set_option maxRecDepth 100000
set_option maxHeartbeats 4000000
set_option pp.maxSteps 1500
namespace Yj
open PySem PySem.Spec PyProof.Rows L2 RZ
/-! ### a def that may raise, where nothing is handled -/
theorem Fun.okN {P : Program} {w : World} {K : PySem.W.Frag} {mg : Str → Option Value} {base : Heap} {x qual : Str} {st : Stmt} {f : Addr} {fd : FuncData} {N ps : List Str} {k : Nat} {sp : Sp} (F : Fun K x qual st f fd) (S : FnScope N ps (defScope st)) (len : ∀ vs H Q E, sp vs H Q E → vs.length = ps.length)
    (hbody : ∀ (cdv : Value) (A : Around) (outer : List Env) (s : Shared) (H : Hp) (vs : List V) (Q : VK) (E : XK), Room k (A.deeper (envOfC qual (defScope st) s.heap.objs.size f cdv)) → sp vs H Q E →
      ∃ t, PSs (cxOf (L2N.CX P w) P w K mg base N qual (defScope st) f cdv A outer s H E) (defBody st) t ∧ t { nx := fun _ H' => Q .non H', rt := Q } (start N vs) H) : FnOk P w K mg base (L2N.CX P w) (k + 1) f fd ps sp := by
  obtain ⟨oc, od, kV, doc, pm, an, cdv, ct, osl, rfl, lk, hcd⟩ := F.ex
  exact fn_of lk hcd S len fun A outer s H vs Q E hr hsp => by
    exact hbody cdv A outer s H vs Q E hr hsp
theorem Pl.mono {H H' : Hp} {x : V} (s : Same H H') (h : Pl H x) : Pl H' x := by
  cases h with
  | non => exact .non
  | bl b => exact .bl b
  | int i => exact .int i
  | str x => exact .str x
  | lst h => exact .lst (s _ _ h)
  | tup h => exact .tup (s _ _ h)
theorem SpanV.mono {H H' : Hp} {x : V} {k : Bool} (s : Same H H') (h : SpanV H x k) : SpanV H' x k := by
  rcases h with ⟨h1, h2, h3⟩ | ⟨a, xs, h1, h2, h3⟩
  · refine .inl ⟨h1.mono s, h2, fun a e => ?_⟩
    obtain ⟨xs, h⟩ := h3 a e
    exact ⟨xs, s _ _ h⟩
  · refine .inr ⟨a, xs, h1, s _ _ h2, ?_⟩
    rcases h3 with h3 | ⟨u, v, e1, e2, e3, e4⟩
    · exact .inl h3
    · exact .inr ⟨u, v, e1, e2.mono s, e3.mono s, e4⟩
theorem spanV_of {H : Hp} {v : V} {p : Int × Int} (h : Pr H v p) (k : 0 ≤ p.1 ∧ p.1 ≤ p.2 ∧ p.2 ≤ 999999) : SpanV H v true := by
  obtain ⟨t, rfl, h⟩ := h
  refine .inr ⟨t, _, rfl, h, .inr ⟨_, _, rfl, .int _, .int _, ?_⟩⟩
  have e1 : isD (.int p.1) = true := decide_eq_true ⟨k.1, by omega⟩
  have e2 : isD (.int p.2) = true := decide_eq_true ⟨by omega, k.2.2⟩
  have e3 : decide (p.1 ≤ p.2) = true := decide_eq_true k.2.1
  show true = (isD (.int p.1) && isD (.int p.2) && decide (p.1 ≤ p.2))
  rw [e1, e2, e3]
  rfl
theorem RowA.mono {H H' : Hp} {a : Addr} {us : List V} (s : Same H H') (h : RowA H a us) : RowA H' a us := by
  rcases h with h | h
  · exact .inl (s _ _ h)
  · exact .inr (s _ _ h)
end Yj
set_option Elab.async false
set_option linter.all false
set_option maxRecDepth 100000
set_option maxHeartbeats 4000000
set_option pp.maxSteps 1500
namespace Yj
open PySem PySem.Spec PyProof.Rows L2 RZ
def FNorm (l r : Sps) : Prop := Row r ∧ (∀ d, Mem r d ↔ Mem l d) ∧ r.length ≤ l.length
def spNormal (C : Addr) : Sp := fun vs H Q E => ∃ a us l, vs = [.ref a] ∧ RowA H a us ∧ us.length ≤ 1000000 ∧ Val l ∧
  ((Prs H us l ∧ ∀ r, FNorm l r → BackT H Q r) ∨
   (∃ pre x post, us = pre ++ x :: post ∧ Prs H pre l ∧ SpanV H x false ∧ ∀ d H', Same H H' → H d = none → H' d = some (.xd [(("number" : Str), .int (l.length : Nat))]) → E (.ref C) (some d) H'))
section
variable {P : Program} {w : World} {K : PySem.W.Frag} {mg : Str → Option Value} {base : Heap} {ad : Nat → Addr} {fds : Nat → FuncData} {cs : Nat → Value}
theorem ok_normal (T : Txt K mg ad fds cs) : FnOk P w K mg base (L2N.CX P w) 4 (ad 21) (fds 21) ["spans"] (spNormal (ad 4999)) := by
  refine Fun.okN T.F_normal sc_normal (fun vs H Q E h => ?_) (fun cdv A outer s H vs Q E hr h => ?_)
  · obtain ⟨a, us, l, rfl, _⟩ := h
    rfl
  obtain ⟨a, us, l, rfl, hA, hz, hv, h⟩ := h
  refine ⟨_, (pss_cons (ps_for PassesOwn.leaving rfl (pi_enumA (by rfl) T.z_enumerate (pa_cons (pv 0) pa_nil)) (pg_tup rfl (pgs_cons (pg_name (i := 1) sc_normal.nd rfl (by first | exact .inl rfl | exact .inr rfl)) (pgs_cons (pg_name (i := 2) sc_normal.nd rfl (by first | exact .inl rfl | exact .inr rfl)) pgs_nil)))
      (pss_one (ps_if (pt_not (pt_val (pe_call (ok_is_span T) (hr.mono (by decide)) rfl T.g_is_span T.F_is_span.kp (bi_is_span T) .nil pass0 (pa_cons (pv 2) pa_nil)))) (pss_one (ps_raise_BadSpans rfl T.x_BadSpans (hr.mono (Nat.zero_le _)) (L2N.takes_of rfl rfl rfl rfl) (by exact (pa_cons (pv 1) pa_nil)))) pss_nil)))
      (pss_one (ps_ret (pe_call (ok__melted T) (hr.mono (by decide)) rfl T.g__melted T.F__melted.kp (bi__melted T) .nil pass0 (pa_cons (pe_callB cr_sortedPA (by rfl) T.z_sorted (by decide +kernel) (pa_cons (pv 0) pa_nil)) pa_nil))))), ?_⟩
  rcases h with ⟨hp, q⟩ | ⟨pre, x, post, rfl, hp, hx, q⟩
  · refine ⟨_, rfl, for_enumA (K := K) hA (fun i σ H1 => ∃ (y1 y2 : Option V), σ = [some (.ref a), y1, y2] ∧ Same H H1) ⟨none, none, rfl, Same.refl _⟩ (fun i σ H1 _ ⟨_, _, _, s⟩ => s) ?_ ?_⟩
    · rintro i x T' σ H1 hi ⟨y1, y2, rfl, s1⟩ nT
      have s2 := s1.trans (same_upd (o := .tup [.int (i : Nat), x]) nT)
      obtain ⟨p, hp1, hpr⟩ := hp.get hi
      refine ⟨T', _, rfl, SqT.of upd_same, rfl, _, _, rfl, _, _, rfl, rfl, ?_⟩
      refine ⟨_, rfl, x, true, rfl, spanV_of (hpr.mono s2) (hv.all p (List.mem_of_getElem? hp1)), _, rfl, iteF ?_⟩
      exact ⟨_, _, rfl, s2⟩
    · rintro σ H1 ⟨y1, y2, rfl, s1⟩
      refine ⟨_, rfl, a, us, twoOf H1, rfl, hA.mono s1, fun x hx => (hp.mono s1).each x hx, fun ys t hs ht nt => ?_⟩
      obtain ⟨l', h1, h2, h3, h4⟩ := sorted_prs (hp.mono s1) hv hs ht
      have s2 := same_upd (o := .lst ys) nt
      obtain ⟨m1, m2, m3⟩ := melt_row h3 h4
      have hlen := h2.length_eq
      have hl := hp.len
      refine ⟨t, ys, l', rfl, upd_same, h1.mono s2, by omega, fun H' p vs' s3 np hp' hr' => ?_⟩
      exact q _ ⟨m1, fun d => by rw [m2 d, mem_perm h2 d], by omega⟩ H' p vs' ((s1.trans s2).trans s3) ((s1.trans s2).free np) hp' hr'
  · have hl := hp.len
    refine ⟨_, rfl, for_enumA (K := K) hA (fun i σ H1 => ∃ (y1 y2 : Option V), σ = [some (.ref a), y1, y2] ∧ Same H H1 ∧ i ≤ pre.length) ⟨none, none, rfl, Same.refl _, Nat.zero_le _⟩ (fun i σ H1 _ ⟨_, _, _, s, _⟩ => s) ?_ ?_⟩
    · rintro i y T' σ H1 hi ⟨y1, y2, rfl, s1, hip⟩ nT
      have s2 := s1.trans (same_upd (o := .tup [.int (i : Nat), y]) nT)
      refine ⟨T', _, rfl, SqT.of upd_same, rfl, _, _, rfl, _, _, rfl, rfl, ?_⟩
      by_cases c : i < pre.length
      · rw [List.getElem?_append_left c] at hi
        obtain ⟨p, hp1, hpr⟩ := hp.get hi
        refine ⟨_, rfl, y, true, rfl, spanV_of (hpr.mono s2) (hv.all p (List.mem_of_getElem? hp1)), _, rfl, iteF ?_⟩
        exact ⟨_, _, rfl, s2, c⟩
      · have ei : i = pre.length := by omega
        subst ei
        rw [List.getElem?_append_right (Nat.le_refl _), Nat.sub_self] at hi
        have ex : x = y := Option.some.inj hi
        subst ex
        refine ⟨_, rfl, x, false, rfl, hx.mono s2, _, rfl, iteT ?_⟩
        refine ⟨_, rfl, _, rfl, fun d nd => ?_⟩
        refine q d _ (s2.trans (same_upd nd)) (s2.free nd) ?_
        rw [hl]
        exact upd_same
    · rintro σ H1 ⟨y1, y2, rfl, s1, hip⟩
      rw [List.length_append] at hip
      simp only [List.length_cons] at hip
      omega
end
end Yj
set_option Elab.async false
set_option linter.all false
set_option maxRecDepth 100000
set_option maxHeartbeats 4000000
set_option pp.maxSteps 1500
namespace Yj
open PySem PySem.Spec PyProof.Rows L2 RZ
/-! ### is_name -/
def lowS : Str := "abcdefghijklmnopqrstuvwxyz"
def figS : Str := "0123456789"
def nmc (c : Nat) : Bool := decide (c ∈ lowS.cps.toList) || decide (c ∈ figS.cps.toList)
def isN : V → Bool
  | .str z => decide (1 ≤ (z.length : Int) ∧ (z.length : Int) ≤ 8) && (match z.cps.toList with | c :: _ => decide (c ∈ lowS.cps.toList) | [] => false) && z.cps.toList.all nmc
  | _ => false
def spName : Sp := fun vs H Q _ => ∃ x, vs = [x] ∧ Pl H x ∧ (∀ z, x = .str z → z.length ≤ 1000000) ∧ ∀ H', Same H H' → Q (.bl (isN x)) H'
section
variable {P : Program} {w : World} {K : PySem.W.Frag} {mg : Str → Option Value} {base : Heap} {ad : Nat → Addr} {fds : Nat → FuncData} {cs : Nat → Value}
theorem ok_is_name (T : Txt K mg ad fds cs) : FnOk P w K mg base CX0 1 (ad 14) (fds 14) ["thing"] spName := by
  refine T.F_is_name.ok sc_is_name (fun vs H Q E h => ?_) (fun cdv A outer s H vs Q E hr h => ?_)
  · obtain ⟨x, rfl, _⟩ := h
    rfl
  obtain ⟨x, rfl, hx, hz, q0⟩ := h
  have q := q0 H (Same.refl H)
  refine ⟨_, (pss_cons (ps_if (PW.pt (pw_or (pt_not (pt_val (pe_callB call_isi (by rfl) T.z_isinstance (by decide +kernel) (pa_cons (pv 0) (pa_cons (pe_bltn (v := .ty "str") (u := .type "str") (by rfl) T.z_str (by decide +kernel) rfl) pa_nil))))) (pw_or1 (pt_not (pt_chain op_le op_le pe_int (pe_callB call_len_str (by rfl) T.z_len (by decide +kernel) (pa_cons (pv 0) pa_nil)) (pe_glob rfl T.c_LONGEST_NAME T.r_LONGEST_NAME)))))) (pss_one (ps_ret pe_bl)) pss_nil)
      (pss_cons (ps_if (pt_cmpR op_notIn_sign (pe_ix ix_seq (pv 0) pe_int (fun _ _ => rfl)) (pe_glob rfl T.c_LETTERS T.r_LETTERS) (by rfl)) (pss_one (ps_ret pe_bl)) pss_nil)
      (pss_one (ps_ret (pe_callB (cr_all rfl) (by rfl) T.z_all (by decide +kernel) (pa_cons (pe_lc (own := [("sign", 1)]) rfl sc_is_name.nd (pi_str (pv 0)) (blkOk_by (N := N_is_name) (sc := defScope s_is_name) (own := [("sign", 1)]) (by decide +kernel)) (fun _ _ _ _ _ => by exact (pg_name (i := 1) sc_is_name.nd rfl (.inl rfl))) (fun _ _ _ _ _ => by exact pts_nil) (fun _ _ _ _ _ => by exact (pe_or (pe_cmpR op_in_sign (pv 1) (pe_glob rfl T.c_LETTERS T.r_LETTERS) (by rfl)) (pe_one (pe_cmpR op_in_sign (pv 1) (pe_glob rfl T.c_FIGURES T.r_FIGURES) (by rfl)))))) pa_nil)))))), ?_⟩
  cases hx with
  | non => exact ⟨_, rfl, _, _, _, _, false, rfl, ClsV.ty _, TyX.base .non, kit_ty (by decide +kernel), _, rfl, iteT (iteT q)⟩
  | bl b => exact ⟨_, rfl, _, _, _, _, false, rfl, ClsV.ty _, TyX.base (.bl b), kit_ty (by decide +kernel), _, rfl, iteT (iteT q)⟩
  | int i => exact ⟨_, rfl, _, _, _, _, false, rfl, ClsV.ty _, TyX.base (.int i), kit_ty (by decide +kernel), _, rfl, iteT (iteT q)⟩
  | lst h => exact ⟨_, rfl, _, _, _, _, false, rfl, ClsV.ty _, TyX.base (.lst h), kit_ty (by decide +kernel), _, rfl, iteT (iteT q)⟩
  | tup h => exact ⟨_, rfl, _, _, _, _, false, rfl, ClsV.ty _, TyX.base (.tup h), kit_ty (by decide +kernel), _, rfl, iteT (iteT q)⟩
  | str z =>
    have hlen : z.length ≤ sizeLine := ofNat_le (hz z rfl)
    refine ⟨_, rfl, _, _, _, _, true, rfl, ClsV.ty _, TyX.base (.str z), kit_ty (by decide +kernel), _, rfl, iteF ?_⟩
    refine ⟨_, rfl, z, rfl, hlen, 1, (z.length : Int), rfl, rfl, _, rfl, ?_⟩
    by_cases c1 : 1 ≤ (z.length : Int)
    · refine ifT c1 ⟨_, 8, rfl, rfl, _, rfl, ?_⟩
      by_cases c2 : (z.length : Int) ≤ 8
      · have e1 : decide (1 ≤ (z.length : Int) ∧ (z.length : Int) ≤ 8) = true := decide_eq_true ⟨c1, c2⟩
        rw [decide_eq_true c2]
        refine iteF ?_
        obtain ⟨c, r, ez⟩ : ∃ c r, z.cps.toList = c :: r := by
          cases e : z.cps.toList with
          | nil =>
            have : z.length = 0 := by
              show z.cps.size = 0
              rw [← Array.length_toList, e]
              rfl
            omega
          | cons c r => exact ⟨c, r, rfl⟩
        refine ⟨_, rfl, .inr (.inr ⟨z, 0, c, rfl, rfl, hlen, by rw [ez]; exact atI_nat (j := 0) rfl, c, lowS, rfl, rfl, _, rfl, ?_⟩)⟩
        by_cases c3 : c ∈ lowS.cps.toList
        · rw [decide_eq_true c3]
          refine iteF ?_
          refine ⟨_, rfl, z, rfl, fun D nD => ?_⟩
          have s1 := same_upd (o := .lst []) nD
          refine L2.lc_it walk_str (fun i H1 => Same H H1 ∧ H1 D = some (.lst (((z.cps.toList.take i).map nmc).map V.bl))) ⟨s1, by rw [upd_same]; rfl⟩ (fun _ _ _ _ => True.intro) ?_ ?_
          · rintro i x H1 H2 hi ⟨s2, hD⟩ ⟨rfl, d, hd, rfl⟩
            have hd' : z.cps.toList[i]? = some d := by simpa using hd
            have hacc : (((z.cps.toList.take i).map nmc).map V.bl).length < sizeLine := ofNat_lt (by
              rw [List.length_map, List.length_map, List.length_take]
              have : z.cps.toList.length = z.length := by simp; rfl
              have := hz z rfl
              omega)
            have fin : ∀ b : Bool, b = nmc d → ∃ acc, H2 D = some (.lst acc) ∧ acc.length < sizeLine ∧ Same H (upd H2 D (.lst (acc ++ [.bl b]))) ∧ upd H2 D (.lst (acc ++ [.bl b])) D = some (.lst (((z.cps.toList.take (i + 1)).map nmc).map V.bl)) := fun b eb => by
              refine ⟨_, hD, hacc, same_at s2 nD, ?_⟩
              rw [upd_same, List.take_add_one, hd', List.map_append, List.map_append, eb]
              rfl
            refine ⟨rfl, ?_⟩
            refine ⟨_, rfl, d, lowS, rfl, rfl, _, rfl, ?_⟩
            by_cases c4 : d ∈ lowS.cps.toList
            · rw [decide_eq_true c4]
              refine iteT (fin true ?_)
              unfold nmc
              rw [decide_eq_true c4]
              rfl
            · rw [decide_eq_false c4]
              refine iteF ⟨_, rfl, d, figS, rfl, rfl, ?_⟩
              refine fin _ ?_
              unfold nmc
              rw [decide_eq_false c4]
              rfl
          · rintro H1 ⟨s2, hD⟩
            have e2 : z.cps.toList.take z.cps.size = z.cps.toList := List.take_of_length_le (by simp)
            rw [e2] at hD
            refine ⟨D, _, rfl, SqL.of hD, ?_⟩
            have q2 := q0 H1 s2
            have e3 : isN (.str z) = (z.cps.toList.map nmc).all id := by
              unfold isN
              dsimp only
              rw [e1]
              have e4 : (match z.cps.toList with | c :: _ => decide (c ∈ lowS.cps.toList) | [] => false) = true := by
                rw [ez]
                exact decide_eq_true c3
              rw [e4, List.all_map]
              rfl
            rw [e3] at q2
            exact q2
        · rw [decide_eq_false c3]
          refine iteT ?_
          have e3 : isN (.str z) = false := by
            unfold isN
            dsimp only
            have e4 : (match z.cps.toList with | c :: _ => decide (c ∈ lowS.cps.toList) | [] => false) = false := by
              rw [ez]
              exact decide_eq_false c3
            rw [e4, Bool.and_false, Bool.false_and]
          rw [e3] at q
          exact q
      · rw [decide_eq_false c2]
        have e3 : isN (.str z) = false := by
          unfold isN
          dsimp only
          rw [decide_eq_false (show ¬ (1 ≤ (z.length : Int) ∧ (z.length : Int) ≤ 8) from fun h => c2 h.2)]
          rfl
        rw [e3] at q
        exact iteT q
    · refine ifF c1 ?_
      have e3 : isN (.str z) = false := by
        unfold isN
        dsimp only
        rw [decide_eq_false (show ¬ (1 ≤ (z.length : Int) ∧ (z.length : Int) ≤ 8) from fun h => c1 h.1)]
        rfl
      rw [e3] at q
      exact ⟨_, rfl, iteT q⟩
end
end Yj
set_option Elab.async false
set_option linter.all false
set_option maxRecDepth 100000
set_option maxHeartbeats 4000000
set_option pp.maxSteps 1500
namespace Yj
open PySem PySem.Spec PyProof.Rows L2 RZ
/-! ### the law's draws -/
theorem ints_lay : ∀ ns : List Int, PyData.canLayAll0 (ns.map PyData.int) = true ∧ PyData.depthAll (ns.map PyData.int) = 0
  | [] => ⟨rfl, rfl⟩
  | n :: r => by
    obtain ⟨h1, h2⟩ := ints_lay r
    refine ⟨?_, ?_⟩
    · show (true && PyData.canLayAll0 (r.map PyData.int)) = true
      rw [h1]
      rfl
    · show max 0 (PyData.depthAll (r.map PyData.int)) = 0
      rw [h2]
      rfl
theorem ints_shaped (ns : List Int) : SeqAt.shaped (.list (ns.map PyData.int)) = true := (shaped_of (n := 0) (ints_lay ns).1 (Nat.le_of_eq (ints_lay ns).2) (by decide)).2
theorem ints_dp {K : PySem.W.Frag} {H : Hp} : ∀ ns : List Int, DpAll K H (ns.map V.int) (ns.map PyData.int)
  | [] => .nil
  | n :: r => .cons (.int n) (ints_dp r)
/-- all but what is at d is as it was -/
def Keep (d : Addr) (H H' : Hp) : Prop := ∀ b o, b ≠ d → H b = some o → H' b = some o
theorem Keep.trans {d : Addr} {H H1 H2 : Hp} (a : Keep d H H1) (b : Keep d H1 H2) : Keep d H H2 := fun c o n h => b c o n (a c o n h)
theorem keepOf {d : Addr} {H H' : Hp} (s : Same H H') : Keep d H H' := fun b o _ h => s b o h
theorem Keep.refl (d : Addr) (H : Hp) : Keep d H H := fun _ _ _ h => h
/-- the draw at d over the script at a -/
def Draw (K : PySem.W.Frag) (H : Hp) (d a : Addr) (ns : List Int) : Prop := (∃ c, H d = some (.lst [.ref a, .int c])) ∧ SqL K H a (ns.map V.int) ∧ ns.length ≤ 63
theorem Draw.script {K : PySem.W.Frag} {H H' : Hp} {d a : Addr} {ns : List Int} (h : Draw K H d a ns) (k : Keep d H H') : SqL K H' a (ns.map V.int) := by
  obtain ⟨⟨c, hd⟩, hs, _⟩ := h
  rcases hs with (h | ⟨o, h⟩) | h
  · by_cases e : a = d
    · rw [e, hd] at h
      exfalso
      have z := HO.lst.inj (Option.some.inj h)
      cases ns with
      | nil => cases z
      | cons n r => exact nomatch (List.cons.inj z).1
    · exact .inl (.inl (k _ _ e h))
  · by_cases e : a = d
    · rw [e, hd] at h
      cases h
    · exact .inl (.inr ⟨o, k _ _ e h⟩)
  · exact .inr h
theorem Draw.keep {K : PySem.W.Frag} {H H' : Hp} {d a : Addr} {ns : List Int} {c : Int} (h : Draw K H d a ns) (k : Keep d H H') (e : H' d = some (.lst [.ref a, .int c])) : Draw K H' d a ns := ⟨⟨c, e⟩, h.script k, h.2.2⟩
theorem Draw.same {K : PySem.W.Frag} {H H' : Hp} {d a : Addr} {ns : List Int} (h : Draw K H d a ns) (s : Same H H') : Draw K H' d a ns := by
  obtain ⟨c, e⟩ := h.1
  exact h.keep (keepOf s) (s _ _ e)
theorem Pr.keep {H H' : Hp} {d : Addr} {v : V} {p : Int × Int} {ys : List V} (hd : H d = some (.lst ys)) (k : Keep d H H') (h : Pr H v p) : Pr H' v p := by
  obtain ⟨t, e, h⟩ := h
  refine ⟨t, e, k _ _ (fun z => ?_) h⟩
  rw [z, hd] at h
  cases h
theorem Prs.keep {H H' : Hp} {d : Addr} {ys : List V} (hd : H d = some (.lst ys)) (k : Keep d H H') : ∀ {vs : List V} {l : Sps}, Prs H vs l → Prs H' vs l
  | _, _, .nil => .nil
  | _, _, .cons h t => .cons (h.keep hd k) (t.keep hd k)
/-- behind a draw -/
def Drawn' (K : PySem.W.Frag) (H H' : Hp) (d a : Addr) (ns : List Int) : Prop := Draw K H' d a ns ∧ Keep d H H'
theorem fmod_at {ns : List Int} (c : Int) (h : ns ≠ []) : ∃ n : Int, ∃ k : Nat, c.fmod ((ns.map V.int).length : Nat) = (k : Int) ∧ ns[k]? = some n := by
  have h0 : 0 < ns.length := List.length_pos_iff.mpr h
  have e0 : c.fmod ((ns.length : Nat) : Int) = c % ((ns.length : Nat) : Int) := Int.fmod_eq_emod_of_nonneg _ (by omega)
  have h1 : 0 ≤ c % ((ns.length : Nat) : Int) := Int.emod_nonneg _ (by omega)
  have h2 : c % ((ns.length : Nat) : Int) < (ns.length : Nat) := Int.emod_lt_of_pos _ (by omega)
  refine ⟨ns[(c % ((ns.length : Nat) : Int)).toNat]'(by omega), (c % ((ns.length : Nat) : Int)).toNat, ?_, List.getElem?_eq_getElem _⟩
  rw [List.length_map, e0]
  omega
theorem nzA : (2147483647 : Int) ≠ 0 := by decide
theorem nzB : (2147483629 : Int) ≠ 0 := by decide
theorem nzC : (2147483587 : Int) ≠ 0 := by decide
theorem nzE : (10 : Int) ^ (18 : Int).toNat ≠ 0 := by decide
end Yj
set_option Elab.async false
set_option linter.all false
set_option maxRecDepth 100000
set_option maxHeartbeats 4000000
set_option pp.maxSteps 1500
namespace Yj
open PySem PySem.Spec PyProof.Rows L2 RZ
/-! ### are_names, of anything: the items of a tuple stand in the heap -/
def Short (v : V) : Prop := ∀ z, v = .str z → z.length ≤ 1000000
def NamesV (H : Hp) (x : V) (m : Int) (k : Bool) : Prop :=
  (Pl H x ∧ k = false ∧ ∀ a, x = .ref a → ∃ xs, H a = some (.lst xs)) ∨
  ∃ a xs, x = .ref a ∧ H a = some (.tup xs) ∧ xs.length ≤ 1000 ∧ (((xs.length : Int) ≠ m ∧ k = false) ∨ ((xs.length : Int) = m ∧ (∀ v ∈ xs, Pl H v ∧ Short v) ∧ k = xs.all isN))
def spNames : Sp := fun vs H Q _ => ∃ x m k, vs = [x, .int m] ∧ NamesV H x m k ∧ ∀ H', Same H H' → Q (.bl k) H'
section
variable {P : Program} {w : World} {K : PySem.W.Frag} {mg : Str → Option Value} {base : Heap} {ad : Nat → Addr} {fds : Nat → FuncData} {cs : Nat → Value}
theorem ok_are_names (T : Txt K mg ad fds cs) : FnOk P w K mg base CX0 2 (ad 16) (fds 16) ["thing", "many"] spNames := by
  refine T.F_are_names.ok sc_are_names (fun vs H Q E h => ?_) (fun cdv A outer s H vs Q E hr h => ?_)
  · obtain ⟨x, m, k, rfl, _⟩ := h
    rfl
  obtain ⟨x, m, k, rfl, hx, q⟩ := h
  refine ⟨_, (pss_cons (ps_if (PW.pt (pw_or (pt_not (pt_val (pe_callB call_isi (by rfl) T.z_isinstance (by decide +kernel) (pa_cons (pv 0) (pa_cons (pe_bltn (v := .ty "tuple") (u := .type "tuple") (by rfl) T.z_tuple (by decide +kernel) rfl) pa_nil))))) (pw_or1 (pt_cmpR op_ne (pe_callB call_len_seq (by rfl) T.z_len (by decide +kernel) (pa_cons (pv 0) pa_nil)) (pv 1) (nomark _))))) (pss_one (ps_ret pe_bl)) pss_nil)
      (pss_one (ps_ret (pe_callB (cr_all rfl) (by rfl) T.z_all (by decide +kernel) (pa_cons (pe_lc (own := [("name", 2)]) rfl sc_are_names.nd (pi_tup (pv 0)) (blkOk_by (N := N_are_names) (sc := defScope s_are_names) (own := [("name", 2)]) (by decide +kernel)) (fun _ _ _ _ _ => by exact (pg_name (i := 2) sc_are_names.nd rfl (.inl rfl))) (fun _ _ _ _ _ => by exact pts_nil) (fun _ _ _ _ _ => by exact (pe_call (ok_is_name (P := P) (w := w) T) (hr.mono (by decide)) rfl T.g_is_name T.F_is_name.kp (bi_is_name T) .nil pass0 (pa_cons (pv 2) pa_nil)))) pa_nil))))), ?_⟩
  rcases hx with ⟨hx, rfl, hl⟩ | ⟨a, xs, rfl, ha, hlen, hx⟩
  · have q := q H (Same.refl H)
    cases hx with
    | non => exact ⟨_, rfl, _, _, _, _, false, rfl, ClsV.ty _, TyX.base .non, kit_ty (by decide +kernel), _, rfl, iteT (iteT q)⟩
    | bl b => exact ⟨_, rfl, _, _, _, _, false, rfl, ClsV.ty _, TyX.base (.bl b), kit_ty (by decide +kernel), _, rfl, iteT (iteT q)⟩
    | int i => exact ⟨_, rfl, _, _, _, _, false, rfl, ClsV.ty _, TyX.base (.int i), kit_ty (by decide +kernel), _, rfl, iteT (iteT q)⟩
    | str x => exact ⟨_, rfl, _, _, _, _, false, rfl, ClsV.ty _, TyX.base (.str x), kit_ty (by decide +kernel), _, rfl, iteT (iteT q)⟩
    | lst h => exact ⟨_, rfl, _, _, _, _, false, rfl, ClsV.ty _, TyX.base (.lst h), kit_ty (by decide +kernel), _, rfl, iteT (iteT q)⟩
    | @tup a xs h =>
      obtain ⟨ys, e⟩ := hl a rfl
      rw [h] at e
      cases e
  refine ⟨_, rfl, _, _, _, _, true, rfl, ClsV.ty _, TyX.base (.tup ha), kit_ty (by decide +kernel), _, rfl, iteF ?_⟩
  refine ⟨_, rfl, a, xs, rfl, .inr (SqT.of ha), _, rfl, rfl, _, rfl, ?_⟩
  rcases hx with ⟨hn, rfl⟩ | ⟨hn, hv, rfl⟩
  · have e : (!decide (V.int (xs.length : Nat) = V.int m)) = true := by
      rw [decide_eq_false fun z => hn (V.int.inj z)]
      rfl
    rw [e]
    exact iteT (q H (Same.refl H))
  have e : (!decide (V.int (xs.length : Nat) = V.int m)) = false := by
    rw [decide_eq_true (congrArg V.int hn)]
    rfl
  rw [e]
  refine iteF ⟨_, rfl, a, rfl, ⟨_, SqT.of ha⟩, fun D nD => ?_⟩
  have s1 := same_upd (o := .lst []) nD
  refine lc_tup (xs := xs) (fun i H1 => Same H H1 ∧ H1 D = some (.lst (((xs.take i).map isN).map V.bl))) ⟨s1, upd_same⟩ (fun i H1 _ h => SqT.of (h.1 _ _ ha)) ?_ ?_
  · rintro i x H1 hx ⟨s2, hD⟩
    have hi : i < xs.length := (List.getElem?_eq_some_iff.mp hx).1
    obtain ⟨p1, p2⟩ := hv x (List.mem_of_getElem? hx)
    refine ⟨rfl, _, rfl, x, rfl, p1.mono s2, p2, fun H2 s3 => ⟨_, s3 _ _ hD, ofNat_lt ?_, same_at (s2.trans s3) nD, ?_⟩⟩
    · rw [List.length_map, List.length_map, List.length_take]
      omega
    · rw [upd_same, List.take_add_one, hx, List.map_append, List.map_append]
      rfl
  · rintro H1 ⟨s2, hD⟩
    rw [List.take_length] at hD
    refine ⟨D, _, rfl, SqL.of hD, ?_⟩
    have e2 : (xs.map isN).all id = xs.all isN := by
      rw [List.all_map]
      rfl
    rw [e2]
    exact q H1 s2
end
end Yj
set_option Elab.async false
set_option linter.all false
set_option maxRecDepth 100000
set_option maxHeartbeats 4000000
set_option pp.maxSteps 1500
namespace Yj
open PySem PySem.Spec PyProof.Rows L2 RZ
section
variable {P : Program} {w : World} {K : PySem.W.Frag} {mg : Str → Option Value} {base : Heap} {ad : Nat → Addr} {fds : Nat → FuncData} {cs : Nat → Value}
def spNumber (K : PySem.W.Frag) : Sp := fun vs H Q _ => ∃ (a : Addr) (ns : List Int) (c : Int), vs = [.ref a, .int c] ∧ SqL K H a (ns.map V.int) ∧ ns.length ≤ 63 ∧ ∀ n H', Same H H' → Q (.int n) H'
theorem ok__law_number (T : Txt K mg ad fds cs) : FnOk P w K mg base CX0 1 (ad 48) (fds 48) ["script", "index"] (spNumber K) := by
  refine T.F__law_number.ok sc__law_number (fun vs H Q E h => ?_) (fun cdv A outer s H vs Q E hr h => ?_)
  · obtain ⟨a, ns, c, rfl, _⟩ := h
    rfl
  obtain ⟨a, ns, c, rfl, hS, hz, q⟩ := h
  refine ⟨_, (pss_cons (ps_if (pt_cmpR (op_eqD hr.units) (pv 0) (pe_lst pa_nil) (nomark _)) (pss_one (ps_ret (pe_callTy call_int1 (by rfl) T.z_int (by decide +kernel) (pa_cons (pe_op op_modN (pe_op op_add (pe_op op_mul (pv 1) pe_int) pe_int) pe_int) pa_nil)))) pss_nil)
      (pss_cons (ps_set (i := 2) sc__law_number.nd rfl (by first | exact .inl rfl | exact .inr rfl) (pe_ix ix_seq (pv 0) (pe_op op_modN (pv 1) (pe_callB call_len_seq (by rfl) T.z_len (by decide +kernel) (pa_cons (pv 0) pa_nil))) (fun _ _ => rfl)))
      (pss_cons (ps_if (pt_cmpR op_ge (pe_callB call_abs (by rfl) T.z_abs (by decide +kernel) (pa_cons (pv 2) pa_nil)) (pe_op op_pow pe_int pe_int) (nomark _)) (pss_one (ps_set (i := 2) sc__law_number.nd rfl (by first | exact .inl rfl | exact .inr rfl) (pe_op op_modN (pv 2) (pe_op op_pow pe_int pe_int)))) pss_nil)
      (pss_cons (ps_set (i := 3) sc__law_number.nd rfl (by first | exact .inl rfl | exact .inr rfl) (pe_op op_modN (pe_op op_add (pe_op op_mul (pe_op op_add (pv 2) (pe_op op_mul pe_int (pv 1))) pe_int) (pe_op op_mul pe_int (pe_callB call_len_seq (by rfl) T.z_len (by decide +kernel) (pa_cons (pv 0) pa_nil)))) pe_int))
      (pss_one (ps_ret (pe_callTy call_int1 (by rfl) T.z_int (by decide +kernel) (pa_cons (pe_op op_modN (pe_op op_add (pe_op op_mul (pe_op op_modN (pe_op op_mul (pv 3) pe_int) pe_int) pe_int) (pv 1)) pe_int) pa_nil)))))))), ?_⟩
  refine ⟨_, rfl, Nat.zero_le _, fun u nu => ?_⟩
  have s1 := same_upd (o := .lst []) nu
  have hS1 := s1.seq hS
  refine ⟨.list (ns.map PyData.int), .list [], .lst hS1 (ints_dp ns), .lst (SqL.of upd_same) .nil, ints_shaped ns, ints_shaped [], _, rfl, ?_⟩
  by_cases e : ns = []
  · subst e
    refine iteT ?_
    exact ⟨_, rfl, _, _, rfl, rfl, .inr ⟨by decide, by decide⟩, _, _, rfl, rfl, _, _, rfl, rfl, nzA, .inl ⟨_, rfl, q _ _ s1⟩⟩
  · have e1 : PyData.eqv (.list (ns.map PyData.int)) (.list []) = false := by
      cases ns with
      | nil => exact absurd rfl e
      | cons n r => rfl
    rw [e1]
    refine iteF ?_
    obtain ⟨n, k, ek, hn⟩ := fmod_at c e
    have h0 : 0 < ns.length := List.length_pos_iff.mpr e
    refine ⟨_, rfl, _, rfl, _, rfl, a, _, rfl, .inl hS1, _, _, rfl, rfl, ?_, .inl ⟨a, _, _, .int n, rfl, rfl, hS1, ?_, ?_⟩⟩
    · rw [List.length_map]
      omega
    · show atI (ns.map V.int) (c.fmod ((ns.map V.int).length : Nat)) = _
      rw [ek]
      refine atI_nat ?_
      rw [List.getElem?_map, hn]
      rfl
    · -- what follows the test, whatever the cell is then
      refine ⟨_, rfl, n, rfl, 10, 60, rfl, rfl, ⟨by decide, by decide, by decide⟩, _, _, rfl, rfl, _, rfl, ?_⟩
      by_cases hc : (if n < 0 then -n else n) ≥ (10 : Int) ^ (60 : Int).toNat
      case' pos =>
        refine ifT hc ?_
        refine ⟨_, rfl, 10, 18, rfl, rfl, ⟨by decide, by decide, by decide⟩, _, _, rfl, rfl, nzE, ?_⟩
        generalize n.fmod ((10 : Int) ^ (18 : Int).toNat) = n
      case' neg => refine ifF hc ?_
      all_goals
        refine ⟨_, rfl, _, rfl, _, _, rfl, rfl, .inl ⟨by decide, by decide⟩, _, _, rfl, rfl, _, _, rfl, rfl, .inr ⟨by decide, by decide⟩, _, rfl, a, _, rfl, .inl hS1, _, _, rfl, rfl, .inl ⟨by decide, by decide⟩, _, _, rfl, rfl, _, _, rfl, rfl, nzA, ?_⟩
        exact ⟨_, rfl, _, _, rfl, rfl, .inr ⟨by decide, by decide⟩, _, _, rfl, rfl, nzB, _, _, rfl, rfl, .inr ⟨by decide, by decide⟩, _, rfl, _, _, rfl, rfl, _, _, rfl, rfl, nzC, .inl ⟨_, rfl, q _ _ s1⟩⟩
end
end Yj
set_option Elab.async false
set_option linter.all false
set_option maxRecDepth 100000
set_option maxHeartbeats 4000000
set_option pp.maxSteps 1500
namespace Yj
open PySem PySem.Spec PyProof.Rows L2 RZ
section
variable {P : Program} {w : World} {K : PySem.W.Frag} {mg : Str → Option Value} {base : Heap} {ad : Nat → Addr} {fds : Nat → FuncData} {cs : Nat → Value}
/-! ### _law_take, _law_pick, _law_day -/
def spTake (K : PySem.W.Frag) : Sp := fun vs H Q _ => ∃ (d a : Addr) (ns : List Int) (m : Int), vs = [.ref d, .int m] ∧ Draw K H d a ns ∧ 0 < m ∧ ∀ r H', 0 ≤ r → r < m → Drawn' K H H' d a ns → Q (.int r) H'
theorem ok__law_take (T : Txt K mg ad fds cs) : FnOk P w K mg base CX0 2 (ad 49) (fds 49) ["draw", "many"] (spTake K) := by
  refine T.F__law_take.ok sc__law_take (fun vs H Q E h => ?_) (fun cdv A outer s H vs Q E hr h => ?_)
  · obtain ⟨d, a, ns, m, rfl, _⟩ := h
    rfl
  obtain ⟨d, a, ns, m, rfl, hD, hm, q⟩ := h
  refine ⟨_, (pss_cons (ps_augS (pv 0) pe_int pget_list pe_int ip_add set_list)
      (pss_one (ps_ret (pe_op op_modN (pe_callTy call_int1 (by rfl) T.z_int (by decide +kernel) (pa_cons (pe_call (ok__law_number T) (hr.mono (by decide)) rfl T.g__law_number T.F__law_number.kp (bi__law_number T) .nil pass0 (pa_cons (pe_ix ix_seq (pv 0) pe_int (fun _ _ => rfl)) (pa_cons (pe_callTy call_int1 (by rfl) T.z_int (by decide +kernel) (pa_cons (pe_ix ix_seq (pv 0) pe_int (fun _ _ => rfl)) pa_nil)) pa_nil))) pa_nil)) (pv 1))))), ?_⟩
  obtain ⟨c, hd⟩ := hD.1
  have k1 : Keep d H (upd H d (.lst [.ref a, .int (c + 1)])) := fun b o n e => (upd_ne n).trans e
  have hD1 : Draw K (upd H d (.lst [.ref a, .int (c + 1)])) d a ns := hD.keep k1 upd_same
  refine ⟨_, rfl, d, _, 1, .int c, rfl, rfl, SqL.of hd, rfl, c, 1, rfl, rfl, d, _, 1, 1, rfl, rfl, hd, rfl, ?_⟩
  show _
  refine ⟨_, rfl, .inl ⟨d, _, 0, .ref a, rfl, rfl, SqL.of upd_same, atI_nat (j := 0) rfl, ?_⟩⟩
  refine ⟨_, rfl, .inl ⟨d, _, 1, .int (c + 1), rfl, rfl, SqL.of upd_same, atI_nat (j := 1) rfl, .inl ⟨_, rfl, ?_⟩⟩⟩
  refine ⟨a, ns, c + 1, rfl, hD1.2.1, hD1.2.2, fun n H' s1 => .inl ⟨_, rfl, _, rfl, _, _, rfl, rfl, (by omega : m ≠ 0), ?_⟩⟩
  have e0 : n.fmod m = n % m := Int.fmod_eq_emod_of_nonneg _ (by omega)
  refine q _ H' ?_ ?_ ⟨hD1.same s1, k1.trans (keepOf s1)⟩
  · show 0 ≤ n.fmod m
    rw [e0]
    exact Int.emod_nonneg _ (by omega)
  · show n.fmod m < m
    rw [e0]
    exact Int.emod_lt_of_pos _ hm
end
end Yj
set_option Elab.async false
set_option linter.all false
set_option maxRecDepth 100000
set_option maxHeartbeats 4000000
set_option pp.maxSteps 1500
namespace Yj
open PySem PySem.Spec PyProof.Rows L2 RZ
section
variable {P : Program} {w : World} {K : PySem.W.Frag} {mg : Str → Option Value} {base : Heap} {ad : Nat → Addr} {fds : Nat → FuncData} {cs : Nat → Value}
def spPick (K : PySem.W.Frag) : Sp := fun vs H Q _ => ∃ (d a b : Addr) (ns : List Int) (xs : List V), vs = [.ref d, .ref b] ∧ Draw K H d a ns ∧ b ≠ d ∧ H b = some (.lst xs) ∧ xs ≠ [] ∧ ∀ x H', x ∈ xs → Drawn' K H H' d a ns → Q x H'
theorem ok__law_pick (T : Txt K mg ad fds cs) : FnOk P w K mg base CX0 3 (ad 50) (fds 50) ["draw", "items"] (spPick K) := by
  refine T.F__law_pick.ok sc__law_pick (fun vs H Q E h => ?_) (fun cdv A outer s H vs Q E hr h => ?_)
  · obtain ⟨d, a, b, ns, xs, rfl, _⟩ := h
    rfl
  obtain ⟨d, a, b, ns, xs, rfl, hD, hbd, hb, hx, q⟩ := h
  refine ⟨_, (pss_one (ps_ret (pe_ix ix_seq (pv 1) (pe_call (ok__law_take T) (hr.mono (by decide)) rfl T.g__law_take T.F__law_take.kp (bi__law_take T) .nil pass0 (pa_cons (pv 0) (pa_cons (pe_callB call_len_seq (by rfl) T.z_len (by decide +kernel) (pa_cons (pv 1) pa_nil)) pa_nil))) (fun _ _ => rfl)))), ?_⟩
  have h0 : 0 < xs.length := List.length_pos_iff.mpr hx
  refine ⟨_, rfl, _, rfl, _, rfl, b, xs, rfl, .inl (SqL.of hb), ?_⟩
  refine ⟨d, a, ns, _, rfl, hD, by omega, fun r H' r0 r1 z => ?_⟩
  obtain ⟨k, hk⟩ : ∃ k : Nat, r = (k : Int) := ⟨r.toNat, by omega⟩
  subst hk
  have hkl : k < xs.length := by omega
  exact .inl ⟨b, xs, _, _, rfl, rfl, SqL.of (z.2 _ _ hbd hb), atI_nat (List.getElem?_eq_getElem hkl), q _ _ (List.getElem_mem _) z⟩
end
end Yj
set_option Elab.async false
set_option linter.all false
set_option maxRecDepth 100000
set_option maxHeartbeats 4000000
set_option pp.maxSteps 1500
namespace Yj
open PySem PySem.Spec PyProof.Rows L2 RZ
section
variable {P : Program} {w : World} {K : PySem.W.Frag} {mg : Str → Option Value} {base : Heap} {ad : Nat → Addr} {fds : Nat → FuncData} {cs : Nat → Value}
/-- a day near an end -/
abbrev Edge (d : Int) : Prop := d ≤ 8 ∨ 999994 ≤ d
def spDayOf (K : PySem.W.Frag) : Sp := fun vs H Q _ => ∃ (d a : Addr) (ns : List Int), vs = [.ref d] ∧ Draw K H d a ns ∧ ∀ r H', 0 ≤ r → r ≤ 999999 → Edge r → Drawn' K H H' d a ns → Q (.int r) H'
theorem ok__law_day (T : Txt K mg ad fds cs) : FnOk P w K mg base CX0 3 (ad 52) (fds 52) ["draw"] (spDayOf K) := by
  refine T.F__law_day.ok sc__law_day (fun vs H Q E h => ?_) (fun cdv A outer s H vs Q E hr h => ?_)
  · obtain ⟨d, a, ns, rfl, _⟩ := h
    rfl
  obtain ⟨d, a, ns, rfl, hD, q⟩ := h
  refine ⟨_, (pss_one (ps_ret (pe_ifExp (pt_cmpR op_eq (pe_call (ok__law_take T) (hr.mono (by decide)) rfl T.g__law_take T.F__law_take.kp (bi__law_take T) .nil pass0 (pa_cons (pv 0) (pa_cons pe_int pa_nil))) pe_int (nomark _)) (pe_op op_sub pe_int (pe_call (ok__law_take T) (hr.mono (by decide)) rfl T.g__law_take T.F__law_take.kp (bi__law_take T) .nil pass0 (pa_cons (pv 0) (pa_cons pe_int pa_nil)))) (pe_call (ok__law_take T) (hr.mono (by decide)) rfl T.g__law_take T.F__law_take.kp (bi__law_take T) .nil pass0 (pa_cons (pv 0) (pa_cons pe_int pa_nil)))))), ?_⟩
  refine ⟨_, rfl, d, a, ns, 9, rfl, hD, by decide, fun r H1 r0 r1 z1 => ⟨rfl, _, rfl, ?_⟩⟩
  by_cases c : V.int r = V.int 0
  · refine ifT c ?_
    refine ⟨_, rfl, d, a, ns, 6, rfl, z1.1, by decide, fun r' H2 r0' r1' z2 => ⟨_, _, rfl, rfl, ?_⟩⟩
    exact q _ H2 (by omega) (by omega) (by unfold Edge; omega) ⟨z2.1, z1.2.trans z2.2⟩
  · refine ifF c ?_
    exact ⟨_, rfl, d, a, ns, 9, rfl, z1.1, by decide, fun r' H2 r0' r1' z2 => q _ H2 r0' (by omega) (by unfold Edge; omega) ⟨z2.1, z1.2.trans z2.2⟩⟩
end
end Yj
set_option Elab.async false
set_option linter.all false
set_option maxRecDepth 100000
set_option maxHeartbeats 4000000
set_option pp.maxSteps 1500
namespace Yj
open PySem PySem.Spec PyProof.Rows L2 RZ
theorem keep_at {d r : Addr} {H H' : Hp} {o : HO} (k : Keep d H H') (h : H r = none) : Keep d H (upd H' r o) := fun b x n e => by
  rw [upd_ne (ne_of_none e h)]
  exact k b x n e
theorem cut_one (xs : List V) : cutV xs (some 1) none = xs.drop 1 := by
  unfold cutV
  rw [show HT.sIx xs.length 0 (some 1) = min 1 xs.length from HT.sIx_nat xs.length 0 1, HT.sIx_none]
  cases xs with
  | nil => rfl
  | cons x r =>
    have e : min 1 (x :: r).length = 1 := by
      rw [List.length_cons]
      omega
    rw [e]
    show (r.take ((x :: r).length - 1)) = r
    rw [List.length_cons, Nat.add_sub_cancel, List.take_length]
theorem walk_zipT {K : PySem.W.Frag} {a b : Addr} {xs ys : List V} {n : Nat} (hn : n = min xs.length ys.length) : Walk (ItzT K a b) n (fun H => SqT K H a xs ∧ SqT K H b ys) (YPair (fun i => xs[i]?) (fun i => ys[i]?)) := by
  refine ⟨fun i H hi q => ⟨xs, ys, xs[i]'(by omega), ys[i]'(by omega), q.1, q.2, by simp [show i < xs.length by omega], by simp [show i < ys.length by omega]⟩, fun H q => ⟨xs, ys, q.1, q.2, by omega⟩, ?_⟩
  rintro i H x H' hi q ⟨T, u, v, rfl, nT, rfl, h1, h2⟩
  exact ⟨T, u, v, rfl, nT, rfl, h1 _ q.1, h2 _ q.2⟩
end Yj
set_option Elab.async false
set_option linter.all false
set_option maxRecDepth 100000
set_option maxHeartbeats 4000000
set_option pp.maxSteps 1500
namespace Yj
open PySem PySem.Spec PyProof.Rows L2 RZ YjD
/-! ### relations -/
abbrev Rel := List (Str × Int)
def relK (rel : Rel) : List (L2.Key × V) := rel.map fun p => (Sum.inr p.1, V.int p.2)
def relAt (rel : Rel) (r : Str) : Option Int := (rel.find? fun p => decide (p.1 = r)).map (·.2)
theorem relK_val (rel : Rel) (r : Str) : valV (relK rel) (Sum.inr r : L2.Key) = (relAt rel r).map V.int := by
  induction rel with
  | nil => rfl
  | cons p x ih =>
    by_cases e : p.1 = r
    · have e1 : valV (relK (p :: x)) (Sum.inr r : L2.Key) = some (V.int p.2) := valV_pos (congrArg Sum.inr e)
      have e2 : relAt (p :: x) r = some p.2 := by simp [relAt, List.find?_cons, e]
      rw [e1, e2]
      rfl
    · have e1 : valV (relK (p :: x)) (Sum.inr r : L2.Key) = valV (relK x) (Sum.inr r : L2.Key) := valV_neg fun z => e (Sum.inr.inj z)
      have e2 : relAt (p :: x) r = relAt x r := by simp [relAt, List.find?_cons, e]
      rw [e1, e2, ih]
def okR (p : Str × Int) : Bool := isN (.str p.1) && decide (1 ≤ p.2 ∧ p.2 ≤ 4)
def ShortR (rel : Rel) : Prop := rel.length ≤ 50 ∧ ∀ p ∈ rel, p.1.length ≤ 1000000
/-- a fact of these relations -/
def isFct (rel : Rel) (f : Fct) : Bool := isN (.str f.1) && (match relAt rel f.1 with | none => false | some m => decide ((f.2.length : Int) = m) && f.2.all fun n => isN (.str n))
def ShortF (f : Fct) : Prop := f.1.length ≤ 1000000 ∧ f.2.length ≤ 1000 ∧ ∀ n ∈ f.2, n.length ≤ 1000000
/-- srt is rel, its names ascending -/
def Sorts (rel srt : Rel) : Prop := (∀ ys : List Str, ys.Perm (rel.map (·.1)) → sortedS ys = true → ys = srt.map (·.1)) ∧ (srt.map (·.1)).Nodup ∧ srt.length = rel.length ∧ ∀ p ∈ srt, relAt rel p.1 = some p.2
def spFact : Sp := fun vs H Q _ => ∃ dr rel ka f, vs = [.ref dr, .ref ka] ∧ H dr = some (.dK (relK rel)) ∧ KeyAt H ka f ∧ ShortF f ∧ ∀ H', Same H H' → Q (.bl (isFct rel f)) H'
section
variable {P : Program} {w : World} {K : PySem.W.Frag} {mg : Str → Option Value} {base : Heap} {ad : Nat → Addr} {fds : Nat → FuncData} {cs : Nat → Value}
theorem ok_is_fact (T : Txt K mg ad fds cs) : FnOk P w K mg base CX0 3 (ad 17) (fds 17) ["relations", "thing"] spFact := by
  refine T.F_is_fact.ok sc_is_fact (fun vs H Q E h => ?_) (fun cdv A outer s H vs Q E hr h => ?_)
  · obtain ⟨dr, rel, ka, f, rfl, _⟩ := h
    rfl
  obtain ⟨dr, rel, ka, f, rfl, hdr, ⟨na, hk, hn⟩, hs, q⟩ := h
  have hu := hu_of hr
  refine ⟨_, (pss_cons (ps_if (PW.pt (pw_or (pt_not (pt_val (pe_callB call_isi (by rfl) T.z_isinstance (by decide +kernel) (pa_cons (pv 1) (pa_cons (pe_bltn (v := .ty "tuple") (u := .type "tuple") (by rfl) T.z_tuple (by decide +kernel) rfl) pa_nil))))) (pw_or1 (pt_cmpR op_ne (pe_callB call_len_seq (by rfl) T.z_len (by decide +kernel) (pa_cons (pv 1) pa_nil)) pe_int (nomark _))))) (pss_one (ps_ret pe_bl)) pss_nil)
      (pss_cons (ps_asg (pv 1) (pg_tup rfl (pgs_cons (pg_name (i := 2) sc_is_fact.nd rfl (by first | exact .inl rfl | exact .inr rfl)) (pgs_cons (pg_name (i := 3) sc_is_fact.nd rfl (by first | exact .inl rfl | exact .inr rfl)) pgs_nil))))
      (pss_cons (ps_if (PW.pt (pw_or (pt_not (pt_val (pe_call (ok_is_name T) (hr.mono (by decide)) rfl T.g_is_name T.F_is_name.kp (bi_is_name T) .nil pass0 (pa_cons (pv 2) pa_nil)))) (pw_or1 (pt_cmp (pc_dnotin (hu_of hr) (pv 2) (pv 0)))))) (pss_one (ps_ret pe_bl)) pss_nil)
      (pss_one (ps_ret (pe_call (ok_are_names T) (hr.mono (by decide)) rfl T.g_are_names T.F_are_names.kp (bi_are_names T) .nil pass0 (pa_cons (pv 3) (pa_cons (pe_dget (hu_of hr) (pv 0) (pv 2) (fun _ _ => rfl)) pa_nil)))))))), ?_⟩
  refine ⟨_, rfl, _, _, _, _, true, rfl, ClsV.ty _, TyX.base (.tup hk), kit_ty (by decide +kernel), _, rfl, iteF ?_⟩
  refine ⟨_, rfl, ka, _, rfl, .inr (SqT.of hk), rfl, _, rfl, iteF ?_⟩
  refine ⟨_, rfl, ka, _, rfl, SqT.of hk, rfl, _, _, rfl, _, _, rfl, rfl, ?_⟩
  refine ⟨_, rfl, .str f.1, rfl, .str _, (fun z e => by cases e; exact hs.1), fun H1 s1 => ⟨_, rfl, ?_⟩⟩
  have hdr := s1 _ _ hdr
  cases e1 : isN (.str f.1) with
  | false =>
    have e2 : isFct rel f = false := by
      unfold isFct
      rw [e1]
      rfl
    rw [e2] at q
    exact iteT (iteT (q H1 s1))
  | true =>
    refine iteF ?_
    refine ⟨_, rfl, _, rfl, dr, _, rfl, DGet.k (k := Sum.inr f.1) hdr, _, rfl, ?_⟩
    rw [relK_val]
    cases e2 : relAt rel f.1 with
    | none =>
      have e3 : isFct rel f = false := by
        unfold isFct
        rw [e1, e2]
        rfl
      rw [e3] at q
      exact iteT (q H1 s1)
    | some m =>
      have e3 : isFct rel f = (decide ((f.2.length : Int) = m) && f.2.all fun n => isN (.str n)) := by
        unfold isFct
        rw [e1, e2]
        rfl
      refine iteF ?_
      have g : DGet H1 dr (.str f.1) (some (.int m)) := by
        have z := DGet.k (k := (Sum.inr f.1 : L2.Key)) hdr
        rw [relK_val, e2] at z
        exact z
      refine ⟨_, rfl, _, rfl, _, rfl, dr, _, rfl, g, ?_⟩
      rw [e3] at q
      have hn := s1 _ _ hn
      refine ⟨.ref na, m, _, rfl, .inr ⟨na, _, rfl, hn, by rw [List.length_map]; exact hs.2.1, ?_⟩, fun H2 s2 => q H2 (s1.trans s2)⟩
      rw [List.length_map]
      by_cases c : (f.2.length : Int) = m
      · refine .inr ⟨c, fun v hv => ?_, ?_⟩
        · obtain ⟨n, hn, rfl⟩ := List.mem_map.mp hv
          exact ⟨.str n, fun z e => by cases e; exact hs.2.2 n hn⟩
        · rw [decide_eq_true c, List.all_map]
          rfl
      · refine .inl ⟨c, ?_⟩
        rw [decide_eq_false c]
        rfl
/-! ### checked_relations -/
theorem dget_frz {H : Hp} {dr : Addr} {od : Obj} {rel : Rel} {r : Str} {m : Int} (e : H dr = some (.frz od (.dK (relK rel)))) (hm : relAt rel r = some m) : DGet H dr (.str r) (some (.int m)) := by
  refine .inl ⟨relK rel, Sum.inr r, .inr ⟨od, e⟩, rfl, ?_⟩
  rw [relK_val, hm]
  rfl
theorem relAt_get {rel : Rel} (n : (rel.map (·.1)).Nodup) : ∀ {i : Nat} {p : Str × Int}, rel[i]? = some p → relAt rel p.1 = some p.2 := by
  induction rel with
  | nil =>
    intro i p h
    cases h
  | cons q x ih =>
    obtain ⟨n1, n2⟩ := List.nodup_cons.mp n
    intro i p h
    cases i with
    | zero =>
      obtain rfl : q = p := Option.some.inj h
      simp [relAt, List.find?_cons]
    | succ i =>
      have h : x[i]? = some p := h
      have ne : q.1 ≠ p.1 := fun z => n1 (List.mem_map.mpr ⟨p, List.mem_of_getElem? h, z.symm⟩)
      have e : relAt (q :: x) p.1 = relAt x p.1 := by simp [relAt, List.find?_cons, ne]
      rw [e]
      exact ih n2 h
theorem relK_get {rel : Rel} {i : Nat} {k : L2.Key} {v : V} (h : (relK rel)[i]? = some (k, v)) : ∃ p, rel[i]? = some p ∧ k = Sum.inr p.1 ∧ v = .int p.2 := by
  unfold relK at h
  rw [List.getElem?_map] at h
  cases e : rel[i]? with
  | none =>
    rw [e] at h
    cases h
  | some p =>
    rw [e] at h
    have h := Option.some.inj h
    exact ⟨p, rfl, (congrArg Prod.fst h).symm, (congrArg Prod.snd h).symm⟩
theorem relK_put {rel : Rel} {p : Str × Int} (n : p.1 ∉ rel.map (·.1)) : putK (relK rel) (Sum.inr p.1 : L2.Key) (.int p.2) = relK (rel ++ [p]) := by
  have z : valV (relK rel) (Sum.inr p.1 : L2.Key) = none := by
    rw [relK_val]
    have e : relAt rel p.1 = none := by
      unfold relAt
      rw [List.find?_eq_none.mpr fun q hq => ?_]
      · rfl
      · intro c
        exact n (List.mem_map.mpr ⟨q, hq, of_decide_eq_true c⟩)
    rw [e]
    rfl
  rw [putK_new _ z]
  unfold relK
  rw [List.map_append]
  rfl
def spChecked (C : Addr) : Sp := fun vs H Q E => ∃ dr rel, vs = [.ref dr] ∧ H dr = some (.dK (relK rel)) ∧ ShortR rel ∧ (rel.map (·.1)).Nodup ∧
  ((rel.all okR = true ∧ ∃ srt, Sorts rel srt ∧ ∀ H' p, Same H H' → H p = none → H' p = some (.dK (relK srt)) → Q (.ref p) H') ∨
   (∃ pre b post, rel = pre ++ b :: post ∧ pre.all okR = true ∧ okR b = false ∧ ∀ d H', H d = none → Keep dr H H' → H' d = some (.xd [(("name" : Str), .str b.1)]) → E (.ref C) (some d) H'))
theorem ok_checked_relations (T : Txt K mg ad fds cs) : FnOk P w K mg base (L2N.CX P w) 2 (ad 18) (fds 18) ["relations"] (spChecked (ad 5999)) := by
  refine Fun.okN T.F_checked_relations sc_checked_relations (fun vs H Q E h => ?_) (fun cdv A outer s H vs Q E hr h => ?_)
  · obtain ⟨dr, rel, rfl, _⟩ := h
    rfl
  obtain ⟨dr, rel, rfl, hdr, hs, hnd, h⟩ := h
  have hu := hu_of hr
  refine ⟨_, (pss_cons (ps_lock (ps_for PassesOwn.leaving rfl (pi_keys (pv 0)) (pg_name (i := 1) sc_checked_relations.nd rfl (by first | exact .inl rfl | exact .inr rfl))
      (pss_cons (ps_set (i := 2) sc_checked_relations.nd rfl (by first | exact .inl rfl | exact .inr rfl) (pe_dget (hu_of hr) (pv 0) (pv 1) (fun _ _ => rfl)))
      (pss_one (ps_if (PW.pt (pw_or (pt_not (pt_val (pe_call (ok_is_name T) (hr.mono (by decide)) rfl T.g_is_name T.F_is_name.kp (bi_is_name T) .nil pass0 (pa_cons (pv 1) pa_nil)))) (pw_or (pt_not (pt_val (pe_call (ok_is_integer T) (hr.mono (by decide)) rfl T.g_is_integer T.F_is_integer.kp (bi_is_integer T) .nil pass0 (pa_cons (pv 2) pa_nil)))) (pw_or1 (pt_not (pt_chain op_le op_le pe_int (pv 2) (pe_glob rfl T.c_MOST_NAMES T.r_MOST_NAMES))))))) (pss_one (ps_raise_BadRelations rfl T.x_BadRelations (hr.mono (Nat.zero_le _)) (L2N.takes_of rfl rfl rfl rfl) (by exact (pa_cons (pv 1) pa_nil)))) pss_nil)))))
      (pss_one (ps_ret (pe_dc (own := [("name", 1)]) rfl sc_checked_relations.nd (pi_list (pe_callB (call_sortedD rfl) (by rfl) T.z_sorted (by decide +kernel) (pa_cons (pv 0) pa_nil))) (blkOk_by (N := N_checked_relations) (sc := defScope s_checked_relations) (own := [("name", 1)]) (by decide +kernel)) (fun _ _ _ _ _ => by exact (pg_name (i := 1) sc_checked_relations.nd rfl (.inl rfl))) (fun _ _ _ _ _ => by exact pts_nil) (fun _ _ _ _ _ => by exact (pv 1)) (fun _ _ _ _ _ => by exact (pe_dget (hu_of hr) (pv 0) (pv 1) (fun _ _ => rfl))))))), ?_⟩
  refine ⟨dr, _, hdr, True.intro, fun od => ?_⟩
  have kl : (relK rel).length = rel.length := List.length_map ..
  refine ⟨_, rfl, dr, od, rfl, .inl ⟨relK rel, upd_same, ?_⟩⟩
  have start : Keep dr H (upd H dr (.frz od (.dK (relK rel)))) := fun b o n e => (upd_ne n).trans e
  rcases h with ⟨hok, srt, hsrt, q⟩ | ⟨pre, b, post, erel, hok, hb, q⟩
  · refine for_it walk_keys (fun i σ H1 => ∃ (y1 y2 : Option V), σ = [some (.ref dr), y1, y2] ∧ Keep dr H H1 ∧ H1 dr = some (.frz od (.dK (relK rel)))) ⟨none, none, rfl, start, upd_same⟩ (fun i σ H1 _ ⟨_, _, _, _, e⟩ => e) ?_ ?_
    · rintro i x σ H1 H1' hi ⟨y1, y2, rfl, k1, e1⟩ ⟨rfl, k, v, hk, rfl⟩
      obtain ⟨p, hp, rfl, rfl⟩ := relK_get hk
      obtain ⟨o1, o2⟩ : isN (.str p.1) = true ∧ (1 ≤ p.2 ∧ p.2 ≤ 4) := by
        have z := List.all_eq_true.mp hok p (List.mem_of_getElem? hp)
        unfold okR at z
        rw [Bool.and_eq_true, decide_eq_true_eq] at z
        exact z
      refine ⟨_, rfl, _, rfl, dr, _, rfl, dget_frz e1 (relAt_get hnd hp), ?_⟩
      refine ⟨_, rfl, .str p.1, rfl, .str _, (fun z e => by cases e; exact hs.2 p (List.mem_of_getElem? hp)), fun H2 s2 => ⟨_, rfl, ?_⟩⟩
      rw [o1]
      refine iteF ⟨_, rfl, .int p.2, rfl, .int _, _, rfl, iteF ?_⟩
      refine ⟨_, rfl, 1, p.2, rfl, rfl, _, rfl, ?_⟩
      refine ifT o2.1 ⟨p.2, 4, rfl, rfl, _, rfl, ?_⟩
      rw [decide_eq_true o2.2]
      exact iteF ⟨_, _, rfl, k1.trans (keepOf s2), s2 _ _ e1⟩
    · rintro σ H1 ⟨y1, y2, rfl, k1, e1⟩
      refine ⟨e1, ?_⟩
      have same : Same H (upd H1 dr (.dK (relK rel))) := fun c o e => by
        by_cases z : c = dr
        · rw [z, upd_same, ← hdr, ← e, z]
        · rw [upd_ne z]
          exact k1 c o z e
      have hdr2 : upd H1 dr (.dK (relK rel)) dr = some (.dK (relK rel)) := upd_same
      generalize upd H1 dr (.dK (relK rel)) = H2 at same hdr2
      refine ⟨_, rfl, dr, relK rel, rel.map (·.1), rfl, .inl hdr2, ?_, by rw [List.length_map]; have := hs.1; omega, fun ys t hperm hsort nt => ?_⟩
      · unfold relK
        rw [List.map_map, List.map_map]
        rfl
      obtain ⟨s1, s2, s3, s4⟩ := hsrt
      have eys := s1 ys hperm hsort
      subst eys
      have t1 := same_upd (o := .lst ((srt.map (·.1)).map V.str)) nt
      have ht : upd H2 t (.lst ((srt.map (·.1)).map V.str)) t = some (.lst ((srt.map (·.1)).map V.str)) := upd_same
      have hdr3 := t1 _ _ hdr2
      have same3 := same.trans t1
      generalize upd H2 t (.lst ((srt.map (·.1)).map V.str)) = H3 at ht hdr3 same3
      refine ⟨t, rfl, ⟨_, SqL.of ht⟩, fun D nD => ?_⟩
      have nl : ((srt.map (·.1)).map V.str).length = srt.length := by rw [List.length_map, List.length_map]
      refine dc_it (walk_list (K := K) (a := t) (xs := (srt.map (·.1)).map V.str)) (fun i H4 => Same H3 H4 ∧ H4 D = some (.dK (relK (srt.take i)))) ⟨same_upd nD, upd_same⟩ (fun i H4 _ h => SqL.of (h.1 _ _ ht)) ?_ ?_
      · rintro i x H4 H4' hi ⟨u1, u2⟩ ⟨rfl, hx⟩
        obtain ⟨p, hp, rfl⟩ : ∃ p, srt[i]? = some p ∧ x = .str p.1 := by
          rw [List.getElem?_map, List.getElem?_map] at hx
          cases e : srt[i]? with
          | none =>
            rw [e] at hx
            cases hx
          | some p =>
            rw [e] at hx
            exact ⟨p, rfl, (Option.some.inj hx).symm⟩
        have g : DGet H4' dr (.str p.1) (some (.int p.2)) := by
          have z := DGet.k (k := (Sum.inr p.1 : L2.Key)) (u1 _ _ hdr3)
          rw [relK_val, s4 p (List.mem_of_getElem? hp)] at z
          exact z
        refine ⟨rfl, _, rfl, _, rfl, _, rfl, dr, _, rfl, g, relK (srt.take i), Sum.inr p.1, rfl, u2, ofNat_lt ?_, same_at u1 nD, ?_⟩
        · unfold relK
          rw [List.length_map, List.length_take]
          have := hs.1
          omega
        · rw [upd_same, relK_put, List.take_add_one, hp]
          · rfl
          · intro z
            rw [List.map_take] at z
            obtain ⟨j, hj, ej⟩ := List.mem_take_iff_getElem.mp z
            have lt : i < (srt.map (·.1)).length := by
              rw [List.length_map]
              exact (List.getElem?_eq_some_iff.mp hp).1
            have e1 : (srt.map (·.1))[i]? = some p.1 := by
              rw [List.getElem?_map, hp]
              rfl
            have e2 : (srt.map (·.1))[i]'lt = p.1 := (List.getElem?_eq_some_iff.mp e1).2
            exact List.pairwise_iff_getElem.mp s2 j i (by omega) lt (by omega) (ej.trans e2.symm)
      · rintro H4 ⟨u1, u2⟩
        rw [nl, List.take_length] at u2
        exact q H4 D (same3.trans u1) (same3.free nD) u2
  · subst erel
    refine for_it walk_keys (fun i σ H1 => ∃ (y1 y2 : Option V), σ = [some (.ref dr), y1, y2] ∧ Keep dr H H1 ∧ H1 dr = some (.frz od (.dK (relK (pre ++ b :: post)))) ∧ i ≤ pre.length) ⟨none, none, rfl, start, upd_same, Nat.zero_le _⟩ (fun i σ H1 _ ⟨_, _, _, _, e, _⟩ => e) ?_ ?_
    · rintro i x σ H1 H1' hi ⟨y1, y2, rfl, k1, e1, il⟩ ⟨rfl, k, v, hk, rfl⟩
      obtain ⟨p, hp, rfl, rfl⟩ := relK_get hk
      have short := hs.2 p (List.mem_of_getElem? hp)
      refine ⟨_, rfl, _, rfl, dr, _, rfl, dget_frz e1 (relAt_get hnd hp), ?_⟩
      refine ⟨_, rfl, .str p.1, rfl, .str _, (fun z e => by cases e; exact short), fun H2 s2 => ⟨_, rfl, ?_⟩⟩
      by_cases c : i < pre.length
      · rw [List.getElem?_append_left c] at hp
        obtain ⟨o1, o2⟩ : isN (.str p.1) = true ∧ (1 ≤ p.2 ∧ p.2 ≤ 4) := by
          have z := List.all_eq_true.mp hok p (List.mem_of_getElem? hp)
          unfold okR at z
          rw [Bool.and_eq_true, decide_eq_true_eq] at z
          exact z
        rw [o1]
        refine iteF ⟨_, rfl, .int p.2, rfl, .int _, _, rfl, iteF ?_⟩
        refine ⟨_, rfl, 1, p.2, rfl, rfl, _, rfl, ?_⟩
        refine ifT o2.1 ⟨p.2, 4, rfl, rfl, _, rfl, ?_⟩
        rw [decide_eq_true o2.2]
        exact iteF ⟨_, _, rfl, k1.trans (keepOf s2), s2 _ _ e1, c⟩
      · have ei : i = pre.length := by omega
        subst ei
        rw [List.getElem?_append_right (Nat.le_refl _), Nat.sub_self] at hp
        obtain rfl : b = p := Option.some.inj hp
        have raised : ∀ (d : Addr), H2 d = none → E (.ref (ad 5999)) (some d) (upd H2 d (.xd [(("name" : Str), .str b.1)])) := fun d nd => by
          have nd1 : H1' d = none := s2.free nd
          have nd0 : H d = none := by
            cases e : H d with
            | none => rfl
            | some o =>
              have z : d ≠ dr := fun z => by
                rw [z, e1] at nd1
                cases nd1
              rw [k1 d o z e] at nd1
              cases nd1
          exact q d _ nd0 (keep_at (k1.trans (keepOf s2)) nd0) upd_same
        cases o1 : isN (.str b.1) with
        | false => exact iteT ⟨_, rfl, _, rfl, raised⟩
        | true =>
          refine iteF ⟨_, rfl, .int b.2, rfl, .int _, _, rfl, iteF ?_⟩
          refine ⟨_, rfl, 1, b.2, rfl, rfl, _, rfl, ?_⟩
          have o2 : ¬ (1 ≤ b.2 ∧ b.2 ≤ 4) := by
            unfold okR at hb
            rw [o1, Bool.true_and] at hb
            exact of_decide_eq_false hb
          by_cases c1 : 1 ≤ b.2
          · refine ifT c1 ⟨b.2, 4, rfl, rfl, _, rfl, ?_⟩
            rw [decide_eq_false fun z => o2 ⟨c1, z⟩]
            exact iteT ⟨_, rfl, _, rfl, raised⟩
          · exact ifF c1 ⟨_, rfl, iteT ⟨_, rfl, _, rfl, raised⟩⟩
    · rintro σ H1 ⟨y1, y2, rfl, k1, e1, il⟩
      rw [kl, List.length_append, List.length_cons] at il
      omega
end
end Yj
set_option Elab.async false
set_option linter.all false
set_option maxRecDepth 100000
set_option maxHeartbeats 4000000
set_option pp.maxSteps 1500
namespace Yj
open PySem PySem.Spec PyProof.Rows L2 RZ
section
variable {P : Program} {w : World} {K : PySem.W.Frag} {mg : Str → Option Value} {base : Heap} {ad : Nat → Addr} {fds : Nat → FuncData} {cs : Nat → Value}
/-! ### _law_days -/
def daysL : List Int := (List.range 11).map (fun i : Nat => (i : Int)) ++ (List.range 9).map (fun i : Nat => 999991 + (i : Int))
def spDays : Sp := fun vs H Q _ => vs = [] ∧ ∀ r H', Same H H' → H r = none → H' r = some (.lst (daysL.map V.int)) → Q (.ref r) H'
theorem ok__law_days (T : Txt K mg ad fds cs) : FnOk P w K mg base CX0 1 (ad 56) (fds 56) [] spDays := by
  refine T.F__law_days.ok sc__law_days (fun vs H Q E h => ?_) (fun cdv A outer s H vs Q E hr h => ?_)
  · obtain ⟨rfl, _⟩ := h
    rfl
  obtain ⟨rfl, q⟩ := h
  refine ⟨_, (pss_one (ps_ret (pe_op op_cat (pe_listRg rfl (by rfl) T.z_list (prg_1 (by rfl) T.z_range pe_int)) (pe_listRg rfl (by rfl) T.z_list (prg_2 (by rfl) T.z_range pe_int pe_int))))), ?_⟩
  refine ⟨11, rfl, RgOk.of_le (by decide) (by decide) (by decide) (by decide), fun r1 n1 => ?_⟩
  have s1 := same_upd (o := .lst (rgV 0 11)) n1
  refine ⟨999991, 1000000, rfl, rfl, RgOk.of_le (by decide) (by decide) (by decide) (by decide), fun r2 n2 => ?_⟩
  have s2 := same_upd (o := .lst (rgV 999991 1000000)) n2
  refine ⟨r1, r2, _, _, rfl, rfl, s2 _ _ upd_same, upd_same, ofNat_le (by rw [rgV_length, rgV_length]; decide), fun p np => ?_⟩
  have s3 := same_upd (o := .lst (rgV 0 11 ++ rgV 999991 1000000)) np
  refine q p _ ((s1.trans s2).trans s3) ((s1.trans s2).free np) ?_
  rw [upd_same]
  rfl
end
end Yj
set_option Elab.async false
set_option linter.all false
set_option maxRecDepth 100000
set_option maxHeartbeats 4000000
set_option pp.maxSteps 1500
namespace Yj
open PySem PySem.Spec PyProof.Rows L2 RZ YjD
/-! ### changes -/
def wordOk : V → Bool
  | .str z => decide (z = "set") || decide (z = "clear")
  | _ => false
def spanOk (f l : V) : Bool := isD f && isD l && (match f, l with | .int i, .int j => decide (i ≤ j) | _, _ => false)
def relOf (rel : Rel) (r : V) : Option Int := if isN r then (match r with | .str z => relAt rel z | _ => none) else none
/-- what is wrong of a change, of anything -/
def FaultV (H : Hp) (rel : Rel) (x : V) (k : Option Str) : Prop :=
  (Pl H x ∧ (∀ a, x = .ref a → ∃ xs, H a = some (.lst xs)) ∧ k = some ("form" : Str)) ∨
  ∃ t xs, x = .ref t ∧ H t = some (.tup xs) ∧ ((xs.length ≠ 5 ∧ k = some ("form" : Str)) ∨
    ∃ w r n f l, xs = [w, r, n, f, l] ∧ Pl H w ∧ ((wordOk w = false ∧ k = some ("word" : Str)) ∨ (wordOk w = true ∧ Pl H r ∧ Short r ∧ ((relOf rel r = none ∧ k = some ("relation" : Str)) ∨
      ∃ m b, relOf rel r = some m ∧ NamesV H n m b ∧ ((b = false ∧ k = some ("names" : Str)) ∨ (b = true ∧ Pl H f ∧ Pl H l ∧ k = if spanOk f l = true then none else some ("days" : Str)))))))
def oV : Option Str → V
  | none => .non
  | some z => .str z
theorem NamesV.mono {H H' : Hp} {x : V} {m : Int} {k : Bool} (s : Same H H') (h : NamesV H x m k) : NamesV H' x m k := by
  rcases h with ⟨h1, h2, h3⟩ | ⟨a, xs, h1, h2, h4, h3⟩
  · refine .inl ⟨h1.mono s, h2, fun a e => ?_⟩
    obtain ⟨xs, h⟩ := h3 a e
    exact ⟨xs, s _ _ h⟩
  · refine .inr ⟨a, xs, h1, s _ _ h2, h4, ?_⟩
    rcases h3 with h3 | ⟨e1, e2, e3⟩
    · exact .inl h3
    · exact .inr ⟨e1, fun v hv => ⟨(e2 v hv).1.mono s, (e2 v hv).2⟩, e3⟩
theorem FaultV.mono {H H' : Hp} {rel : Rel} {x : V} {k : Option Str} (s : Same H H') (h : FaultV H rel x k) : FaultV H' rel x k := by
  rcases h with ⟨h1, h2, h3⟩ | ⟨t, xs, h1, h2, h3⟩
  · refine .inl ⟨h1.mono s, fun a e => ?_, h3⟩
    obtain ⟨xs, h⟩ := h2 a e
    exact ⟨xs, s _ _ h⟩
  refine .inr ⟨t, xs, h1, s _ _ h2, ?_⟩
  rcases h3 with h3 | ⟨w, r, n, f, l, e, hw, h3⟩
  · exact .inl h3
  refine .inr ⟨w, r, n, f, l, e, hw.mono s, ?_⟩
  rcases h3 with h3 | ⟨e1, hr, hs, h3⟩
  · exact .inl h3
  refine .inr ⟨e1, hr.mono s, hs, ?_⟩
  rcases h3 with h3 | ⟨m, b, e2, hn, h3⟩
  · exact .inl h3
  refine .inr ⟨m, b, e2, hn.mono s, ?_⟩
  rcases h3 with h3 | ⟨e3, hf, hl, h3⟩
  · exact .inl h3
  · exact .inr ⟨e3, hf.mono s, hl.mono s, h3⟩
def spFault : Sp := fun vs H Q _ => ∃ dr rel x k, vs = [.ref dr, x] ∧ H dr = some (.dK (relK rel)) ∧ FaultV H rel x k ∧ ∀ H', Same H H' → Q (oV k) H'
section
variable {P : Program} {w : World} {K : PySem.W.Frag} {mg : Str → Option Value} {base : Heap} {ad : Nat → Addr} {fds : Nat → FuncData} {cs : Nat → Value}
theorem ok_change_fault (T : Txt K mg ad fds cs) : FnOk P w K mg base CX0 4 (ad 34) (fds 34) ["relations", "change"] spFault := by
  refine T.F_change_fault.ok sc_change_fault (fun vs H Q E h => ?_) (fun cdv A outer s H vs Q E hr h => ?_)
  · obtain ⟨dr, rel, x, k, rfl, _⟩ := h
    rfl
  obtain ⟨dr, rel, x, k, rfl, hdr, hx, q⟩ := h
  have hu := hu_of hr
  refine ⟨_, (pss_cons (ps_if (PW.pt (pw_or (pt_not (pt_val (pe_callB call_isi (by rfl) T.z_isinstance (by decide +kernel) (pa_cons (pv 1) (pa_cons (pe_bltn (v := .ty "tuple") (u := .type "tuple") (by rfl) T.z_tuple (by decide +kernel) rfl) pa_nil))))) (pw_or1 (pt_cmpR op_ne (pe_callB call_len_seq (by rfl) T.z_len (by decide +kernel) (pa_cons (pv 1) pa_nil)) pe_int (nomark _))))) (pss_one (ps_ret pe_str)) pss_nil)
      (pss_cons (ps_asg (pv 1) (pg_tup rfl (pgs_cons (pg_name (i := 2) sc_change_fault.nd rfl (by first | exact .inl rfl | exact .inr rfl)) (pgs_cons (pg_name (i := 3) sc_change_fault.nd rfl (by first | exact .inl rfl | exact .inr rfl)) (pgs_cons (pg_name (i := 4) sc_change_fault.nd rfl (by first | exact .inl rfl | exact .inr rfl)) (pgs_cons (pg_name (i := 5) sc_change_fault.nd rfl (by first | exact .inl rfl | exact .inr rfl)) (pgs_cons (pg_name (i := 6) sc_change_fault.nd rfl (by first | exact .inl rfl | exact .inr rfl)) pgs_nil)))))))
      (pss_cons (ps_if (PW.pt (pw_or (pt_not (pt_val (pe_callB call_isi (by rfl) T.z_isinstance (by decide +kernel) (pa_cons (pv 2) (pa_cons (pe_bltn (v := .ty "str") (u := .type "str") (by rfl) T.z_str (by decide +kernel) rfl) pa_nil))))) (pw_or1 (pt_cmpR op_notIn_seq (pv 2) (pe_tup (pa_cons (pe_glob rfl T.c_SET T.r_SET) (pa_cons (pe_glob rfl T.c_CLEAR T.r_CLEAR) pa_nil))) (by rfl))))) (pss_one (ps_ret pe_str)) pss_nil)
      (pss_cons (ps_if (PW.pt (pw_or (pt_not (pt_val (pe_call (ok_is_name T) (hr.mono (by decide)) rfl T.g_is_name T.F_is_name.kp (bi_is_name T) .nil pass0 (pa_cons (pv 3) pa_nil)))) (pw_or1 (pt_cmp (pc_dnotin (hu_of hr) (pv 3) (pv 0)))))) (pss_one (ps_ret pe_str)) pss_nil)
      (pss_cons (ps_if (pt_not (pt_val (pe_call (ok_are_names T) (hr.mono (by decide)) rfl T.g_are_names T.F_are_names.kp (bi_are_names T) .nil pass0 (pa_cons (pv 4) (pa_cons (pe_dget (hu_of hr) (pv 0) (pv 3) (fun _ _ => rfl)) pa_nil))))) (pss_one (ps_ret pe_str)) pss_nil)
      (pss_cons (ps_if (pt_not (pt_val (pe_call (ok_is_span T) (hr.mono (by decide)) rfl T.g_is_span T.F_is_span.kp (bi_is_span T) .nil pass0 (pa_cons (pe_tup (pa_cons (pv 5) (pa_cons (pv 6) pa_nil))) pa_nil)))) (pss_one (ps_ret pe_str)) pss_nil)
      (pss_one (ps_ret pe_non)))))))), ?_⟩
  rcases hx with ⟨hx, hl, rfl⟩ | ⟨t, xs, rfl, ht, hx⟩
  · have q := q H (Same.refl H)
    cases hx with
    | non => exact ⟨_, rfl, _, _, _, _, false, rfl, ClsV.ty _, TyX.base .non, kit_ty (by decide +kernel), _, rfl, iteT (iteT q)⟩
    | bl b => exact ⟨_, rfl, _, _, _, _, false, rfl, ClsV.ty _, TyX.base (.bl b), kit_ty (by decide +kernel), _, rfl, iteT (iteT q)⟩
    | int i => exact ⟨_, rfl, _, _, _, _, false, rfl, ClsV.ty _, TyX.base (.int i), kit_ty (by decide +kernel), _, rfl, iteT (iteT q)⟩
    | str x => exact ⟨_, rfl, _, _, _, _, false, rfl, ClsV.ty _, TyX.base (.str x), kit_ty (by decide +kernel), _, rfl, iteT (iteT q)⟩
    | lst h => exact ⟨_, rfl, _, _, _, _, false, rfl, ClsV.ty _, TyX.base (.lst h), kit_ty (by decide +kernel), _, rfl, iteT (iteT q)⟩
    | @tup a xs h =>
      obtain ⟨ys, e⟩ := hl a rfl
      rw [h] at e
      cases e
  refine ⟨_, rfl, _, _, _, _, true, rfl, ClsV.ty _, TyX.base (.tup ht), kit_ty (by decide +kernel), _, rfl, iteF ?_⟩
  refine ⟨_, rfl, t, xs, rfl, .inr (SqT.of ht), rfl, _, rfl, ?_⟩
  rcases hx with ⟨hn, rfl⟩ | ⟨wd, r, n, f, l, rfl, hw, hx⟩
  · have e : (!decide (V.int (xs.length : Nat) = V.int 5)) = true := by
      rw [decide_eq_false fun z => hn (by have := V.int.inj z; omega)]
      rfl
    rw [e]
    exact iteT (q H (Same.refl H))
  refine iteF ?_
  refine ⟨_, rfl, t, _, rfl, SqT.of ht, rfl, _, _, rfl, _, _, rfl, _, _, rfl, _, _, rfl, _, _, rfl, rfl, ?_⟩
  have bad : wordOk wd = false → k = some ("word" : Str) := fun e => by
    rcases hx with ⟨_, e2⟩ | ⟨e1, _⟩
    · exact e2
    · rw [e] at e1
      cases e1
  have noStr : wordOk wd = false → Q (.str "word") H := fun e => by
    have z := q H (Same.refl H)
    rw [bad e] at z
    exact z
  cases hw with
  | non => exact ⟨_, rfl, _, _, _, _, false, rfl, ClsV.ty _, TyX.base .non, kit_ty (by decide +kernel), _, rfl, iteT (iteT (noStr rfl))⟩
  | bl b => exact ⟨_, rfl, _, _, _, _, false, rfl, ClsV.ty _, TyX.base (.bl b), kit_ty (by decide +kernel), _, rfl, iteT (iteT (noStr rfl))⟩
  | int i => exact ⟨_, rfl, _, _, _, _, false, rfl, ClsV.ty _, TyX.base (.int i), kit_ty (by decide +kernel), _, rfl, iteT (iteT (noStr rfl))⟩
  | lst h => exact ⟨_, rfl, _, _, _, _, false, rfl, ClsV.ty _, TyX.base (.lst h), kit_ty (by decide +kernel), _, rfl, iteT (iteT (noStr rfl))⟩
  | tup h => exact ⟨_, rfl, _, _, _, _, false, rfl, ClsV.ty _, TyX.base (.tup h), kit_ty (by decide +kernel), _, rfl, iteT (iteT (noStr rfl))⟩
  | str z =>
    refine ⟨_, rfl, _, _, _, _, true, rfl, ClsV.ty _, TyX.base (.str z), kit_ty (by decide +kernel), _, rfl, iteF ?_⟩
    refine ⟨_, rfl, (by show 2 ≤ sizeLine; decide), fun p np => ⟨p, _, rfl, .inr (SqT.of upd_same), rfl, rfl, _, rfl, ?_⟩⟩
    have s1 := same_upd (o := .tup [.str "set", .str "clear"]) np
    have ein : inV (.str z) [.str "set", .str "clear"] = wordOk (.str z) := by
      show ((("set" : Str) == z) || ((("clear" : Str) == z) || false)) = (decide (z = "set") || decide (z = "clear"))
      rw [Bool.or_false, Bool.eq_iff_iff, Bool.or_eq_true, Bool.or_eq_true, beq_iff_eq, beq_iff_eq, decide_eq_true_eq, decide_eq_true_eq]
      exact or_congr ⟨Eq.symm, Eq.symm⟩ ⟨Eq.symm, Eq.symm⟩
    rw [ein]
    have hdr := s1 _ _ hdr
    generalize upd H p (.tup [.str "set", .str "clear"]) = H1 at s1 hdr
    rcases hx with ⟨e1, rfl⟩ | ⟨e1, hrp, hrs, hx⟩
    · rw [e1]
      exact iteT (q H1 s1)
    rw [e1]
    refine iteF ?_
    refine ⟨_, rfl, r, rfl, hrp.mono s1, hrs, fun H2 s2 => ⟨_, rfl, ?_⟩⟩
    have hdr := s2 _ _ hdr
    have s12 := s1.trans s2
    have noRel : relOf rel r = none → Q (.str "relation") H2 := fun e => by
      rcases hx with ⟨_, e2⟩ | ⟨m, b, e2, _⟩
      · have z := q H2 s12
        rw [e2] at z
        exact z
      · rw [e] at e2
        cases e2
    cases er : isN r with
    | false =>
      refine iteT (iteT (noRel ?_))
      unfold relOf
      rw [er]
      rfl
    | true =>
      obtain ⟨y, rfl⟩ : ∃ y, r = .str y := by
        cases r <;> first | exact ⟨_, rfl⟩ | cases er
      have ey : relOf rel (.str y) = relAt rel y := by
        unfold relOf
        rw [er]
        rfl
      refine iteF ⟨_, rfl, _, rfl, dr, _, rfl, DGet.k (k := Sum.inr y) hdr, _, rfl, ?_⟩
      rw [relK_val]
      cases em : relAt rel y with
      | none => exact iteT (noRel (ey.trans em))
      | some m =>
        refine iteF ?_
        rcases hx with ⟨e2, _⟩ | ⟨m', b, e2, hn, hx⟩
        · rw [ey, em] at e2
          cases e2
        rw [ey, em] at e2
        obtain rfl : m = m' := Option.some.inj e2
        have g : DGet H2 dr (.str y) (some (.int m)) := by
          have z := DGet.k (k := (Sum.inr y : L2.Key)) hdr
          rw [relK_val, em] at z
          exact z
        refine ⟨_, rfl, _, rfl, _, rfl, dr, _, rfl, g, n, m, b, rfl, hn.mono s12, fun H3 s3 => ⟨_, rfl, ?_⟩⟩
        have s13 := s12.trans s3
        rcases hx with ⟨rfl, rfl⟩ | ⟨rfl, hf, hl, rfl⟩
        · exact iteT (q H3 s13)
        refine iteF ?_
        refine ⟨_, rfl, _, rfl, (by show 2 ≤ sizeLine; decide), fun u nu => ?_⟩
        have s4 := same_upd (o := .tup [f, l]) nu
        have s14 := s13.trans s4
        refine ⟨.ref u, spanOk f l, rfl, .inr ⟨u, _, rfl, upd_same, .inr ⟨f, l, rfl, hf.mono s14, hl.mono s14, rfl⟩⟩, _, rfl, ?_⟩
        have q := q _ s14
        cases es : spanOk f l with
        | false =>
          rw [es] at q
          exact iteT q
        | true =>
          rw [es] at q
          exact iteF q
/-! ### check_change -/
def spCheck (C : Addr) : Sp := fun vs H Q E => ∃ dr rel x k, vs = [.ref dr, x] ∧ H dr = some (.dK (relK rel)) ∧ FaultV H rel x k ∧ (k = none → ∀ H', Same H H' → Q .non H') ∧
  ∀ z, k = some z → ∀ d H', Same H H' → H d = none → H' d = some (.xd [(("word" : Str), .str z)]) → E (.ref C) (some d) H'
theorem ok_check_change (T : Txt K mg ad fds cs) : FnOk P w K mg base (L2N.CX P w) 5 (ad 35) (fds 35) ["relations", "change"] (spCheck (ad 7999)) := by
  refine Fun.okN T.F_check_change sc_check_change (fun vs H Q E h => ?_) (fun cdv A outer s H vs Q E hr h => ?_)
  · obtain ⟨dr, rel, x, k, rfl, _⟩ := h
    rfl
  obtain ⟨dr, rel, x, k, rfl, hdr, hx, q, e⟩ := h
  refine ⟨_, (pss_cons (ps_set (i := 2) sc_check_change.nd rfl (by first | exact .inl rfl | exact .inr rfl) (pe_call (ok_change_fault T) (hr.mono (by decide)) rfl T.g_change_fault T.F_change_fault.kp (bi_change_fault T) .nil pass0 (pa_cons (pv 0) (pa_cons (pv 1) pa_nil))))
      (pss_one (ps_if (pt_cmpR op_notN (pv 2) pe_non (nomark _)) (pss_one (ps_raise_BadChange rfl T.x_BadChange (hr.mono (Nat.zero_le _)) (L2N.takes_of rfl rfl rfl rfl) (by exact (pa_cons (pv 2) pa_nil)))) pss_nil))), ?_⟩
  refine ⟨_, rfl, _, rfl, dr, rel, x, k, rfl, hdr, hx, fun H1 s1 => ?_⟩
  cases k with
  | none =>
    refine ⟨_, rfl, rfl, _, rfl, iteF ?_⟩
    exact q rfl H1 s1
  | some z =>
    refine ⟨_, rfl, rfl, _, rfl, iteT ?_⟩
    refine ⟨_, rfl, _, rfl, fun d nd => ?_⟩
    exact e z rfl d _ (s1.trans (same_upd nd)) (s1.free nd) upd_same
/-! ### row_behind -/
def isIn (word : Str) (l : Sps) (f la d : Int) : Prop := if word = "set" then Mem l d ∨ (f ≤ d ∧ d ≤ la) else Mem l d ∧ ¬ (f ≤ d ∧ d ≤ la)
def FBehind (word : Str) (l : Sps) (f la : Int) (r : Sps) : Prop := Row r ∧ (∀ d, Mem r d ↔ isIn word l f la d) ∧ r.length ≤ l.length + 2
def spBehind : Sp := fun vs H Q _ => ∃ a l t word r n f la, vs = [.ref a, .ref t] ∧ RowT H a l ∧ Row l ∧ l.length ≤ 1000 ∧ H t = some (.tup [.str word, .str r, .ref n, .int f, .int la]) ∧ 0 ≤ f ∧ f ≤ la ∧ la ≤ 999999 ∧
  ∀ r, FBehind word l f la r → BackT H Q r
theorem ok_row_behind (T : Txt K mg ad fds cs) : FnOk P w K mg base CX0 3 (ad 36) (fds 36) ["row", "change"] spBehind := by
  refine T.F_row_behind.ok sc_row_behind (fun vs H Q E h => ?_) (fun cdv A outer s H vs Q E hr h => ?_)
  · obtain ⟨a, l, t, word, r, n, f, la, rfl, _⟩ := h
    rfl
  obtain ⟨a, l, t, word, r, n, f, la, rfl, ha, rl, hz, ht, h0, h1, h2, q⟩ := h
  refine ⟨_, (pss_cons (ps_set (i := 2) sc_row_behind.nd rfl (by first | exact .inl rfl | exact .inr rfl) (pe_tup (pa_cons (pe_tup (pa_cons (pe_ix ix_seq (pv 1) pe_int (fun _ _ => rfl)) (pa_cons (pe_ix ix_seq (pv 1) pe_int (fun _ _ => rfl)) pa_nil))) pa_nil)))
      (pss_one (ps_ret (pe_ifExp (pt_cmpR op_eq (pe_ix ix_seq (pv 1) pe_int (fun _ _ => rfl)) (pe_glob rfl T.c_SET T.r_SET) (nomark _)) (pe_call (ok_union T) (hr.mono (by decide)) rfl T.g_union T.F_union.kp (bi_union T) .nil pass0 (pa_cons (pv 0) (pa_cons (pv 2) pa_nil))) (pe_call (ok_less T) (hr.mono (by decide)) rfl T.g_less T.F_less.kp (bi_less T) .nil pass0 (pa_cons (pv 0) (pa_cons (pv 2) pa_nil))))))), ?_⟩
  refine ⟨_, rfl, .inr (.inl ⟨t, _, 3, _, rfl, rfl, SqT.of ht, atI_nat (j := 3) rfl, ?_⟩)⟩
  refine ⟨_, rfl, .inr (.inl ⟨t, _, 4, _, rfl, rfl, SqT.of ht, atI_nat (j := 4) rfl, ?_⟩)⟩
  refine ⟨(by show 2 ≤ sizeLine; decide), fun p np => ⟨(by show 1 ≤ sizeLine; decide), fun u nu => ?_⟩⟩
  have s1 := (same_upd (o := .tup [.int f, .int la]) np).trans (same_upd (o := .tup [.ref p]) nu)
  have hu : RowT (upd (upd H p (.tup [.int f, .int la])) u (.tup [.ref p])) u [(f, la)] := ⟨_, upd_same, .cons ⟨p, rfl, same_upd nu _ _ upd_same⟩ .nil⟩
  have ha := ha.mono s1
  have ht := s1 _ _ ht
  generalize upd (upd H p (.tup [.int f, .int la])) u (.tup [.ref p]) = H1 at s1 hu ha ht
  have rd : Row [(f, la)] := ⟨⟨h0, h1, True.intro⟩, ⟨⟨h0, h1, h2⟩, True.intro⟩⟩
  have md : ∀ d, Mem [(f, la)] d ↔ f ≤ d ∧ d ≤ la := fun d => by
    show (f ≤ d ∧ d ≤ la) ∨ False ↔ _
    rw [or_false]
  refine ⟨_, rfl, .inr (.inl ⟨t, _, 0, _, rfl, rfl, SqT.of ht, atI_nat (j := 0) rfl, rfl, _, rfl, ?_⟩)⟩
  by_cases c : word = "set"
  · refine ifT (congrArg V.str c) ?_
    refine ⟨_, rfl, _, rfl, a, u, l, [(f, la)], rfl, ha, hu, rl, rd, by omega, (by show 1 ≤ _; decide), fun x ⟨fx, kx, ex⟩ H2 p2 us s2 np2 hp hus => ?_⟩
    refine q x ⟨fx, fun d => ?_, by exact Nat.le_trans ex (by show l.length + 1 ≤ l.length + 2; omega)⟩ H2 p2 us (s1.trans s2) (s1.free np2) hp hus
    unfold isIn
    rw [if_pos c, kx d, md d]
  · refine ifF (fun z => c (V.str.inj z)) ?_
    refine ⟨_, rfl, _, rfl, a, u, l, [(f, la)], rfl, ha, hu, rl, rd, by omega, (by show 1 ≤ _; decide), fun x ⟨fx, kx, ex⟩ H2 p2 us s2 np2 hp hus => ?_⟩
    refine q x ⟨fx, fun d => ?_, by exact Nat.le_trans ex (by show l.length + 1 + 1 ≤ l.length + 2; omega)⟩ H2 p2 us (s1.trans s2) (s1.free np2) hp hus
    unfold isIn
    rw [if_neg c, kx d, md d]
end
end Yj
set_option Elab.async false
set_option linter.all false
set_option maxRecDepth 100000
set_option maxHeartbeats 4000000
set_option pp.maxSteps 1500
namespace Yj
open PySem PySem.Spec PyProof.Rows L2 RZ YjD
/-! ### books -/
abbrev Bk := List (Fct × Sps)
/-- the row of a fact -/
def rowOf (b : Bk) (f : Fct) : Sps := match b.find? (fun p => decide (p.1 = f)) with
  | some p => p.2
  | none => []
/-- values that stand as rows in the heap -/
abbrev RowsAt (H : Hp) : List (Fct × V) → Bk → Prop := Paired fun x y => x.1 = y.1 ∧ ∃ a, x.2 = V.ref a ∧ RowT H a y.2
theorem RowsAt.mono {H H' : Hp} (s : Same H H') {kvs : List (Fct × V)} {b : Bk} (h : RowsAt H kvs b) : RowsAt H' kvs b := Paired.mapP h fun _ _ ⟨e, a, e2, r⟩ => ⟨e, a, e2, r.mono s⟩
theorem RowsAt.keys {H : Hp} {kvs : List (Fct × V)} {b : Bk} (h : RowsAt H kvs b) : kvs.map (·.1) = b.map (·.1) := by
  induction h with
  | nil => rfl
  | cons a t ih => rw [List.map_cons, List.map_cons, ih, a.1]
theorem RowsAt.len {H : Hp} {kvs : List (Fct × V)} {b : Bk} (h : RowsAt H kvs b) : kvs.length = b.length := Paired.length h
theorem rowOf_cons (p : Fct × Sps) (b : Bk) (f : Fct) : rowOf (p :: b) f = if p.1 = f then p.2 else rowOf b f := by
  unfold rowOf
  by_cases e : p.1 = f
  · rw [if_pos e, List.find?_cons, decide_eq_true e]
  · rw [if_neg e, List.find?_cons, decide_eq_false e]
theorem RowsAt.val {H : Hp} {kvs : List (Fct × V)} {b : Bk} (h : RowsAt H kvs b) (f : Fct) : (valV kvs f = none ∧ rowOf b f = [] ∧ f ∉ b.map (·.1)) ∨ ∃ a, valV kvs f = some (.ref a) ∧ RowT H a (rowOf b f) ∧ (f, rowOf b f) ∈ b := by
  induction h with
  | nil => exact .inl ⟨rfl, rfl, List.not_mem_nil⟩
  | @cons p q ps qs a t ih =>
    obtain ⟨e1, c, e2, r⟩ := a
    rw [rowOf_cons]
    by_cases e : p.1 = f
    · have e' : q.1 = f := e1.symm.trans e
      rw [if_pos e']
      refine .inr ⟨c, (valV_pos e).trans (congrArg some e2), r, ?_⟩
      rw [← e']
      exact List.mem_cons_self ..
    · have e' : q.1 ≠ f := fun z => e (e1.trans z)
      rw [if_neg e', valV_neg e]
      rcases ih with ⟨h1, h2, h3⟩ | ⟨c', h1, h2, h3⟩
      · refine .inl ⟨h1, h2, fun z => ?_⟩
        rcases List.mem_cons.mp z with z | z
        · exact e' z.symm
        · exact h3 z
      · exact .inr ⟨c', h1, h2, List.mem_cons_of_mem _ h3⟩
theorem RowsAt.get {H : Hp} {kvs : List (Fct × V)} {b : Bk} (h : RowsAt H kvs b) : ∀ {i : Nat} {f : Fct} {v : V}, kvs[i]? = some (f, v) → ∃ l a, b[i]? = some (f, l) ∧ v = .ref a ∧ RowT H a l := by
  induction h with
  | nil =>
    intro i f v e
    cases e
  | @cons p q ps qs a t ih =>
    intro i f v e
    cases i with
    | zero =>
      obtain ⟨e1, c, e2, r⟩ := a
      have e := Option.some.inj e
      subst e
      obtain ⟨g, l⟩ := q
      dsimp only at e1
      subst e1
      exact ⟨l, c, rfl, e2, r⟩
    | succ i => exact ih (i := i) e
theorem valV_get {kvs : List (Fct × V)} (n : (kvs.map (·.1)).Nodup) : ∀ {i : Nat} {f : Fct} {v : V}, kvs[i]? = some (f, v) → valV kvs f = some v := by
  induction kvs with
  | nil =>
    intro i f v h
    cases h
  | cons p x ih =>
    obtain ⟨n1, n2⟩ := List.nodup_cons.mp n
    intro i f v h
    cases i with
    | zero =>
      obtain rfl : p = (f, v) := Option.some.inj h
      exact valV_pos rfl
    | succ i =>
      have h : x[i]? = some (f, v) := h
      have ne : p.1 ≠ f := fun z => n1 (List.mem_map.mpr ⟨(f, v), List.mem_of_getElem? h, z.symm⟩)
      rw [valV_neg ne]
      exact ih n2 h
/-- all rows of a book are rows -/
def Good (b : Bk) : Prop := b.length ≤ 1000 ∧ ∀ p ∈ b, Row p.2 ∧ p.2.length ≤ 900
theorem Good.row {b : Bk} (g : Good b) (f : Fct) : Row (rowOf b f) ∧ (rowOf b f).length ≤ 900 := by
  unfold rowOf
  cases e : b.find? (fun p => decide (p.1 = f)) with
  | none => exact ⟨⟨True.intro, True.intro⟩, Nat.zero_le _⟩
  | some p => exact g.2 p (List.mem_of_find?_eq_some e)
def bkF (dr db : Addr) : List (Str × V) := [("relations", .ref dr), ("rows", .ref db)]
/-- at p stands a book of the class at C -/
structure BookAt (P : Program) (w : World) (C : Addr) (H : Hp) (p : Addr) (rel : Rel) (b : Bk) : Prop where
  obj : ∃ dx dr db kvs, H p = some (.ins C dx (bkF dr db)) ∧ H dr = some (.dK (relK rel)) ∧ FD P w H db kvs ∧ RowsAt H kvs b
theorem BookAt.mono {P : Program} {w : World} {C : Addr} {H H' : Hp} {p : Addr} {rel : Rel} {b : Bk} (s : Same H H') (h : BookAt P w C H p rel b) : BookAt P w C H' p rel b := by
  obtain ⟨dx, dr, db, kvs, h1, h2, h3, h4⟩ := h.obj
  exact ⟨dx, dr, db, kvs, s _ _ h1, s _ _ h2, h3.mono s, h4.mono s⟩
theorem rowsNe : (("rows" : Str) == "relations") = false := by decide +kernel
theorem bkF_rows (dr db : Addr) : (bkF dr db).lookup ("rows" : Str) = some (.ref db) := by
  have e : (("rows" : Str) == "rows") = true := by decide +kernel
  unfold bkF
  rw [List.lookup, rowsNe, List.lookup, e]
theorem bkF_rels (dr db : Addr) : (bkF dr db).lookup ("relations" : Str) = some (.ref dr) := by
  have e : (("relations" : Str) == "relations") = true := by decide +kernel
  unfold bkF
  rw [List.lookup, e]
theorem bkF_no {m : Str} (dr db : Addr) (h1 : (m == "relations") = false) (h2 : (m == "rows") = false) : (bkF dr db).lookup m = none := by
  unfold bkF
  rw [List.lookup, h1, List.lookup, h2, List.lookup]
section
variable {P : Program} {w : World} {K : PySem.W.Frag} {mg : Str → Option Value} {base : Heap} {ad : Nat → Addr} {fds : Nat → FuncData} {cs : Nat → Value}
/-! ### spans_of, has -/
def spSpansOf (P : Program) (w : World) (C : Addr) : Sp := fun vs H Q _ => ∃ p rel b n r ns, vs = [.ref p, .str r, .ref n] ∧ BookAt P w C H p rel b ∧ H n = some (.tup (ns.map V.str)) ∧ ∀ H' a, Same H H' → RowT H' a (rowOf b (r, ns)) → Q (.ref a) H'
theorem ok_Book_spans_of (T : Txt K mg ad fds cs) : FnOk P w K mg base CX0 1 (ad 38002) (fds 38002) ["self", "relation", "names"] (spSpansOf P w (ad 38999)) := by
  refine T.F_Book_spans_of.ok sc_Book_spans_of (fun vs H Q E h => ?_) (fun cdv A outer s H vs Q E hr h => ?_)
  · obtain ⟨p, rel, b, n, r, ns, rfl, _⟩ := h
    rfl
  obtain ⟨p, rel, b, n, r, ns, rfl, B, hn, q⟩ := h
  obtain ⟨dx, dr, db, kvs, h1, h2, h3, h4⟩ := B.obj
  refine ⟨_, (pss_one (ps_ret (YjD.pe_forK (P := P) (w := w) hr.units (YjD.pe_fldK (K := K) (pv 0) rfl) (pe_tup (pa_cons (pv 1) (pa_cons (pe_callTy call_tuple_of (by rfl) T.z_tuple (by decide +kernel) (pa_cons (pv 2) pa_nil)) pa_nil))) (pe_tup pa_nil) ⟨rfl, rfl, rfl, rfl⟩))), ?_⟩
  refine ⟨_, rfl, p, _, dx, _, _, rfl, h1, T.cl_Book, T.na_Book_rows, bkF_rows _ _, db, kvs, rfl, h3, ?_⟩
  refine ⟨_, rfl, _, rfl, n, _, rfl, .inr ⟨SqT.of hn, (by show 2 ≤ sizeLine; decide), fun t nt => ?_⟩⟩
  have s1 := same_upd (o := .tup [.str r, .ref n]) nt
  have k1 : KeyAt (upd H t (.tup [.str r, .ref n])) t (r, ns) := ⟨n, upd_same, s1 _ _ hn⟩
  refine ⟨Nat.zero_le _, fun u nu => ?_⟩
  have s2 := same_upd (o := .tup []) nu
  refine ⟨t, (r, ns), rfl, h3.mono (s1.trans s2), k1.mono s2, ?_⟩
  rcases h4.val (r, ns) with ⟨e1, e2, _⟩ | ⟨a, e1, e2, _⟩
  · rw [e1]
    refine q _ u (s1.trans s2) ?_
    rw [e2]
    exact ⟨[], upd_same, .nil⟩
  · rw [e1]
    exact q _ a (s1.trans s2) (e2.mono (s1.trans s2))
def spBHas (P : Program) (w : World) (C : Addr) : Sp := fun vs H Q _ => ∃ p rel b n r ns d, vs = [.ref p, .str r, .ref n, .int d] ∧ BookAt P w C H p rel b ∧ Good b ∧ H n = some (.tup (ns.map V.str)) ∧ ∀ H', Same H H' → Q (.bl (decide (Mem (rowOf b (r, ns)) d))) H'
theorem ok_Book_has (T : Txt K mg ad fds cs) : FnOk P w K mg base CX0 3 (ad 38003) (fds 38003) ["self", "relation", "names", "day"] (spBHas P w (ad 38999)) := by
  refine T.F_Book_has.ok sc_Book_has (fun vs H Q E h => ?_) (fun cdv A outer s H vs Q E hr h => ?_)
  · obtain ⟨p, rel, b, n, r, ns, d, rfl, _⟩ := h
    rfl
  obtain ⟨p, rel, b, n, r, ns, d, rfl, B, g, hn, q⟩ := h
  obtain ⟨dx, dr, db, kvs, h1, _⟩ := B.obj
  refine ⟨_, (pss_one (ps_ret (pe_call (ok_has T) (hr.mono (by decide)) rfl T.g_has_spans T.F_has.kp (bi_has T) .nil pass0 (pa_cons (pe_meth (pv 0) T.cl_Book T.m_Book_spans_of (ok_Book_spans_of T) (hr.mono (by decide)) (bi_Book_spans_of T) .nil pass0 (pa_cons (pv 1) (pa_cons (pv 2) pa_nil))) (pa_cons (pv 3) pa_nil))))), ?_⟩
  obtain ⟨g1, g2⟩ := g.row (r, ns)
  refine ⟨_, rfl, p, dx, _, rfl, h1, bkF_no _ _ (by decide +kernel) (by decide +kernel), _, rfl, _, rfl, p, rel, b, n, r, ns, rfl, B, hn, fun H1 a s1 ra => ?_⟩
  exact ⟨_, rfl, a, _, d, 0, rfl, ra, g1.1, by omega, q H1 s1⟩
end
end Yj
set_option Elab.async false
set_option linter.all false
set_option maxRecDepth 100000
set_option maxHeartbeats 4000000
set_option pp.maxSteps 1500
namespace Yj
open PySem PySem.Spec PyProof.Rows L2 RZ YjD
/-! ### what tuples alone tell stays when other things change -/
abbrev Tups (H H' : Hp) : Prop := ∀ b xs, H b = some (.tup xs) → H' b = some (.tup xs)
theorem Prs.tups {H H' : Hp} (s : Tups H H') : ∀ {vs : List V} {l : Sps}, Prs H vs l → Prs H' vs l
  | _, _, .nil => .nil
  | _, _, .cons ⟨t, e, h⟩ k => .cons ⟨t, e, s _ _ h⟩ (k.tups s)
theorem RowT.tups {H H' : Hp} {a : Addr} {l : Sps} (s : Tups H H') (h : RowT H a l) : RowT H' a l := by
  obtain ⟨us, h, k⟩ := h
  exact ⟨us, s _ _ h, k.tups s⟩
theorem RowsAt.tups {H H' : Hp} (s : Tups H H') {kvs : List (Fct × V)} {b : Bk} (h : RowsAt H kvs b) : RowsAt H' kvs b := Paired.mapP h fun _ _ ⟨e, a, e2, r⟩ => ⟨e, a, e2, r.tups s⟩
theorem KeysAt.tups {H H' : Hp} (s : Tups H H') {us : List V} {fs : List Fct} (h : KeysAt H us fs) : KeysAt H' us fs := Paired.mapP h fun _ _ ⟨ka, e, k⟩ => ⟨ka, e, k.tups s⟩
theorem tups_upd {H : Hp} {d : Addr} {o u : HO} (h : H d = some u) (hu : ∀ xs, u ≠ .tup xs) : Tups H (upd H d o) := fun b xs e => by
  rw [upd_ne fun z => ?_]
  · exact e
  · rw [z, h] at e
    exact hu xs (Option.some.inj e)
theorem Same.tups {H H' : Hp} (s : Same H H') : Tups H H' := fun b xs e => s _ _ e
/-! ### books, row by row -/
theorem rowOf_not {b : Bk} {f : Fct} (h : f ∉ b.map (·.1)) : rowOf b f = [] := by
  induction b with
  | nil => rfl
  | cons p x ih =>
    rw [rowOf_cons, if_neg fun z => h (by rw [List.map_cons, z]; exact List.mem_cons_self ..)]
    exact ih fun z => h (by rw [List.map_cons]; exact List.mem_cons_of_mem _ z)
theorem rowOf_mem {b : Bk} (n : (b.map (·.1)).Nodup) : ∀ {p : Fct × Sps}, p ∈ b → rowOf b p.1 = p.2 := by
  induction b with
  | nil =>
    intro p h
    cases h
  | cons q x ih =>
    obtain ⟨n1, n2⟩ := List.nodup_cons.mp n
    intro p h
    rw [rowOf_cons]
    rcases List.mem_cons.mp h with e | h
    · rw [e, if_pos rfl]
    · rw [if_neg fun z => n1 (List.mem_map.mpr ⟨p, h, z.symm⟩)]
      exact ih n2 h
theorem rowOf_snoc (b : Bk) (g : Fct) (r : Sps) (f : Fct) (h : f ∈ b.map (·.1) → g ≠ f) : rowOf (b ++ [(g, r)]) f = if g = f then r else rowOf b f := by
  induction b with
  | nil =>
    show rowOf [(g, r)] f = _
    rw [rowOf_cons]
  | cons p x ih =>
    rw [List.cons_append, rowOf_cons, rowOf_cons]
    by_cases e : p.1 = f
    · rw [if_pos e, if_pos e, if_neg (h (by rw [List.map_cons, e]; exact List.mem_cons_self ..))]
    · rw [if_neg e, if_neg e]
      exact ih fun z => h (by rw [List.map_cons]; exact List.mem_cons_of_mem _ z)
theorem valV_none {kvs : List (Fct × V)} {f : Fct} (h : f ∉ kvs.map (·.1)) : valV kvs f = none := by
  induction kvs with
  | nil => rfl
  | cons p x ih =>
    rw [valV_neg fun z => h (by rw [List.map_cons, z]; exact List.mem_cons_self ..)]
    exact ih fun z => h (by rw [List.map_cons]; exact List.mem_cons_of_mem _ z)
theorem putF_rows (dr db : Addr) : putF "rows" (.ref db) [(("relations" : Str), V.ref dr)] = bkF dr db := by
  have e : (("relations" : Str) = "rows") = False := by decide +kernel
  unfold putF
  rw [if_neg (by rw [e]; exact not_false)]
  rfl
/-- the spans under a fact, told by the heap -/
def LV (H : Hp) (kvs : List (Fct × V)) (f : Fct) (l : Sps) : Prop := ∃ a us, valV kvs f = some (.ref a) ∧ RowA H a us ∧ Prs H us l
theorem RowA.one {H : Hp} {a : Addr} {us vs : List V} (h : RowA H a us) (k : RowA H a vs) : us = vs := by
  rcases h with h | h <;> rcases k with k | k <;> rw [h] at k <;> cases k <;> rfl
theorem LV.one {H : Hp} {kvs : List (Fct × V)} {f : Fct} {l m : Sps} (h : LV H kvs f l) (k : LV H kvs f m) : l = m := by
  obtain ⟨a, us, h1, h2, h3⟩ := h
  obtain ⟨b, vs, k1, k2, k3⟩ := k
  rw [h1] at k1
  obtain rfl : a = b := V.ref.inj (Option.some.inj k1)
  obtain rfl := h2.one k2
  rw [← h3.two, ← k3.two]
/-- the book b holds the normalised rows of the facts fs -/
structure NormB (H : Hp) (kvs : List (Fct × V)) (fs : List Fct) (b : Bk) : Prop where
  sub : (b.map (·.1)).Sublist fs
  ne : ∀ p ∈ b, p.2 ≠ []
  row : ∀ f ∈ fs, ∀ l, LV H kvs f l → FNorm l (rowOf b f)
  lv : ∀ f ∈ fs, ∃ l, LV H kvs f l ∧ Val l
theorem NormB.snoc {H : Hp} {kvs : List (Fct × V)} {fs : List Fct} {b : Bk} {f : Fct} {l r : Sps} (N : NormB H kvs fs b) (hf : f ∉ fs) (hl : LV H kvs f l) (hv : Val l) (hr : FNorm l r) (hne : r ≠ []) : NormB H kvs (fs ++ [f]) (b ++ [(f, r)]) := by
  refine ⟨?_, fun p hp => ?_, fun g hg m hm => ?_, fun g hg => (List.mem_append.mp hg).elim (N.lv g) fun z => ⟨l, by rw [List.mem_singleton.mp z]; exact hl, hv⟩⟩
  · rw [List.map_append]
    exact List.Sublist.append N.sub (List.Sublist.refl _)
  · rcases List.mem_append.mp hp with h | h
    · exact N.ne p h
    · rw [List.mem_singleton.mp h]
      exact hne
  · rw [rowOf_snoc _ _ _ _ fun z e => hf (by rw [e]; exact N.sub.subset z)]
    rcases List.mem_append.mp hg with h | h
    · rw [if_neg fun e => hf (by rw [e]; exact h)]
      exact N.row g h m hm
    · rw [List.mem_singleton.mp h] at hm ⊢
      rw [if_pos rfl, hm.one hl]
      exact hr
theorem NormB.skip {H : Hp} {kvs : List (Fct × V)} {fs : List Fct} {b : Bk} {f : Fct} {l : Sps} (N : NormB H kvs fs b) (hf : f ∉ fs) (hl : LV H kvs f l) (hv : Val l) (hr : FNorm l []) : NormB H kvs (fs ++ [f]) b := by
  refine ⟨N.sub.trans (List.sublist_append_left _ _), N.ne, fun g hg m hm => ?_, fun g hg => (List.mem_append.mp hg).elim (N.lv g) fun z => ⟨l, by rw [List.mem_singleton.mp z]; exact hl, hv⟩⟩
  rcases List.mem_append.mp hg with h | h
  · exact N.row g h m hm
  · rw [List.mem_singleton.mp h] at hm ⊢
    rw [rowOf_not fun z => hf (N.sub.subset z), hm.one hl]
    exact hr
theorem norm_nil {H : Hp} {kvs : List (Fct × V)} : NormB H kvs [] [] := ⟨List.Sublist.refl _, (fun _ h => nomatch h), (fun _ h => nomatch h), (fun _ h => nomatch h)⟩
/-! ### __init__ -/
/-- spans, good ones or not, and what their fault does -/
def ValB (H : Hp) (Cs : Addr) (E : XK) (v : V) : Prop := ∃ a us l, v = .ref a ∧ RowA H a us ∧ us.length ≤ 1000000 ∧ Val l ∧
  (Prs H us l ∨ ∃ pre x post, us = pre ++ x :: post ∧ Prs H pre l ∧ SpanV H x false ∧ ∀ d H', Same H H' → H d = none → H' d = some (.xd [(("number" : Str), .int (l.length : Nat))]) → E (.ref Cs) (some d) H')
def spInit (P : Program) (w : World) (C Cr Cf Cs : Addr) : Sp := fun vs H Q E => ∃ Hb p dx dr rel db kvs, vs = [.ref p, .ref dr, .ref db] ∧ Hb p = none ∧ Same Hb H ∧ H p = some (.ins C dx []) ∧ Hb dr = some (.dK (relK rel)) ∧ ShortR rel ∧ (rel.map (·.1)).Nodup ∧
  FD P w Hb db kvs ∧ kvs.length ≤ 1000 ∧ (∀ f ∈ kvs.map (·.1), ShortF f) ∧
  ((∃ pre b post, rel = pre ++ b :: post ∧ pre.all okR = true ∧ okR b = false ∧ ∀ d H', Hb d = none → Keep dr Hb H' → H' d = some (.xd [(("name" : Str), .str b.1)]) → E (.ref Cr) (some d) H') ∨
   (rel.all okR = true ∧ ∃ srt, Sorts rel srt ∧
     (∀ f ∈ kvs.map (·.1), isFct srt f = true ∨ ∀ ka d H', Same Hb H' → Hb d = none → KeyAt H' ka f → H' d = some (.xd [(("fact" : Str), .ref ka)]) → E (.ref Cf) (some d) H') ∧
     ((∀ f ∈ kvs.map (·.1), isFct srt f = true) → (∀ f v, valV kvs f = some v → ValB Hb Cs E v) ∧
       ∀ H' dr' db' kvs' b, Same Hb H' → H' p = some (.ins C dx (bkF dr' db')) → H' dr' = some (.dK (relK srt)) → FD P w H' db' kvs' → RowsAt H' kvs' b → NormB Hb kvs (sortF (kvs.map (·.1))) b → Q .non H')))
section
variable {P : Program} {w : World} {K : PySem.W.Frag} {mg : Str → Option Value} {base : Heap} {ad : Nat → Addr} {fds : Nat → FuncData} {cs : Nat → Value}
theorem mem_keys {kvs : List (Fct × V)} {f : Fct} {v : V} {i : Nat} (h : kvs[i]? = some (f, v)) : f ∈ kvs.map (·.1) := List.mem_map.mpr ⟨(f, v), List.mem_of_getElem? h, rfl⟩
theorem valV_some {kvs : List (Fct × V)} {f : Fct} (h : f ∈ kvs.map (·.1)) : ∃ v, valV kvs f = some v := by
  cases e : valV kvs f with
  | none => exact absurd h (valV_mem e)
  | some v => exact ⟨v, rfl⟩
theorem take_snoc {α : Type} {l : List α} {i : Nat} {x : α} (h : l[i]? = some x) : l.take (i + 1) = l.take i ++ [x] := by
  rw [List.take_add_one, h]
  rfl
theorem not_take {α : Type} {l : List α} (n : l.Nodup) {i : Nat} {x : α} (h : l[i]? = some x) : x ∉ l.take i := by
  intro z
  obtain ⟨j, hj, ej⟩ := List.mem_take_iff_getElem.mp z
  obtain ⟨lt, e2⟩ := List.getElem?_eq_some_iff.mp h
  exact List.pairwise_iff_getElem.mp n j i (by omega) lt (by omega) (ej.trans e2.symm)
theorem ok_Book___init__ (T : Txt K mg ad fds cs) : FnOk P w K mg base (L2N.CX P w) 6 (ad 38000) (fds 38000) ["self", "relations", "rows"] (spInit P w (ad 38999) (ad 5999) (ad 6999) (ad 4999)) := by
  refine Fun.okN T.F_Book___init__ sc_Book___init__ (fun vs H Q E h => ?_) (fun cdv A outer s H vs Q E hr h => ?_)
  · obtain ⟨Hb, p, dx, dr, rel, db, kvs, rfl, _⟩ := h
    rfl
  obtain ⟨Hb, p, dx, dr, rel, db, kvs, rfl, nb, sb, hp, hdr, hs, hnd, ⟨o, F⟩, hz, hsf, h⟩ := h
  have hu := hu_of hr
  refine ⟨_, (pss_cons (ps_fld (pv 0) (pe_call (ok_checked_relations T) (hr.mono (by decide)) rfl T.g_checked_relations T.F_checked_relations.kp (bi_checked_relations T) .nil (L2N.passes_call (L2N.takes_of rfl rfl rfl rfl) fun _ _ _ _ h => h) (pa_cons (pv 1) pa_nil)) rfl)
      (pss_cons (ps_for PassesOwn.leaving rfl (YjD.pi_factsK (P := P) (w := w) (pv 2)) (pg_name (i := 3) sc_Book___init__.nd rfl (by first | exact .inl rfl | exact .inr rfl))
      (pss_one (ps_if (pt_not (pt_val (pe_call (ok_is_fact T) (hr.mono (by decide)) rfl T.g_is_fact T.F_is_fact.kp (bi_is_fact T) .nil pass0 (pa_cons (YjD.pe_fldK (K := K) (pv 0) rfl) (pa_cons (pv 3) pa_nil))))) (pss_one (ps_raise_BadFact rfl T.x_BadFact (hr.mono (Nat.zero_le _)) (L2N.takes_of rfl rfl rfl rfl) (by exact (pa_cons (pv 3) pa_nil)))) pss_nil)))
      (pss_cons (ps_fld (pv 0) YjD.pe_fnew rfl)
      (pss_one (ps_for PassesOwn.leaving rfl (pi_list (pe_callB (YjD.cr_sortFK (P := P) (w := w) rfl hr.units) (by rfl) T.z_sorted (by decide +kernel) (pa_cons (pv 2) pa_nil))) (pg_name (i := 3) sc_Book___init__.nd rfl (by first | exact .inl rfl | exact .inr rfl))
      (pss_cons (ps_set (i := 4) sc_Book___init__.nd rfl (by first | exact .inl rfl | exact .inr rfl) (pe_call (ok_normal T) (hr.mono (by decide)) rfl T.g_normal T.F_normal.kp (bi_normal T) .nil (L2N.passes_call (L2N.takes_of rfl rfl rfl rfl) fun _ _ _ _ h => h) (pa_cons (YjD.pe_fgetK (P := P) (w := w) hr.units (pv 2) (pv 3) (fun _ _ => rfl)) pa_nil)))
      (pss_one (ps_if (pt_truth (pv 4) (by intro _; rfl)) (pss_one (ps_asg (pv 4) (pg_sub (YjD.pe_fldK (K := K) (pv 0) rfl) (pv 3) (YjD.set_factK (P := P) (w := w) hr.units)))) pss_nil)))))))), ?_⟩
  refine ⟨_, rfl, dr, rel, rfl, sb _ _ hdr, hs, hnd, ?_⟩
  rcases h with ⟨pre, b, post, e1, e2, e3, q⟩ | ⟨hok, srt, hsrt, hf, hv⟩
  · exact .inr ⟨pre, b, post, e1, e2, e3, fun d H' nd k hd => q d H' (sb.free nd) (fun c x n e => k c x n (sb _ _ e)) hd⟩
  refine .inl ⟨hok, srt, hsrt, fun H1 dr1 s1 nd1 hd1 => ?_⟩
  refine ⟨_, rfl, p, _, dx, _, rfl, s1 _ _ hp, T.cl_Book, T.na_Book_relations, by decide, ?_⟩
  have ne1 : dr1 ≠ p := fun z => by
    rw [z, s1 _ _ hp] at hd1
    cases hd1
  have sb2 : Same Hb (upd H1 p (.ins (ad 38999) dx (putF "relations" (.ref dr1) []))) := same_at (sb.trans s1) nb
  have hp2 : upd H1 p (.ins (ad 38999) dx (putF "relations" (.ref dr1) [])) p = some (.ins (ad 38999) dx [(("relations" : Str), .ref dr1)]) := upd_same
  have hd2 : upd H1 p (.ins (ad 38999) dx (putF "relations" (.ref dr1) [])) dr1 = some (.dK (relK srt)) := by
    rw [upd_ne ne1]
    exact hd1
  generalize upd H1 p (.ins (ad 38999) dx (putF "relations" (.ref dr1) [])) = H2 at sb2 hp2 hd2
  clear hd1 s1 ne1 nd1 hp sb
  have lk : [(("relations" : Str), V.ref dr1)].lookup ("relations" : Str) = some (.ref dr1) := by
    have e : (("relations" : Str) == "relations") = true := by decide +kernel
    rw [List.lookup, e]
  refine ⟨_, rfl, db, o, kvs, rfl, F.mono sb2, for_it walk_facts (fun i σ H3 => ∃ (y1 y2 : Option V), σ = [some (.ref p), some (.ref dr), some (.ref db), y1, y2] ∧ Same H2 H3 ∧ ∀ f ∈ (kvs.map (·.1)).take i, isFct srt f = true) ⟨none, none, rfl, Same.refl _, fun f hf => by cases hf⟩
    (fun i σ H3 _ ⟨_, _, _, s, _⟩ => (F.mono sb2).mono s) ?_ ?_⟩
  · rintro i x σ H3 H3' hi ⟨y1, y2, rfl, s3, al⟩ ⟨rfl, ka, f, v, rfl, hv', hk⟩
    refine ⟨_, rfl, p, _, dx, _, _, rfl, s3 _ _ hp2, T.cl_Book, T.na_Book_relations, lk, _, rfl, dr1, srt, ka, f, rfl, s3 _ _ hd2, hk, hsf f (mem_keys hv'), fun H4 s4 => ⟨_, rfl, ?_⟩⟩
    cases e : isFct srt f with
    | true =>
      refine iteF ⟨_, _, rfl, s3.trans s4, fun g hg => ?_⟩
      have e1 : (kvs.map (·.1))[i]? = some f := by
        rw [List.getElem?_map, hv']
        rfl
      rw [take_snoc e1] at hg
      rcases List.mem_append.mp hg with h | h
      · exact al g h
      · rw [List.mem_singleton.mp h]
        exact e
    | false =>
      refine iteT ⟨_, rfl, _, rfl, fun d nd => ?_⟩
      rcases hf f (mem_keys hv') with z | z
      · rw [e] at z
        cases z
      · have s5 := (s3.trans s4).trans (same_upd (o := .xd [(("fact" : Str), V.ref ka)]) nd)
        exact z ka d _ (sb2.trans s5) (sb2.free (s3.free (s4.free nd))) (hk.mono (s4.trans (same_upd nd))) upd_same
  · rintro σ H3 ⟨y1, y2, rfl, s3, al⟩
    have al' : ∀ f ∈ kvs.map (·.1), isFct srt f = true := by
      have e : kvs.length = (kvs.map (·.1)).length := (List.length_map ..).symm
      rw [e, List.take_length] at al
      exact al
    obtain ⟨hv, q⟩ := hv al'
    have sb3 := sb2.trans s3
    have hp3 := s3 _ _ hp2
    have hd3 := s3 _ _ hd2
    clear hf al sb2 s3 hp2 hd2
    refine fun db1 o1 nd1 F1 => ⟨_, rfl, p, _, dx, _, rfl, same_upd nd1 _ _ hp3, T.cl_Book, T.na_Book_rows, (by show 1 < 1000; decide), ?_⟩
    have nbd : Hb db1 = none := sb3.free nd1
    have nedp : db1 ≠ p := fun z => by
      rw [z, hp3] at nd1
      cases nd1
    have sb4 : Same Hb (upd (upd H3 db1 o1) p (.ins (ad 38999) dx (putF "rows" (.ref db1) [(("relations" : Str), .ref dr1)]))) := same_at (same_at sb3 nbd) nb
    have hp4 : upd (upd H3 db1 o1) p (.ins (ad 38999) dx (putF "rows" (.ref db1) [(("relations" : Str), .ref dr1)])) p = some (.ins (ad 38999) dx (bkF dr1 db1)) := by
      rw [upd_same, putF_rows]
    have hd4 : upd (upd H3 db1 o1) p (.ins (ad 38999) dx (putF "rows" (.ref db1) [(("relations" : Str), .ref dr1)])) dr1 = some (.dK (relK srt)) := by
      have n1 : dr1 ≠ p := fun z => by
        rw [z, hp3] at hd3
        cases hd3
      rw [upd_ne n1]
      exact same_upd nd1 _ _ hd3
    have F4 : FD P w (upd (upd H3 db1 o1) p (.ins (ad 38999) dx (putF "rows" (.ref db1) [(("relations" : Str), .ref dr1)]))) db1 [] :=
      FD.keep F1 (upd_ne nedp) (tups_upd (same_upd nd1 _ _ hp3) fun xs z => nomatch z)
    generalize upd (upd H3 db1 o1) p (.ins (ad 38999) dx (putF "rows" (.ref db1) [(("relations" : Str), .ref dr1)])) = H4 at sb4 hp4 hd4 F4
    clear hp3 hd3 nd1 F1 sb3
    refine ⟨_, rfl, db, kvs, rfl, ⟨o, F.mono sb4⟩, fun us t nt hk => ?_⟩
    have ht : upd H4 t (.lst us) t = some (.lst us) := upd_same
    have s5 := same_upd (o := .lst us) nt
    have sb5 := sb4.trans s5
    have hp5 := s5 _ _ hp4
    have hd5 := s5 _ _ hd4
    have F5 := F4.mono s5
    have hk5 := hk.mono s5
    generalize upd H4 t (.lst us) = H5 at ht sb5 hp5 hd5 F5 hk5
    clear s5 sb4 hp4 hd4 F4 hk nt
    have hlk := Paired.length hk5
    have hpm := sortF_perm (kvs.map (·.1))
    have hnf : (sortF (kvs.map (·.1))).Nodup := hpm.nodup_iff.mpr F.nod
    have hlen : us.length ≤ 1000 := by
      rw [hlk, hpm.length_eq, List.length_map]
      exact hz
    refine ⟨t, rfl, ⟨_, SqL.of ht⟩, for_it (walk_list (K := K) (a := t) (xs := us)) (fun i σ H6 => ∃ (y1 y2 : Option V) (kvs' : List (Fct × V)) (b : Bk), σ = [some (.ref p), some (.ref dr), some (.ref db), y1, y2] ∧ Same Hb H6 ∧ H6 p = some (.ins (ad 38999) dx (bkF dr1 db1)) ∧ H6 dr1 = some (.dK (relK srt)) ∧ H6 t = some (.lst us) ∧
        KeysAt H6 us (sortF (kvs.map (·.1))) ∧ FD P w H6 db1 kvs' ∧ RowsAt H6 kvs' b ∧ NormB Hb kvs ((sortF (kvs.map (·.1))).take i) b) ⟨_, _, [], [], rfl, sb5, hp5, hd5, ht, hk5, F5, .nil, norm_nil⟩
      (fun i σ H6 _ ⟨_, _, _, _, _, _, _, _, z, _⟩ => SqL.of z) ?_ ?_⟩
    · rintro i x σ H6 H6' hi ⟨z1, z2, kvs', b, rfl, s6, hp6, hd6, ht6, hk6, F6, R6, N6⟩ ⟨rfl, hx⟩
      obtain ⟨ka, f, rfl, hfs, key⟩ := hk6.get hx
      have fk : f ∈ kvs.map (·.1) := hpm.mem_iff.mp (List.mem_of_getElem? hfs)
      obtain ⟨v, hv1⟩ := valV_some fk
      obtain ⟨a, vs, l, rfl, hA, hAl, hVal, hw⟩ := hv f v hv1
      have fnew : f ∉ (sortF (kvs.map (·.1))).take i := not_take hnf hfs
      refine ⟨_, rfl, _, rfl, db, kvs, ka, f, _, rfl, rfl, ⟨o, F.mono s6⟩, key, hv1, a, vs, l, rfl, hA.mono s6, hAl, hVal, ?_⟩
      rcases hw with hP | ⟨pre, y, post, e1, e2, e3, e4⟩
      · refine .inl ⟨hP.mono s6, fun r hr H7 c cus s7 nc hc hcr => ?_⟩
        have hl : LV Hb kvs f l := ⟨a, vs, hv1, hA, hP⟩
        refine ⟨_, rfl, !cus.isEmpty, .inr (.inl ⟨_, SqT.of hc, rfl⟩), ?_⟩
        have lcr := hcr.len
        by_cases er : r = []
        · subst er
          have ec : cus = [] := List.eq_nil_of_length_eq_zero lcr
          subst ec
          refine iteF ⟨_, _, kvs', b, rfl, s6.trans s7, s7 _ _ hp6, s7 _ _ hd6, s7 _ _ ht6, hk6.mono s7, F6.mono s7, R6.mono s7, ?_⟩
          rw [take_snoc hfs]
          exact N6.skip fnew hl hVal hr
        · have ec : (!cus.isEmpty) = true := by
            cases cus with
            | nil => exact absurd (List.eq_nil_of_length_eq_zero lcr.symm) er
            | cons _ _ => rfl
          rw [ec]
          have fk2 : f ∉ kvs'.map (·.1) := by
            rw [R6.keys]
            exact fun z => fnew (N6.sub.subset z)
          obtain ⟨φ, hdb⟩ := (F6.mono s7).ext
          have lk6 : kvs'.length < sizeLine := ofNat_lt (by
            have h1 := R6.len
            have h2 := N6.sub.length_le
            rw [List.length_map, List.length_take] at h2
            omega)
          refine iteT ⟨_, rfl, _, rfl, p, _, dx, _, _, rfl, s7 _ _ hp6, T.cl_Book, T.na_Book_rows, bkF_rows _ _, _, rfl, db1, kvs', ka, f, rfl, rfl, F6.mono s7, key.mono s7, lk6, fun o' F' => ?_⟩
          have tu := tups_upd (o := o') hdb fun xs z => nomatch z
          have nn : ∀ {x : Addr} {u : HO}, H7 x = some u → (∀ ψ, u ≠ .ext ψ) → upd H7 db1 o' x = some u := fun {x u} e hu => by
            rw [upd_ne fun z => ?_]
            · exact e
            · rw [z, hdb] at e
              exact hu φ (Option.some.inj e).symm
          refine ⟨_, _, putK kvs' f (.ref c), b ++ [(f, r)], rfl, same_at (s6.trans s7) nbd, nn (s7 _ _ hp6) (fun ψ z => nomatch z), nn (s7 _ _ hd6) (fun ψ z => nomatch z), nn (s7 _ _ ht6) (fun ψ z => nomatch z), KeysAt.tups tu (hk6.mono s7), F', ?_, ?_⟩
          · rw [putK_new _ (valV_none fk2)]
            exact Paired.snoc (RowsAt.tups tu (R6.mono s7)) ⟨rfl, c, rfl, RowT.tups tu ⟨cus, hc, hcr⟩⟩
          · rw [take_snoc hfs]
            exact N6.snoc fnew hl hVal hr er
      · refine .inr ⟨pre, y, post, e1, e2.mono s6, e3.mono s6, fun d H' sd nd hd => ?_⟩
        exact e4 d H' (s6.trans sd) (s6.free nd) hd
    · rintro σ H6 ⟨z1, z2, kvs', b, rfl, s6, hp6, hd6, ht6, hk6, F6, R6, N6⟩
      rw [hlk, List.take_length] at N6
      exact q H6 dr1 db1 kvs' b s6 hp6 hd6 F6 R6 N6
end
end Yj
set_option Elab.async false
set_option linter.all false
set_option maxRecDepth 100000
set_option maxHeartbeats 4000000
set_option pp.maxSteps 1500
namespace Yj
open PySem PySem.Spec PyProof.Rows L2 RZ YjD
/-! ### the one form of a book -/
abbrev fle (f g : Fct) : Bool := PySem.W.dataLe false factD f g
theorem fle_total (f g : Fct) : (fle f g || fle g f) = true := by
  show (!PySem.W.dataLt (factD g) (factD f) || !PySem.W.dataLt (factD f) (factD g)) = true
  cases e : PySem.W.dataLt (factD g) (factD f) with
  | false => rfl
  | true =>
    cases e2 : PySem.W.dataLt (factD f) (factD g) with
    | false => rfl
    | true =>
      have z : PySem.W.dataLt (factD f) (factD f) = true := PyProof.Rows.lex_trans _ _ _ e2 e
      rw [show PySem.W.dataLt (factD f) (factD f) = false from PyProof.Rows.lex_irrefl _] at z
      cases z
theorem fle_trans (f g h : Fct) (a : fle f g = true) (b : fle g h = true) : fle f h = true := by
  have a : PySem.W.dataLt (factD g) (factD f) = false := by
    have z : (!PySem.W.dataLt (factD g) (factD f)) = true := a
    rw [Bool.not_eq_true'] at z
    exact z
  have b : PySem.W.dataLt (factD h) (factD g) = false := by
    have z : (!PySem.W.dataLt (factD h) (factD g)) = true := b
    rw [Bool.not_eq_true'] at z
    exact z
  show (!PySem.W.dataLt (factD h) (factD f)) = true
  cases e : PySem.W.dataLt (factD h) (factD f) with
  | false => rfl
  | true =>
    rcases PyProof.Rows.lex_negTrans _ (PySem.W.keyToks (factD g)) _ e with z | z
    · rw [show PySem.W.dataLt (factD h) (factD g) = true from z] at b
      cases b
    · rw [show PySem.W.dataLt (factD g) (factD f) = true from z] at a
      cases a
/-- ascending facts -/
abbrev AscF (fs : List Fct) : Prop := fs.Pairwise fun f g => fle f g = true
theorem sortF_asc (fs : List Fct) : AscF (sortF fs) := List.pairwise_mergeSort fle_trans fle_total fs
theorem sortF_of {fs : List Fct} (h : AscF fs) : sortF fs = fs := List.mergeSort_of_pairwise h
def canon (b : Bk) : Bk := ((sortF (b.map (·.1))).filter fun f => !(rowOf b f).isEmpty).map fun f => (f, rowOf b f)
theorem canon_keys (b : Bk) : (canon b).map (·.1) = (sortF (b.map (·.1))).filter fun f => !(rowOf b f).isEmpty := by
  unfold canon
  rw [List.map_map]
  exact List.map_id _
theorem rowOf_map (g : Fct → Sps) (f : Fct) : ∀ fs : List Fct, rowOf (fs.map fun f => (f, g f)) f = if f ∈ fs then g f else []
  | [] => rfl
  | a :: fs => by
    rw [List.map_cons, rowOf_cons, rowOf_map g f fs]
    by_cases e : a = f
    · rw [if_pos e, e, if_pos (List.mem_cons_self ..)]
    · rw [if_neg e]
      by_cases m : f ∈ fs
      · rw [if_pos m, if_pos (List.mem_cons_of_mem _ m)]
      · rw [if_neg m, if_neg fun z => (List.mem_cons.mp z).elim (fun z => e z.symm) m]
theorem rowOf_canon (b : Bk) (f : Fct) : rowOf (canon b) f = rowOf b f := by
  unfold canon
  rw [rowOf_map]
  by_cases m : f ∈ (sortF (b.map (·.1))).filter fun f => !(rowOf b f).isEmpty
  · rw [if_pos m]
  · rw [if_neg m]
    by_cases k : f ∈ b.map (·.1)
    · cases e : rowOf b f with
      | nil => rfl
      | cons x y =>
        refine absurd (List.mem_filter.mpr ⟨(sortF_perm _).mem_iff.mpr k, ?_⟩) m
        rw [e]
        rfl
    · rw [rowOf_not k]
/-- a book in its one form -/
structure Canon (b : Bk) : Prop where
  nod : (b.map (·.1)).Nodup
  ne : ∀ p ∈ b, p.2 ≠ []
  asc : AscF (b.map (·.1))
theorem canon_of {b : Bk} (n : (b.map (·.1)).Nodup) : Canon (canon b) := by
  refine ⟨?_, fun p hp => ?_, ?_⟩
  · rw [canon_keys]
    exact ((sortF_perm _).nodup_iff.mpr n).filter _
  · obtain ⟨f, hf, rfl⟩ := List.mem_map.mp hp
    have z := (List.mem_filter.mp hf).2
    intro e
    rw [show rowOf b f = [] from e] at z
    cases z
  · rw [canon_keys]
    exact (sortF_asc _).filter _
theorem canon_len (b : Bk) : (canon b).length ≤ b.length := by
  have e : (canon b).length = ((canon b).map (·.1)).length := (List.length_map ..).symm
  rw [e, canon_keys]
  have h := List.length_filter_le (fun f => !(rowOf b f).isEmpty) (sortF (b.map (·.1)))
  rw [(sortF_perm _).length_eq, List.length_map] at h
  exact h
theorem canon_sub {b : Bk} {f : Fct} (h : f ∈ (canon b).map (·.1)) : f ∈ b.map (·.1) := by
  rw [canon_keys] at h
  exact (sortF_perm _).mem_iff.mp (List.mem_filter.mp h).1
theorem eqv_strs : ∀ a b : List Str, PyData.eqvAll (a.map PyData.str) (b.map PyData.str) = decide (a = b)
  | [], [] => by simp [PyData.eqvAll]
  | [], _ :: _ => by simp [PyData.eqvAll]
  | _ :: _, [] => by simp [PyData.eqvAll]
  | x :: a, y :: b => by
    rw [List.map_cons, List.map_cons, PySem.W.eqv_all_cons, eqv_strs a b, PyData.eqv, Bool.eq_iff_iff]
    simp
theorem eqv_facts (f g : Fct) : PyData.eqv (factD f) (factD g) = decide (f = g) := by
  unfold factD
  rw [PyData.eqv, PySem.W.eqv_all_cons, PySem.W.eqv_all_cons, PyData.eqv, PyData.eqv, eqv_strs, Bool.eq_iff_iff]
  obtain ⟨f1, f2⟩ := f
  obtain ⟨g1, g2⟩ := g
  simp [PyData.eqvAll]
theorem fle_anti {f g : Fct} (a : fle f g = true) (b : fle g f = true) : f = g := by
  have a : PySem.W.dataLt (factD g) (factD f) = false := by
    have z : (!PySem.W.dataLt (factD g) (factD f)) = true := a
    rw [Bool.not_eq_true'] at z
    exact z
  have b : PySem.W.dataLt (factD f) (factD g) = false := by
    have z : (!PySem.W.dataLt (factD f) (factD g)) = true := b
    rw [Bool.not_eq_true'] at z
    exact z
  have e : PySem.W.keyToks (factD f) = PySem.W.keyToks (factD g) := PyProof.Rows.lex_total _ _ b a
  cases q : PyData.eqv (factD f) (factD g) with
  | true =>
    rw [eqv_facts] at q
    exact of_decide_eq_true q
  | false =>
    have z := (PySem.W.toks_eqv (factD f) (factD g) (alike_facts f g)).2 q [] [.inl 0]
    rw [e, PySem.W.lex_pre, PyProof.Rows.lex_irrefl] at z
    cases z
/-- ascending lists of the same facts, each once, are one -/
theorem asc_uniq : ∀ {a b : List Fct}, AscF a → AscF b → a.Nodup → b.Nodup → (∀ f, f ∈ a ↔ f ∈ b) → a = b
  | [], [], _, _, _, _, _ => rfl
  | [], y :: b, _, _, _, _, h => nomatch (h y).mpr (List.mem_cons_self ..)
  | x :: a, [], _, _, _, _, h => nomatch (h x).mp (List.mem_cons_self ..)
  | x :: a, y :: b, sa, sb, na, nb, h => by
    obtain ⟨sa1, sa2⟩ := List.pairwise_cons.mp sa
    obtain ⟨sb1, sb2⟩ := List.pairwise_cons.mp sb
    obtain ⟨na1, na2⟩ := List.nodup_cons.mp na
    obtain ⟨nb1, nb2⟩ := List.nodup_cons.mp nb
    have e : x = y := by
      rcases List.mem_cons.mp ((h x).mp (List.mem_cons_self ..)) with z | z
      · exact z
      · rcases List.mem_cons.mp ((h y).mpr (List.mem_cons_self ..)) with z2 | z2
        · exact z2.symm
        · exact fle_anti (sa1 y z2) (sb1 x z)
    subst e
    rw [asc_uniq sa2 sb2 na2 nb2 fun f => ?_]
    constructor
    · intro z
      rcases List.mem_cons.mp ((h f).mp (List.mem_cons_of_mem _ z)) with z2 | z2
      · rw [z2] at z
        exact absurd z na1
      · exact z2
    · intro z
      rcases List.mem_cons.mp ((h f).mpr (List.mem_cons_of_mem _ z)) with z2 | z2
      · rw [z2] at z
        exact absurd z nb1
      · exact z2
theorem Canon.mem {b : Bk} (c : Canon b) {f : Fct} : f ∈ b.map (·.1) ↔ rowOf b f ≠ [] := by
  constructor
  · intro h
    obtain ⟨p, hp, rfl⟩ := List.mem_map.mp h
    rw [rowOf_mem c.nod hp]
    exact c.ne p hp
  · intro h
    refine Decidable.byContradiction fun z => h (rowOf_not z)
/-- a book in its one form, of facts out of an ascending list -/
theorem Canon.keys {b : Bk} (c : Canon b) {L : List Fct} (hL : AscF L) (nL : L.Nodup) (sub : ∀ f ∈ b.map (·.1), f ∈ L) : b.map (·.1) = L.filter fun f => !(rowOf b f).isEmpty := by
  refine asc_uniq c.asc (hL.filter _) c.nod (nL.filter _) fun f => ?_
  rw [List.mem_filter, c.mem]
  constructor
  · intro h
    refine ⟨sub f (c.mem.mpr h), ?_⟩
    cases e : rowOf b f with
    | nil => exact absurd e h
    | cons _ _ => rfl
  · intro h e
    rw [e] at h
    cases h.2
theorem Canon.eq {b : Bk} (c : Canon b) : b = (b.map (·.1)).map fun f => (f, rowOf b f) := by
  have g : ∀ x : Bk, (∀ p ∈ x, rowOf b p.1 = p.2) → x = (x.map (·.1)).map fun f => (f, rowOf b f) := by
    intro x
    induction x with
    | nil => intro _; rfl
    | cons p x ih =>
      intro h
      rw [List.map_cons, List.map_cons, ← ih fun q hq => h q (List.mem_cons_of_mem _ hq), h p (List.mem_cons_self ..)]
  exact g b fun p hp => rowOf_mem c.nod hp
theorem Canon.form {b : Bk} (c : Canon b) : canon b = b := by
  have k : (canon b).map (·.1) = b.map (·.1) := by
    rw [canon_keys, sortF_of c.asc, List.filter_eq_self]
    intro f hf
    have z := c.mem.mp hf
    cases e : rowOf b f with
    | nil => exact absurd e z
    | cons _ _ => rfl
  have d := (canon_of c.nod).eq
  rw [k] at d
  rw [d]
  conv => rhs; rw [c.eq]
  exact List.map_congr_left fun f _ => by rw [rowOf_canon]
end Yj
set_option Elab.async false
set_option linter.all false
set_option maxRecDepth 100000
set_option maxHeartbeats 4000000
set_option pp.maxSteps 1500
namespace Yj
open PySem PySem.Spec PyProof.Rows L2 RZ YjD
/-! ### books out of books -/
/-- relations that are ones, and these by their names -/
structure RelOk (rel srt : Rel) : Prop where
  short : ShortR rel
  nod : (rel.map (·.1)).Nodup
  ok : rel.all okR = true
  sorts : Sorts rel srt
theorem putF_rows2 (dr db D : Addr) : putF "rows" (.ref D) (bkF dr db) = bkF dr D := by
  have e : (("relations" : Str) = "rows") = False := by decide +kernel
  unfold bkF putF
  rw [if_neg (by rw [e]; exact not_false)]
  unfold putF
  rw [if_pos rfl]
theorem norm_none {H : Hp} {b : Bk} (N : NormB H [] (sortF (([] : List (Fct × V)).map (·.1))) b) : b = [] := by
  have z := N.sub
  have e : sortF (([] : List (Fct × V)).map (·.1)) = [] := List.mergeSort_nil
  rw [e, List.sublist_nil, List.map_eq_nil_iff] at z
  exact z
def spBookOf (P : Program) (w : World) (C : Addr) : Sp := fun vs H Q _ => ∃ dr rel srt db kvs b, vs = [.ref dr, .ref db] ∧ H dr = some (.dK (relK rel)) ∧ RelOk rel srt ∧ FD P w H db kvs ∧ RowsAt H kvs b ∧ kvs.length ≤ 5000 ∧
  ∀ H' p, Same H H' → H p = none → BookAt P w C H' p srt (canon b) → Q (.ref p) H'
section
variable {P : Program} {w : World} {K : PySem.W.Frag} {mg : Str → Option Value} {base : Heap} {ad : Nat → Addr} {fds : Nat → FuncData} {cs : Nat → Value}
theorem ok__book_of (T : Txt K mg ad fds cs) : FnOk P w K mg base (L2N.CX P w) 8 (ad 38) (fds 38) ["relations", "rows"] (spBookOf P w (ad 38999)) := by
  refine Fun.okN T.F__book_of sc__book_of (fun vs H Q E h => ?_) (fun cdv A outer s H vs Q E hr h => ?_)
  · obtain ⟨dr, rel, srt, db, kvs, b, rfl, _⟩ := h
    rfl
  obtain ⟨dr, rel, srt, db, kvs, b, rfl, hdr, R, F, hb, hz, q⟩ := h
  refine ⟨_, (pss_cons (ps_set (i := 2) sc__book_of.nd rfl (by first | exact .inl rfl | exact .inr rfl) (pe_make T.mk_Book (ok_Book___init__ T) (hr.mono (by decide)) rfl T.g_Book (bi_Book___init__ T) .nil passN (pa_cons (pv 0) (pa_cons YjD.pe_fnew pa_nil))))
      (pss_cons (ps_fld (pv 2) (YjD.pe_fc4 (own := [("fact", 3)]) rfl hr.units sc__book_of.nd (pi_list (pe_callB (YjD.cr_sortFK (P := P) (w := w) rfl hr.units) (by rfl) T.z_sorted (by decide +kernel) (pa_cons (pv 1) pa_nil))) (blkOk_by (N := N__book_of) (sc := defScope s__book_of) (own := [("fact", 3)]) (by decide +kernel)) (fun _ _ _ _ _ => by exact (pg_name (i := 3) sc__book_of.nd rfl (.inl rfl))) (fun _ _ _ _ _ => by exact (pts_one (YjD.pt_truthK (K := K) (YjD.pe_fgetK (P := P) (w := w) hr.units (pv 1) (pv 3) (fun _ _ => rfl)) (by intro _; rfl)))) (fun _ _ _ _ _ => by exact (pv 3)) (fun _ _ _ _ _ => by exact (YjD.pe_fgetK (P := P) (w := w) hr.units (pv 1) (pv 3) (fun _ _ => rfl)))) rfl)
      (pss_one (ps_ret (pv 2))))), ?_⟩
  refine ⟨_, rfl, fun e0 o0 ne0 F0 x dx nx ndx hne => ?_⟩
  have s1 := same_upd (o := o0) ne0
  have nx0 : H x = none := s1.free nx
  have s2 := s1.trans (same_upd (o := .own x) ndx)
  have nx2 : upd (upd H e0 o0) dx (.own x) x = none := by
    rw [upd_ne hne.symm]
    exact nx
  have F2 := F0.mono (same_upd (o := .own x) ndx)
  generalize upd (upd H e0 o0) dx (.own x) = Hb at s2 nx2 F2
  refine ⟨Hb, x, dx, dr, rel, e0, [], rfl, nx2, same_upd nx2, upd_same, s2 _ _ hdr, R.short, R.nod, F2, Nat.zero_le _, (fun f hf => nomatch hf), .inr ⟨R.ok, srt, R.sorts, (fun f hf => nomatch hf), fun _ => ⟨(fun f v hv => nomatch hv), fun H3 dr3 db3 kvs3 b3 s3 hx3 hdr3 F3 R3 N3 => ⟨rfl, ?_⟩⟩⟩⟩
  have s23 := s2.trans s3
  clear s2 F2 F0 s1 nx ndx F3 R3 N3 s3
  refine ⟨_, rfl, db, kvs, rfl, F.mono s23, fun us t nt hk => ?_⟩
  have s4 := same_upd (o := .lst us) nt
  have ht : upd H3 t (.lst us) t = some (.lst us) := upd_same
  have hx4 := s4 _ _ hx3
  have hdr4 := s4 _ _ hdr3
  have s24 := s23.trans s4
  have hk4 := hk.mono s4
  generalize upd H3 t (.lst us) = H4 at ht hx4 hdr4 s24 hk4
  clear s4 hx3 hdr3 s23 hk nt
  have hlk := Paired.length hk4
  have hpm := sortF_perm (kvs.map (·.1))
  have hnf : (sortF (kvs.map (·.1))).Nodup := hpm.nodup_iff.mpr F.nod
  have hkb := hb.keys
  refine ⟨t, rfl, ⟨_, SqL.of ht⟩, fun D o1 nD FD0 => ?_⟩
  have nD0 : H D = none := s24.free nD
  refine fc_it (walk_list (K := K) (a := t) (xs := us)) (fun i H5 => ∃ kvs' : List (Fct × V), Same H4 H5 ∧ FD P w H5 D kvs' ∧ RowsAt H5 kvs' (((sortF (kvs.map (·.1))).take i).filter (fun f => !(rowOf b f).isEmpty) |>.map fun f => (f, rowOf b f))) ⟨[], same_upd nD, FD0, .nil⟩ (fun i H5 _ ⟨_, z, _⟩ => SqL.of (z _ _ ht)) ?_ ?_
  · rintro i y H5 H5' hi ⟨kvs', s5, F5, R5⟩ ⟨rfl, hy⟩
    obtain ⟨ka, f, rfl, hfs, key⟩ := (hk4.mono s5).get hy
    have fk : f ∈ kvs.map (·.1) := hpm.mem_iff.mp (List.mem_of_getElem? hfs)
    have fnew := not_take hnf hfs
    obtain ⟨v, hv⟩ := valV_some fk
    have s25 := s24.trans s5
    rcases (hb.mono s25).val f with ⟨e1, _, _⟩ | ⟨a, e1, ra, _⟩
    · rw [hv] at e1
      cases e1
    obtain ⟨cus, hc, hcr⟩ := ra
    refine ⟨rfl, _, rfl, _, rfl, db, kvs, ka, f, _, rfl, rfl, F.mono s25, key, e1, !cus.isEmpty, .inr (.inl ⟨_, SqT.of hc, rfl⟩), ?_⟩
    have lcr := hcr.len
    have tk1 : ((sortF (kvs.map (·.1))).take (i + 1)).filter (fun f => !(rowOf b f).isEmpty) = ((sortF (kvs.map (·.1))).take i).filter (fun f => !(rowOf b f).isEmpty) ++ if (rowOf b f).isEmpty then [] else [f] := by
      rw [take_snoc hfs, List.filter_append, List.filter_cons, List.filter_nil]
      cases (rowOf b f).isEmpty <;> rfl
    cases ec : cus.isEmpty with
    | true =>
      have er : (rowOf b f).isEmpty = true := by
        rw [List.isEmpty_iff] at ec ⊢
        rw [ec] at lcr
        exact List.eq_nil_of_length_eq_zero lcr.symm
      refine iteF ⟨kvs', s5, F5, ?_⟩
      rw [tk1, er, if_pos rfl, List.append_nil]
      exact R5
    | false =>
      have er : (rowOf b f).isEmpty = false := by
        cases e : rowOf b f with
        | nil =>
          rw [e] at lcr
          rw [List.eq_nil_of_length_eq_zero lcr] at ec
          cases ec
        | cons _ _ => rfl
      have fk2 : f ∉ kvs'.map (·.1) := by
        rw [R5.keys, List.map_map]
        intro z
        obtain ⟨g, hg, e⟩ := List.mem_map.mp z
        have e : g = f := e
        rw [e] at hg
        exact fnew (List.mem_filter.mp hg).1
      obtain ⟨φ, hdD⟩ := F5.ext
      have lk6 : kvs'.length < sizeLine := ofNat_lt (by
        have h1 := R5.len
        rw [List.length_map] at h1
        have h2 := List.length_filter_le (fun f => !(rowOf b f).isEmpty) ((sortF (kvs.map (·.1))).take i)
        rw [List.length_take, hpm.length_eq, List.length_map] at h2
        omega)
      refine iteT ⟨_, rfl, _, rfl, _, rfl, db, kvs, ka, f, _, rfl, rfl, F.mono s25, key, e1, kvs', ka, f, rfl, F5, key, lk6, fun o' F' => ?_⟩
      have tu := tups_upd (o := o') hdD fun xs z => nomatch z
      refine ⟨putK kvs' f (.ref a), same_at s5 nD, F', ?_⟩
      rw [putK_new _ (valV_none fk2), tk1, er, if_neg Bool.false_ne_true, List.map_append]
      exact Paired.snoc (RowsAt.tups tu R5) ⟨rfl, a, rfl, RowT.tups tu ⟨cus, hc, hcr⟩⟩
  · rintro H5 ⟨kvs', s5, F5, R5⟩
    rw [hlk, List.take_length, hkb] at R5
    have hx5 := s5 _ _ hx4
    refine ⟨_, rfl, x, _, dx, _, rfl, hx5, T.cl_Book, T.na_Book_rows, (by show 2 < 1000; decide), ?_⟩
    rw [putF_rows2]
    have tu := tups_upd (o := .ins (ad 38999) dx (bkF dr3 D)) hx5 fun xs z => nomatch z
    have nex : ∀ {y : Addr} {u : HO}, H5 y = some u → (∀ C e fs, u ≠ .ins C e fs) → upd H5 x (.ins (ad 38999) dx (bkF dr3 D)) y = some u := fun {y u} e hu => by
      rw [upd_ne fun z => ?_]
      · exact e
      · rw [z, hx5] at e
        exact hu _ _ _ (Option.some.inj e).symm
    obtain ⟨φ, hdD⟩ := F5.ext
    refine ⟨_, rfl, ?_⟩
    refine q _ x (same_at (s24.trans s5) nx0) nx0 ⟨dx, dr3, D, kvs', upd_same, nex (s5 _ _ hdr4) (fun _ _ _ z => nomatch z), F5.keep ((nex hdD fun _ _ _ z => nomatch z).trans hdD.symm) tu, ?_⟩
    exact R5.tups tu
end
end Yj
set_option Elab.async false
set_option linter.all false
set_option maxRecDepth 100000
set_option maxHeartbeats 4000000
set_option pp.maxSteps 1500
namespace Yj
open PySem PySem.Spec PyProof.Rows L2 RZ YjD
/-! ### a row set in a book -/
def putB (b : Bk) (f : Fct) (r : Sps) : Bk := if (b.any fun p => decide (p.1 = f)) = true then b.map (fun p => if p.1 = f then (p.1, r) else p) else b ++ [(f, r)]
theorem any_key (b : Bk) (f : Fct) : (b.any fun p => decide (p.1 = f)) = true ↔ f ∈ b.map (·.1) := by
  rw [List.any_eq_true, List.mem_map]
  exact ⟨fun ⟨p, h, e⟩ => ⟨p, h, of_decide_eq_true e⟩, fun ⟨p, h, e⟩ => ⟨p, h, decide_eq_true e⟩⟩
theorem putB_keys (b : Bk) (f : Fct) (r : Sps) : (putB b f r).map (·.1) = if f ∈ b.map (·.1) then b.map (·.1) else b.map (·.1) ++ [f] := by
  unfold putB
  by_cases h : f ∈ b.map (·.1)
  · rw [if_pos ((any_key b f).mpr h), if_pos h, List.map_map]
    refine List.map_congr_left fun p _ => ?_
    show (if p.1 = f then (p.1, r) else p).1 = p.1
    by_cases e : p.1 = f
    · rw [if_pos e]
    · rw [if_neg e]
  · rw [if_neg fun z => h ((any_key b f).mp z), if_neg h, List.map_append]
    rfl
theorem putB_nod {b : Bk} (f : Fct) (r : Sps) (n : (b.map (·.1)).Nodup) : ((putB b f r).map (·.1)).Nodup := by
  rw [putB_keys]
  by_cases h : f ∈ b.map (·.1)
  · rw [if_pos h]
    exact n
  · rw [if_neg h]
    exact List.nodup_append.mpr ⟨n, List.nodup_cons.mpr ⟨List.not_mem_nil, List.nodup_nil⟩, fun x hx y hy e => h (by rw [← List.mem_singleton.mp hy, ← e]; exact hx)⟩
theorem rowOf_swap (f : Fct) (r : Sps) (g : Fct) : ∀ b : Bk, rowOf (b.map fun p => if p.1 = f then (p.1, r) else p) g = if f = g ∧ f ∈ b.map (·.1) then r else rowOf b g
  | [] => by rw [if_neg fun z => nomatch z.2]; rfl
  | p :: b => by
    rw [List.map_cons, rowOf_cons, rowOf_cons, rowOf_swap f r g b]
    by_cases e : p.1 = f
    · by_cases e2 : f = g
      · rw [if_pos e, if_pos (e.trans e2), if_pos ⟨e2, by rw [List.map_cons, e]; exact List.mem_cons_self ..⟩]
      · rw [if_pos e, if_neg fun z => e2 (e.symm.trans z), if_neg fun z => e2 (e.symm.trans z), if_neg fun z => e2 z.1, if_neg fun z => e2 z.1]
    · rw [if_neg e]
      by_cases e2 : p.1 = g
      · rw [if_pos e2, if_pos e2, if_neg fun z => e (e2.trans z.1.symm)]
      · rw [if_neg e2, if_neg e2]
        by_cases c : f = g ∧ f ∈ b.map (·.1)
        · rw [if_pos c, if_pos ⟨c.1, by rw [List.map_cons]; exact List.mem_cons_of_mem _ c.2⟩]
        · rw [if_neg c, if_neg fun z => c ⟨z.1, ?_⟩]
          have m := z.2
          rw [List.map_cons] at m
          rcases List.mem_cons.mp m with m | m
          · exact absurd m.symm e
          · exact m
theorem rowOf_put (b : Bk) (f : Fct) (r : Sps) (g : Fct) : rowOf (putB b f r) g = if f = g then r else rowOf b g := by
  unfold putB
  by_cases h : f ∈ b.map (·.1)
  · rw [if_pos ((any_key b f).mpr h), rowOf_swap]
    by_cases e : f = g
    · rw [if_pos ⟨e, h⟩, if_pos e]
    · rw [if_neg fun z => e z.1, if_neg e]
  · rw [if_neg fun z => h ((any_key b f).mp z)]
    exact rowOf_snoc b f r g fun z e => h (by rw [e]; exact z)
theorem RowsAt.any {H : Hp} {kvs : List (Fct × V)} {b : Bk} (h : RowsAt H kvs b) (f : Fct) : (kvs.any fun kv => decide (kv.1 = f)) = (b.any fun p => decide (p.1 = f)) := by
  induction h with
  | nil => rfl
  | cons a t ih => rw [List.any_cons, List.any_cons, ih, a.1]
theorem RowsAt.put {H : Hp} {kvs : List (Fct × V)} {b : Bk} (h : RowsAt H kvs b) (f : Fct) {a : Addr} {r : Sps} (ha : RowT H a r) : RowsAt H (putK kvs f (.ref a)) (putB b f r) := by
  unfold putK putB
  rw [h.any f]
  by_cases e : (b.any fun p => decide (p.1 = f)) = true
  · rw [if_pos e, if_pos e]
    clear e
    induction h with
    | nil => exact .nil
    | @cons p q ps qs x t ih =>
      obtain ⟨e1, c, e2, rc⟩ := x
      refine .cons ?_ ih
      dsimp only
      by_cases k : p.1 = f
      · rw [if_pos k, if_pos (e1.symm.trans k)]
        exact ⟨e1, a, rfl, ha⟩
      · rw [if_neg k, if_neg fun z => k (e1.trans z)]
        exact ⟨e1, c, e2, rc⟩
  · rw [if_neg e, if_neg e]
    exact Paired.snoc h ⟨rfl, a, rfl, ha⟩
theorem putB_len (b : Bk) (f : Fct) (r : Sps) : (putB b f r).length ≤ b.length + 1 := by
  have e : (putB b f r).length = ((putB b f r).map (·.1)).length := (List.length_map ..).symm
  rw [e, putB_keys]
  by_cases h : f ∈ b.map (·.1)
  · rw [if_pos h, List.length_map]
    omega
  · rw [if_neg h, List.length_append, List.length_map]
    exact Nat.le_refl _
theorem putK_take {kvs : List (Fct × V)} (n : (kvs.map (·.1)).Nodup) {i : Nat} {f : Fct} {v : V} (h : kvs[i]? = some (f, v)) : putK (kvs.take i) f v = kvs.take (i + 1) := by
  have e1 : (kvs.map (·.1))[i]? = some f := by
    rw [List.getElem?_map, h]
    rfl
  have nf := not_take n e1
  rw [← List.map_take] at nf
  rw [putK_new _ (valV_none nf), take_snoc h]
/-- a book behind a change of the fact g -/
structure Behind (b : Bk) (word : Str) (g : Fct) (f la : Int) (b' : Bk) : Prop where
  can : Canon b'
  sub : ∀ h ∈ b'.map (·.1), h = g ∨ h ∈ b.map (·.1)
  at_ : FBehind word (rowOf b g) f la (rowOf b' g)
  off : ∀ h, g ≠ h → rowOf b' h = rowOf b h
/-- what two books make -/
structure Both (F : Sps → Sps → Sps → Prop) (b c r : Bk) : Prop where
  can : Canon r
  sub : ∀ h ∈ r.map (·.1), h ∈ b.map (·.1) ∨ h ∈ c.map (·.1)
  at_ : ∀ f, F (rowOf b f) (rowOf c f) (rowOf r f)
/-! ### empty_book -/
def spEmpty (P : Program) (w : World) (C Cr : Addr) : Sp := fun vs H Q E => ∃ dr rel, vs = [.ref dr] ∧ H dr = some (.dK (relK rel)) ∧ ShortR rel ∧ (rel.map (·.1)).Nodup ∧
  ((rel.all okR = true ∧ ∃ srt, Sorts rel srt ∧ ∀ H' p, Same H H' → H p = none → BookAt P w C H' p srt [] → Q (.ref p) H') ∨
   (∃ pre b post, rel = pre ++ b :: post ∧ pre.all okR = true ∧ okR b = false ∧ ∀ d H', H d = none → Keep dr H H' → H' d = some (.xd [(("name" : Str), .str b.1)]) → E (.ref Cr) (some d) H'))
section
variable {P : Program} {w : World} {K : PySem.W.Frag} {mg : Str → Option Value} {base : Heap} {ad : Nat → Addr} {fds : Nat → FuncData} {cs : Nat → Value}
theorem ok_empty_book (T : Txt K mg ad fds cs) : FnOk P w K mg base (L2N.CX P w) 8 (ad 39) (fds 39) ["relations"] (spEmpty P w (ad 38999) (ad 5999)) := by
  refine Fun.okN T.F_empty_book sc_empty_book (fun vs H Q E h => ?_) (fun cdv A outer s H vs Q E hr h => ?_)
  · obtain ⟨dr, rel, rfl, _⟩ := h
    rfl
  obtain ⟨dr, rel, rfl, hdr, hs, hn, h⟩ := h
  refine ⟨_, (pss_one (ps_ret (pe_make T.mk_Book (ok_Book___init__ T) (hr.mono (by decide)) rfl T.g_Book (bi_Book___init__ T) .nil (L2N.passes_call (L2N.takes_of rfl rfl rfl rfl) fun _ _ _ _ h => h) (pa_cons (pv 0) (pa_cons YjD.pe_fnew pa_nil))))), ?_⟩
  refine ⟨_, rfl, fun e0 o0 ne0 F0 x dx nx ndx hne => ?_⟩
  have s1 := same_upd (o := o0) ne0
  have nx0 : H x = none := s1.free nx
  have s2 := s1.trans (same_upd (o := .own x) ndx)
  have nx2 : upd (upd H e0 o0) dx (.own x) x = none := by
    rw [upd_ne hne.symm]
    exact nx
  have F2 := F0.mono (same_upd (o := .own x) ndx)
  generalize upd (upd H e0 o0) dx (.own x) = Hb at s2 nx2 F2
  refine ⟨Hb, x, dx, dr, rel, e0, [], rfl, nx2, same_upd nx2, upd_same, s2 _ _ hdr, hs, hn, F2, Nat.zero_le _, (fun f hf => nomatch hf), ?_⟩
  rcases h with ⟨hok, srt, hsrt, q⟩ | ⟨pre, b, post, e1, e2, e3, q⟩
  · refine .inr ⟨hok, srt, hsrt, (fun f hf => nomatch hf), fun _ => ⟨(fun f v hv => nomatch hv), fun H3 dr3 db3 kvs3 b3 s3 hx3 hdr3 F3 R3 N3 => ⟨rfl, ?_⟩⟩⟩
    obtain rfl := norm_none N3
    exact q H3 x (s2.trans s3) nx0 ⟨dx, dr3, db3, kvs3, hx3, hdr3, F3, R3⟩
  · refine .inl ⟨pre, b, post, e1, e2, e3, fun d H' nd k hd => q d H' (s2.free nd) (fun c o n e => k c o n (s2 _ _ e)) hd⟩
/-! ### changed -/
def spChanged (P : Program) (w : World) (C Cc : Addr) : Sp := fun vs H Q E => ∃ p rel srt b x k, vs = [.ref p, x] ∧ BookAt P w C H p rel b ∧ RelOk rel srt ∧ Good b ∧ (b.map (·.1)).Nodup ∧ FaultV H rel x k ∧
  (∀ z, k = some z → ∀ d H', Same H H' → H d = none → H' d = some (.xd [(("word" : Str), .str z)]) → E (.ref Cc) (some d) H') ∧
  (k = none → ∃ t word r n ns f la, x = .ref t ∧ H t = some (.tup [.str word, .str r, .ref n, .int f, .int la]) ∧ H n = some (.tup (ns.map V.str)) ∧ 0 ≤ f ∧ f ≤ la ∧ la ≤ 999999 ∧
    ∀ b' H' p', Behind b word (r, ns) f la b' → Same H H' → H p' = none → BookAt P w C H' p' srt b' → Q (.ref p') H')
theorem ok_Book_changed (T : Txt K mg ad fds cs) : FnOk P w K mg base (L2N.CX P w) 9 (ad 38010) (fds 38010) ["self", "change"] (spChanged P w (ad 38999) (ad 7999)) := by
  refine Fun.okN T.F_Book_changed sc_Book_changed (fun vs H Q E h => ?_) (fun cdv A outer s H vs Q E hr h => ?_)
  · obtain ⟨p, rel, srt, b, x, k, rfl, _⟩ := h
    rfl
  obtain ⟨p, rel, srt, b, x, k, rfl, B, R, g, nod, hx, e, q⟩ := h
  obtain ⟨dx, dr, db, kvs, h1, h2, ⟨o, h3⟩, h4⟩ := B.obj
  refine ⟨_, (pss_cons (ps_expr (pe_call (ok_check_change T) (hr.mono (by decide)) rfl T.g_check_change T.F_check_change.kp (bi_check_change T) .nil (L2N.passes_call (L2N.takes_of rfl rfl rfl rfl) fun _ _ _ _ h => h) (pa_cons (YjD.pe_fldK (K := K) (pv 0) rfl) (pa_cons (pv 1) pa_nil))))
      (pss_cons (YjD.ps_setFc4 (i := 2) (own := [("fact", 3)]) rfl hr.units sc_Book_changed.nd rfl rfl (YjD.sw_dc rfl rfl rfl (by decide +kernel)) (YjD.pi_factsK (P := P) (w := w) (YjD.pe_fldK (K := K) (pv 0) rfl)) (blkOk_by (N := N_Book_changed) (sc := defScope s_Book_changed) (own := [("fact", 3)]) (by decide +kernel)) (fun _ _ _ _ _ => by exact (pg_name (i := 3) sc_Book_changed.nd rfl (.inl rfl))) (fun _ _ _ _ _ => by exact pts_nil) (fun _ _ _ _ _ => by exact (pv 3)) (fun _ _ _ _ _ => by exact (YjD.pe_fgetK (P := P) (w := w) hr.units (YjD.pe_fldK (K := K) (pv 0) rfl) (pv 3) (fun _ _ => rfl))))
      (pss_cons (ps_set (i := 3) sc_Book_changed.nd rfl (by first | exact .inl rfl | exact .inr rfl) (pe_tup (pa_cons (pe_ix ix_seq (pv 1) pe_int (fun _ _ => rfl)) (pa_cons (pe_ix ix_seq (pv 1) pe_int (fun _ _ => rfl)) pa_nil))))
      (pss_cons (ps_asg (pe_call (ok_row_behind T) (hr.mono (by decide)) rfl T.g_row_behind T.F_row_behind.kp (bi_row_behind T) .nil pass0 (pa_cons (YjD.pe_forK (P := P) (w := w) hr.units (pv 2) (pv 3) (pe_tup pa_nil) ⟨rfl, rfl, rfl, rfl⟩) (pa_cons (pv 1) pa_nil))) (pg_sub (pv 2) (pv 3) (YjD.set_factK (P := P) (w := w) hr.units)))
      (pss_one (ps_ret (pe_call (ok__book_of T) (hr.mono (by decide)) rfl T.g__book_of T.F__book_of.kp (bi__book_of T) .nil passN (pa_cons (YjD.pe_fldK (K := K) (pv 0) rfl) (pa_cons (pv 2) pa_nil))))))))), ?_⟩
  refine ⟨_, rfl, p, _, dx, _, _, rfl, h1, T.cl_Book, T.na_Book_relations, bkF_rels _ _, _, rfl, dr, rel, x, k, rfl, h2, hx, fun ek H1 s1 => ?_, e⟩
  obtain ⟨t, word, r, n, ns, f, la, rfl, ht, hn, f0, f1, f2, q⟩ := q ek
  have h1' := s1 _ _ h1
  refine ⟨_, rfl, p, _, dx, _, _, rfl, h1', T.cl_Book, T.na_Book_rows, bkF_rows _ _, db, o, kvs, rfl, h3.mono s1, fun D o0 nD FD0 => ?_⟩
  have nD0 : H D = none := s1.free nD
  have lk := h4.len
  refine fc_it walk_facts (fun i H2 => Same H1 H2 ∧ FD P w H2 D (kvs.take i)) ⟨same_upd nD, FD0⟩ (fun i H2 _ z => (h3.mono s1).mono z.1) ?_ ?_
  · rintro i y H2 H2' hi ⟨s2, F2⟩ ⟨rfl, ka, g1, v, rfl, hv, key⟩
    have lkt : (kvs.take i).length < sizeLine := ofNat_lt (by
      rw [List.length_take]
      have := g.1
      omega)
    refine ⟨rfl, _, rfl, _, rfl, p, _, dx, _, _, rfl, s2 _ _ h1', T.cl_Book, T.na_Book_rows, bkF_rows _ _, _, rfl, db, kvs, ka, g1, _, rfl, rfl, ⟨o, (h3.mono s1).mono s2⟩, key, valV_get h3.nod hv, kvs.take i, ka, g1, rfl, F2, key, lkt, fun o' F' => ?_⟩
    rw [putK_take h3.nod hv] at F'
    exact ⟨same_at s2 nD, F'⟩
  rintro H2 ⟨s2, F2⟩
  rw [List.take_length] at F2
  have s02 := s1.trans s2
  clear nD FD0
  have ht2 := s02 _ _ ht
  have hn2 := s02 _ _ hn
  refine ⟨_, rfl, .inr (.inl ⟨t, _, 1, _, rfl, rfl, SqT.of ht2, atI_nat (j := 1) rfl, ?_⟩)⟩
  refine ⟨_, rfl, .inr (.inl ⟨t, _, 2, _, rfl, rfl, SqT.of ht2, atI_nat (j := 2) rfl, ?_⟩)⟩
  refine ⟨(by show 2 ≤ sizeLine; decide), fun ka nka => ?_⟩
  have s3 := same_upd (o := .tup [.str r, .ref n]) nka
  have key : KeyAt (upd H2 ka (.tup [.str r, .ref n])) ka (r, ns) := ⟨n, upd_same, s3 _ _ hn2⟩
  have s03 := s02.trans s3
  have F3 := F2.mono s3
  generalize upd H2 ka (.tup [.str r, .ref n]) = H3 at s3 key s03 F3
  clear F2 ht2 hn2 nka s3 s2 s02
  refine ⟨_, rfl, D, kvs, rfl, F3, _, rfl, Nat.zero_le _, fun u nu => ?_⟩
  have s4 := same_upd (o := .tup []) nu
  have s04 := s03.trans s4
  refine ⟨ka, (r, ns), rfl, F3.mono s4, key.mono s4, ?_⟩
  obtain ⟨gr, gl⟩ := g.row (r, ns)
  have h44 := h4.mono s04
  obtain ⟨c, ec, rc⟩ : ∃ c, (valV kvs (r, ns)).getD (.ref u) = .ref c ∧ RowT (upd H3 u (.tup [])) c (rowOf b (r, ns)) := by
    rcases h44.val (r, ns) with ⟨e1, e2, _⟩ | ⟨c, e1, e2, _⟩
    · rw [e1, e2]
      exact ⟨u, rfl, [], upd_same, .nil⟩
    · rw [e1]
      exact ⟨c, rfl, e2⟩
  rw [ec]
  have F4 := F3.mono s4
  have key4 := key.mono s4
  generalize upd H3 u (.tup []) = H4 at s04 rc h44 F4 key4
  clear s4 nu F3 key s03 ec
  refine ⟨_, rfl, c, _, t, word, r, n, f, la, rfl, rc, gr, by omega, s04 _ _ ht, f0, f1, f2, fun r2 hF H5 c2 us s5 nc2 hc2 hus => ?_⟩
  have s05 := s04.trans s5
  have F5 := F4.mono s5
  have lkt : kvs.length < sizeLine := ofNat_lt (by
    have := g.1
    omega)
  refine ⟨_, rfl, _, rfl, D, kvs, ka, (r, ns), rfl, rfl, F5, key4.mono s5, lkt, fun o' F' => ?_⟩
  obtain ⟨φ, hdD⟩ := F5.ext
  have tu := tups_upd (o := o') hdD fun xs z => nomatch z
  have R6 := RowsAt.tups tu ((h44.mono s5).put (r, ns) ⟨us, hc2, hus⟩)
  have s06 : Same H (upd H5 D o') := same_at s05 nD0
  generalize upd H5 D o' = H6 at F' R6 s06
  have lb := putB_len b (r, ns) r2
  refine ⟨_, rfl, p, _, dx, _, _, rfl, s06 _ _ h1, T.cl_Book, T.na_Book_relations, bkF_rels _ _, _, rfl, dr, rel, srt, D, _, putB b (r, ns) r2, rfl, s06 _ _ h2, R, F', R6, ?_, fun H' p' s7 np B' => ?_⟩
  · rw [R6.len]
    have := g.1
    omega
  · refine q _ H' p' ⟨canon_of (putB_nod _ _ nod), fun h hh => ?_, ?_, fun h ne => ?_⟩ (s06.trans s7) (s06.free np) B'
    · have m := canon_sub hh
      rw [putB_keys] at m
      by_cases i : (r, ns) ∈ b.map (·.1)
      · rw [if_pos i] at m
        exact .inr m
      · rw [if_neg i] at m
        rcases List.mem_append.mp m with m | m
        · exact .inr m
        · exact .inl (List.mem_singleton.mp m)
    · rw [rowOf_canon, rowOf_put, if_pos rfl]
      exact hF
    · rw [rowOf_canon, rowOf_put, if_neg ne]
end
end Yj
set_option Elab.async false
set_option linter.all false
set_option maxRecDepth 100000
set_option maxHeartbeats 4000000
set_option pp.maxSteps 1500
namespace Yj
open PySem PySem.Spec PyProof.Rows L2 RZ YjD
section
variable {P : Program} {w : World} {K : PySem.W.Frag} {mg : Str → Option Value} {base : Heap} {ad : Nat → Addr} {fds : Nat → FuncData} {cs : Nat → Value}
/-! ### __eq__ -/
theorem nodup_le : ∀ {a c : List Fct}, a.Nodup → (∀ x ∈ a, x ∈ c) → a.length ≤ c.length
  | [], _, _, _ => Nat.zero_le _
  | x :: a, c, n, h => by
    obtain ⟨n1, n2⟩ := List.nodup_cons.mp n
    have m := h x (List.mem_cons_self ..)
    have z := nodup_le (c := c.erase x) n2 fun y hy => (List.mem_erase_of_ne fun e => n1 (by rw [← e]; exact hy)).mpr (h y (List.mem_cons_of_mem _ hy))
    rw [List.length_erase_of_mem m] at z
    have := List.length_pos_of_mem m
    rw [List.length_cons]
    omega
def rowsE (b c : Bk) : Prop := ∀ f, rowOf b f = rowOf c f
theorem eqF_rows {H : Hp} {kb kc : List (Fct × V)} {b c : Bk} (hb : RowsAt H kb b) (hc : RowsAt H kc c) (cb : Canon b) (cc : Canon c) : eqF kb kc (fun f => dat (rowOf b f)) (fun f => dat (rowOf c f)) = true ↔ rowsE b c := by
  have lb := hb.len
  have lc := hc.len
  have kb1 := hb.keys
  have kc1 := hc.keys
  have isS : ∀ f, (valV kc f).isSome = true ↔ f ∈ c.map (·.1) := fun f => by
    rcases hc.val f with ⟨e1, _, e3⟩ | ⟨a, e1, _, e3⟩
    · rw [e1]
      exact ⟨(fun z => nomatch z), fun z => absurd z e3⟩
    · rw [e1]
      exact ⟨fun _ => List.mem_map.mpr ⟨_, e3, rfl⟩, fun _ => rfl⟩
  unfold eqF
  rw [Bool.and_eq_true, List.all_eq_true, beq_iff_eq, lb, lc]
  constructor
  · rintro ⟨e, h⟩ f
    have at_ : ∀ f ∈ b.map (·.1), f ∈ c.map (·.1) ∧ rowOf b f = rowOf c f := fun f hf => by
      rw [← kb1] at hf
      obtain ⟨p, hp, rfl⟩ := List.mem_map.mp hf
      have z := h p hp
      rw [Bool.and_eq_true, isS, dat_eqv, decide_eq_true_eq] at z
      exact z
    by_cases m : f ∈ b.map (·.1)
    · exact (at_ f m).2
    · by_cases m2 : f ∈ c.map (·.1)
      · have sub : ∀ x ∈ b.map (·.1), x ∈ (c.map (·.1)).erase f := fun x hx => (List.mem_erase_of_ne fun z => m (by rw [← z]; exact hx)).mpr (at_ x hx).1
        have l1 := nodup_le cb.nod sub
        rw [List.length_erase_of_mem m2, List.length_map, List.length_map] at l1
        have : 0 < c.length := by
          have := List.length_pos_of_mem m2
          rw [List.length_map] at this
          exact this
        omega
      · rw [rowOf_not m, rowOf_not m2]
  · intro h
    have iff : ∀ f, f ∈ b.map (·.1) ↔ f ∈ c.map (·.1) := fun f => by rw [cb.mem, cc.mem, h f]
    refine ⟨?_, fun p hp => ?_⟩
    · have l1 := nodup_le cb.nod fun x hx => (iff x).mp hx
      have l2 := nodup_le cc.nod fun x hx => (iff x).mpr hx
      rw [List.length_map, List.length_map] at l1 l2
      omega
    · rw [Bool.and_eq_true, isS, dat_eqv, decide_eq_true_eq]
      refine ⟨(iff _).mp ?_, h _⟩
      rw [← kb1]
      exact List.mem_map.mpr ⟨p, hp, rfl⟩
theorem dataF_rows {K : PySem.W.Frag} {H : Hp} {kb : List (Fct × V)} {b : Bk} (hb : RowsAt H kb b) (n : (b.map (·.1)).Nodup) : DataF K H kb fun f => dat (rowOf b f) := by
  intro p hp
  obtain ⟨i, hi⟩ := List.mem_iff_getElem?.mp hp
  obtain ⟨l, a, e1, e2, r⟩ := hb.get (f := p.1) (v := p.2) hi
  have e := rowOf_mem n (List.mem_of_getElem? e1)
  dsimp only at e
  rw [e2]
  show Dp K H (.ref a) (dat (rowOf b p.1)) ∧ SeqAt.shaped (dat (rowOf b p.1)) = true
  rw [e]
  exact ⟨r.dat, dat_shaped l⟩
def spBEq (P : Program) (w : World) (C : Addr) : Sp := fun vs H Q _ => ∃ p rel b y, vs = [.ref p, y] ∧ BookAt P w C H p rel b ∧ ((∃ d kvs, y = .ref d ∧ FD P w H d kvs ∧ Q (.bl false) H) ∨
  ∃ p2 c, y = .ref p2 ∧ BookAt P w C H p2 rel c ∧ (rel.map (·.1)).Nodup ∧ Canon b ∧ Canon c ∧ ∀ k : Bool, (k = true ↔ rowsE b c) → Q (.bl k) H)
theorem ok_Book___eq__ (T : Txt K mg ad fds cs) : FnOk P w K mg base CX0 2 (ad 38001) (fds 38001) ["self", "other"] (spBEq P w (ad 38999)) := by
  refine T.F_Book___eq__.ok sc_Book___eq__ (fun vs H Q E h => ?_) (fun cdv A outer s H vs Q E hr h => ?_)
  · obtain ⟨p, rel, b, y, rfl, _⟩ := h
    rfl
  obtain ⟨p, rel, b, y, rfl, B, h⟩ := h
  obtain ⟨dx, dr, db, kvs, h1, h2, h3, h4⟩ := id B.obj
  refine ⟨_, (pss_one (ps_ret (pe_and (pe_callB (YjD.call_isiFK (P := P) (w := w) (K := K)) (by rfl) T.z_isinstance (by decide +kernel) (pa_cons (pv 1) (pa_cons (pe_glob (v := V.ref (ad 38999)) rfl T.g_Book rfl) pa_nil))) (pe_and (pe_cmpR (op_eq_dictA (Nat.lt_of_le_of_lt (Nat.le_add_right _ 64) hr.units)) (YjD.pe_fldK (K := K) (pv 0) rfl) (YjD.pe_fldK (K := K) (pv 1) rfl) (nomark _)) (pe_one (pe_cmpR (YjD.op_eqFK (P := P) (w := w) (K := K) (YjD.room128 hr)) (YjD.pe_fldK (K := K) (pv 0) rfl) (YjD.pe_fldK (K := K) (pv 1) rfl) (nomark _))))))), ?_⟩
  rcases h with ⟨d, kvd, rfl, F, q⟩ | ⟨p2, c, rfl, B2, nod, cb, cc, q⟩
  · refine ⟨_, rfl, _, _, _, _, false, rfl, ClsV.own _, .inr ⟨d, kvd, rfl, F, rfl⟩, T.is_Book.dict, _, rfl, iteF q⟩
  · obtain ⟨dx2, dr2, db2, kvs2, j1, j2, j3, j4⟩ := id B2.obj
    refine ⟨_, rfl, _, _, _, _, true, rfl, ClsV.own _, .inl (T.is_Book.ty T.cl_Book j1), T.is_Book.me, _, rfl, iteT ?_⟩
    refine ⟨_, rfl, p, _, dx, _, _, rfl, h1, T.cl_Book, T.na_Book_relations, bkF_rels _ _, _, rfl, p2, _, dx2, _, _, rfl, j1, T.cl_Book, T.na_Book_relations, bkF_rels _ _, dr, dr2, relK rel, relK rel, rfl, rfl, h2, j2, rfl, fun x hx => ?_, _, rfl, iteT ?_⟩
    · obtain ⟨y, hy, rfl⟩ := List.mem_map.mp hx
      refine ⟨?_, rfl⟩
      obtain ⟨i, hi⟩ := List.mem_iff_getElem?.mp hy
      rw [relK_val, relAt_get nod hi]
      rfl
    · refine ⟨_, rfl, p, _, dx, _, _, rfl, h1, T.cl_Book, T.na_Book_rows, bkF_rows _ _, _, rfl, p2, _, dx2, _, _, rfl, j1, T.cl_Book, T.na_Book_rows, bkF_rows _ _, db, db2, kvs, kvs2, _, _, rfl, rfl, h3, j3, dataF_rows h4 cb.nod, dataF_rows j4 cc.nod, ?_⟩
      exact q _ (eqF_rows h4 j4 cb cc)
end
end Yj
set_option Elab.async false
set_option linter.all false
set_option maxRecDepth 100000
set_option maxHeartbeats 4000000
set_option pp.maxSteps 1500
namespace Yj
open PySem PySem.Spec PyProof.Rows L2 RZ YjD
/-! ### what the law draws: relations, facts, changes -/
def relL : Rel := [("works", 1), ("lives", 2)]
def relS : Rel := [("lives", 2), ("works", 1)]
def F3 : List Fct := [("lives", ["ann", "rome"]), ("lives", ["bob", "rome"]), ("works", ["ann"])]
theorem sorts_two {a b : Str} {x y : Int} {rel : Rel} (hn : (rel.map (·.1)).Perm [a, b]) (ne : a ≠ b) (h1 : sortedS [b, a] = false) (hl : rel.length = 2) (ha : relAt rel a = some x) (hb : relAt rel b = some y) : Sorts rel [(a, x), (b, y)] := by
  refine ⟨fun ys hp hs => ?_, ?_, hl.symm, ?_⟩
  · have p := hp.trans hn
    have l := p.length_eq
    obtain ⟨u, v, rfl⟩ : ∃ u v, ys = [u, v] := by
      match ys, l with
      | [u, v], _ => exact ⟨u, v, rfl⟩
    have mu : u ∈ [a, b] := p.subset (List.mem_cons_self ..)
    have nd : [u, v].Nodup := p.symm.nodup (List.nodup_cons.mpr ⟨fun z => ne (List.mem_singleton.mp z), List.nodup_cons.mpr ⟨List.not_mem_nil, List.nodup_nil⟩⟩)
    have mv : v ∈ [a, b] := p.subset (List.mem_cons_of_mem _ (List.mem_cons_self ..))
    have nuv : u ≠ v := fun z => (List.nodup_cons.mp nd).1 (List.mem_singleton.mpr z)
    rcases List.mem_cons.mp mu with e1 | e1 <;> rcases List.mem_cons.mp mv with e2 | e2
    · exact absurd (e1.trans e2.symm) nuv
    · rw [e1, List.mem_singleton.mp e2]
      rfl
    · rw [List.mem_singleton.mp e1, e2, h1] at hs
      cases hs
    · exact absurd ((List.mem_singleton.mp e1).trans (List.mem_singleton.mp e2).symm) nuv
  · exact List.nodup_cons.mpr ⟨fun z => ne (List.mem_singleton.mp z), List.nodup_cons.mpr ⟨List.not_mem_nil, List.nodup_nil⟩⟩
  · intro p hp
    rcases List.mem_cons.mp hp with e | e
    · rw [e]
      exact ha
    · rw [List.mem_singleton.mp e]
      exact hb
theorem lw_ne : ("lives" : Str) ≠ "works" := by decide +kernel
theorem lw_sorted : sortedS [("works" : Str), "lives"] = false := by decide +kernel
theorem relS_ok : RelOk relS relS := by
  refine ⟨⟨by decide, by decide +kernel⟩, by decide +kernel, by decide +kernel, ?_⟩
  exact sorts_two (List.Perm.refl _) lw_ne lw_sorted rfl (by decide +kernel) (by decide +kernel)
theorem relL_ok : RelOk relL relS := by
  refine ⟨⟨by decide, by decide +kernel⟩, by decide +kernel, by decide +kernel, ?_⟩
  exact sorts_two (List.Perm.swap _ _ _) lw_ne lw_sorted rfl (by decide +kernel) (by decide +kernel)
/-- a change: its word, its fact, its days -/
abbrev Chg := Str × Fct × Int × Int
def ChgAt (H : Hp) (v : V) (c : Chg) : Prop := ∃ t n, v = .ref t ∧ H t = some (.tup [.str c.1, .str c.2.1.1, .ref n, .int c.2.2.1, .int c.2.2.2]) ∧ H n = some (.tup (c.2.1.2.map V.str))
def okC (c : Chg) : Prop := (c.1 = ("set" : Str) ∨ c.1 = ("clear" : Str)) ∧ c.2.1 ∈ F3 ∧ 0 ≤ c.2.2.1 ∧ c.2.2.1 ≤ c.2.2.2 ∧ c.2.2.2 ≤ 999999 ∧ Edge c.2.2.1 ∧ Edge c.2.2.2
abbrev ChgsAt (H : Hp) : List V → List Chg → Prop := Paired fun v c => ChgAt H v c ∧ okC c
theorem ChgAt.tups {H H' : Hp} (s : Tups H H') {v : V} {c : Chg} (h : ChgAt H v c) : ChgAt H' v c := by
  obtain ⟨t, n, e, h1, h2⟩ := h
  exact ⟨t, n, e, s _ _ h1, s _ _ h2⟩
theorem ChgsAt.tups {H H' : Hp} (s : Tups H H') {vs : List V} {cs : List Chg} (h : ChgsAt H vs cs) : ChgsAt H' vs cs := Paired.mapP h fun _ _ ⟨a, b⟩ => ⟨a.tups s, b⟩
theorem keep_tups {d : Addr} {H H' : Hp} {xs : List V} (h : H d = some (.lst xs)) (k : Keep d H H') : Tups H H' := fun b ys e => k b _ (fun z => by
  rw [z, h] at e
  cases e) e
theorem ChgsAt.get {H : Hp} {vs : List V} {cs : List Chg} (h : ChgsAt H vs cs) : ∀ {i : Nat} {v : V}, vs[i]? = some v → ∃ c, cs[i]? = some c ∧ ChgAt H v c ∧ okC c := by
  induction h with
  | nil =>
    intro i v e
    cases e
  | @cons u q us l a t ih =>
    intro i v e
    cases i with
    | zero =>
      obtain rfl := Option.some.inj e
      exact ⟨q, rfl, a⟩
    | succ i => exact ih (i := i) e
/-- what was known of a fact on a day, behind changes -/
def knownFrom (k : Bool) (cs : List Chg) (f : Fct) (d : Int) : Bool := cs.foldl (fun k c => if c.2.1 = f ∧ c.2.2.1 ≤ d ∧ d ≤ c.2.2.2 then decide (c.1 = ("set" : Str)) else k) k
def knownC (cs : List Chg) (f : Fct) (d : Int) : Bool := knownFrom false cs f d
theorem knownC_snoc (cs : List Chg) (c : Chg) (f : Fct) (d : Int) : knownC (cs ++ [c]) f d = if c.2.1 = f ∧ c.2.2.1 ≤ d ∧ d ≤ c.2.2.2 then decide (c.1 = ("set" : Str)) else knownC cs f d := by
  unfold knownC knownFrom
  rw [List.foldl_append]
  rfl
theorem key_made {H : Hp} {n t : Addr} {r : Str} {ns : List Str} (h : upd H n (.tup (ns.map V.str)) t = none) : KeyAt (upd (upd H n (.tup (ns.map V.str))) t (.tup [.str r, .ref n])) t (r, ns) := ⟨n, upd_same, same_upd h _ _ upd_same⟩
theorem same_two {H : Hp} {n t : Addr} {o u : HO} (h1 : H n = none) (h2 : upd H n o t = none) : Same H (upd (upd H n o) t u) := (same_upd h1).trans (same_upd h2)
theorem strs_dp {K : PySem.W.Frag} {H : Hp} : ∀ ns : List Str, DpAll K H (ns.map V.str) (ns.map PyData.str)
  | [] => .nil
  | n :: r => .cons (.str n) (strs_dp r)
theorem key_dat {K : PySem.W.Frag} {H : Hp} {a : Addr} {f : Fct} (k : KeyAt H a f) : Dp K H (.ref a) (factD f) := by
  obtain ⟨n, h1, h2⟩ := k
  exact .tup (SqT.of h1) (.cons (.str _) (.cons (.tup (SqT.of h2) (strs_dp _)) .nil))
theorem fact_shaped : ∀ f ∈ F3, SeqAt.shaped (factD f) = true := by decide +kernel
def spRels : Sp := fun vs H Q _ => vs = [] ∧ ∀ p H', Same H H' → H p = none → H' p = some (.dK (relK relL)) → Q (.ref p) H'
def spFacts3 : Sp := fun vs H Q _ => vs = [] ∧ ∀ D us H', Same H H' → H D = none → H' D = some (.lst us) → KeysAt H' us F3 → Q (.ref D) H'
def spChg (K : PySem.W.Frag) : Sp := fun vs H Q _ => ∃ (d a : Addr) (ns : List Int), vs = [.ref d] ∧ Draw K H d a ns ∧ ∀ v c H', Drawn' K H H' d a ns → ChgAt H' v c → okC c → Q v H'
def spChgs (K : PySem.W.Frag) : Sp := fun vs H Q _ => ∃ (d a : Addr) (ns : List Int) (m : Int), vs = [.ref d, .int m] ∧ Draw K H d a ns ∧ 0 ≤ m ∧ m ≤ 100 ∧ ∀ D us cs H', Drawn' K H H' d a ns → H D = none → D ≠ d → H' D = some (.lst us) → ChgsAt H' us cs → (cs.length : Int) ≤ m → Q (.ref D) H'
def spKnown : Sp := fun vs H Q _ => ∃ (C ka : Addr) (us : List V) (cs : List Chg) (f : Fct) (d : Int), vs = [.ref C, .ref ka, .int d, .int (cs.length : Nat)] ∧ H C = some (.lst us) ∧ ChgsAt H us cs ∧ KeyAt H ka f ∧ f ∈ F3 ∧ cs.length ≤ 1000 ∧ ∀ H', Same H H' → Q (.bl (knownC cs f d)) H'
section
variable {P : Program} {w : World} {K : PySem.W.Frag} {mg : Str → Option Value} {base : Heap} {ad : Nat → Addr} {fds : Nat → FuncData} {cs : Nat → Value}
theorem ok__law_relations (T : Txt K mg ad fds cs) : FnOk P w K mg base CX0 1 (ad 51) (fds 51) [] spRels := by
  refine T.F__law_relations.ok sc__law_relations (fun vs H Q E h => ?_) (fun cdv A outer s H vs Q E hr h => ?_)
  · obtain ⟨rfl, _⟩ := h
    rfl
  obtain ⟨rfl, q⟩ := h
  refine ⟨_, (pss_one (ps_ret (pe_disp (pps_cons pe_str pe_int (pps_cons pe_str pe_int pps_nil)) rfl rfl (by decide) (by decide)))), ?_⟩
  intro p np
  refine ⟨upd_same, relK relL, rfl, (by decide), ?_⟩
  refine q p _ (same_at (same_upd np) np) np ?_
  rw [upd_same]
  have e1 : putK ([] : List (L2.Key × V)) (Sum.inr "works") (.int 1) = relK [("works", 1)] := relK_put (rel := []) (p := ("works", 1)) (by decide +kernel)
  have e2 : putK (relK [("works", 1)]) (Sum.inr "lives" : L2.Key) (.int 2) = relK relL := relK_put (rel := [("works", 1)]) (p := ("lives", 2)) (by decide +kernel)
  have e : mergeK ([] : List (L2.Key × V)) (relK relL) = putK (putK ([] : List (L2.Key × V)) (Sum.inr "works" : L2.Key) (.int 1)) (Sum.inr "lives" : L2.Key) (.int 2) := rfl
  rw [e, e1, e2]
theorem ok__law_facts (T : Txt K mg ad fds cs) : FnOk P w K mg base CX0 1 (ad 55) (fds 55) [] spFacts3 := by
  refine T.F__law_facts.ok sc__law_facts (fun vs H Q E h => ?_) (fun cdv A outer s H vs Q E hr h => ?_)
  · obtain ⟨rfl, _⟩ := h
    rfl
  obtain ⟨rfl, q⟩ := h
  refine ⟨_, (pss_one (ps_ret (pe_lst (pa_cons (pe_tup (pa_cons pe_str (pa_cons (pe_tup (pa_cons pe_str (pa_cons pe_str pa_nil))) pa_nil))) (pa_cons (pe_tup (pa_cons pe_str (pa_cons (pe_tup (pa_cons pe_str (pa_cons pe_str pa_nil))) pa_nil))) (pa_cons (pe_tup (pa_cons pe_str (pa_cons (pe_tup (pa_cons pe_str pa_nil)) pa_nil))) pa_nil)))))), ?_⟩
  refine ⟨(by show 2 ≤ sizeLine; decide), fun n1 m1 => ⟨(by show 2 ≤ sizeLine; decide), fun t1 m2 => ⟨(by show 2 ≤ sizeLine; decide), fun n2 m3 => ⟨(by show 2 ≤ sizeLine; decide), fun t2 m4 => ⟨(by show 1 ≤ sizeLine; decide), fun n3 m5 => ⟨(by show 2 ≤ sizeLine; decide), fun t3 m6 => ⟨(by show 3 ≤ sizeLine; decide), fun D m7 => ?_⟩⟩⟩⟩⟩⟩⟩
  have k1 : KeyAt (upd (upd H n1 (.tup [.str "ann", .str "rome"])) t1 (.tup [.str "lives", .ref n1])) t1 ("lives", ["ann", "rome"]) := key_made (r := "lives") (ns := ["ann", "rome"]) m2
  have s12 : Same H (upd (upd H n1 (.tup [.str "ann", .str "rome"])) t1 (.tup [.str "lives", .ref n1])) := same_two m1 m2
  generalize upd (upd H n1 (.tup [.str "ann", .str "rome"])) t1 (.tup [.str "lives", .ref n1]) = H2 at *
  have k2 : KeyAt (upd (upd H2 n2 (.tup [.str "bob", .str "rome"])) t2 (.tup [.str "lives", .ref n2])) t2 ("lives", ["bob", "rome"]) := key_made (r := "lives") (ns := ["bob", "rome"]) m4
  have s34 : Same H2 (upd (upd H2 n2 (.tup [.str "bob", .str "rome"])) t2 (.tup [.str "lives", .ref n2])) := same_two m3 m4
  generalize upd (upd H2 n2 (.tup [.str "bob", .str "rome"])) t2 (.tup [.str "lives", .ref n2]) = H4 at *
  have k3 : KeyAt (upd (upd H4 n3 (.tup [.str "ann"])) t3 (.tup [.str "works", .ref n3])) t3 ("works", ["ann"]) := key_made (r := "works") (ns := ["ann"]) m6
  have s56 : Same H4 (upd (upd H4 n3 (.tup [.str "ann"])) t3 (.tup [.str "works", .ref n3])) := same_two m5 m6
  generalize upd (upd H4 n3 (.tup [.str "ann"])) t3 (.tup [.str "works", .ref n3]) = H6 at *
  have s7 := same_upd (o := .lst [.ref t1, .ref t2, .ref t3]) m7
  have s16 := (s12.trans s34).trans s56
  exact q D _ _ (s16.trans s7) (s16.free m7) upd_same (.cons ⟨t1, rfl, (((k1.mono s34).mono s56).mono s7)⟩ (.cons ⟨t2, rfl, (k2.mono s56).mono s7⟩ (.cons ⟨t3, rfl, k3.mono s7⟩ .nil)))
theorem ok__law_change (T : Txt K mg ad fds cs) : FnOk P w K mg base CX0 4 (ad 53) (fds 53) ["draw"] (spChg K) := by
  refine T.F__law_change.ok sc__law_change (fun vs H Q E h => ?_) (fun cdv A outer s H vs Q E hr h => ?_)
  · obtain ⟨d, a, ns, rfl, _⟩ := h
    rfl
  obtain ⟨d, a, ns, rfl, hD, q⟩ := h
  refine ⟨_, (pss_cons (ps_par (i := 1) (j := 2) (by rfl) sc__law_change.nd rfl rfl (by decide) rfl rfl (pa_cons (pe_call (ok__law_day T) (hr.mono (by decide)) rfl T.g__law_day T.F__law_day.kp (bi__law_day T) .nil pass0 (pa_cons (pv 0) pa_nil)) (pa_cons (pe_call (ok__law_day T) (hr.mono (by decide)) rfl T.g__law_day T.F__law_day.kp (bi__law_day T) .nil pass0 (pa_cons (pv 0) pa_nil)) pa_nil)) (by rfl))
      (pss_cons (ps_set (i := 3) sc__law_change.nd rfl (by first | exact .inl rfl | exact .inr rfl) (pe_call (ok__law_pick T) (hr.mono (by decide)) rfl T.g__law_pick T.F__law_pick.kp (bi__law_pick T) .nil pass0 (pa_cons (pv 0) (pa_cons (pe_lst (pa_cons pe_str (pa_cons pe_str (pa_cons pe_str (pa_cons pe_str (pa_cons pe_str pa_nil)))))) pa_nil))))
      (pss_cons (ps_asg (pe_call (ok__law_pick T) (hr.mono (by decide)) rfl T.g__law_pick T.F__law_pick.kp (bi__law_pick T) .nil pass0 (pa_cons (pv 0) (pa_cons (pe_lst (pa_cons (pe_tup (pa_cons pe_str (pa_cons (pe_tup (pa_cons pe_str pa_nil)) pa_nil))) (pa_cons (pe_tup (pa_cons pe_str (pa_cons (pe_tup (pa_cons pe_str (pa_cons pe_str pa_nil))) pa_nil))) (pa_cons (pe_tup (pa_cons pe_str (pa_cons (pe_tup (pa_cons pe_str (pa_cons pe_str pa_nil))) pa_nil))) pa_nil)))) pa_nil))) (pg_tup rfl (pgs_cons (pg_name (i := 4) sc__law_change.nd rfl (by first | exact .inl rfl | exact .inr rfl)) (pgs_cons (pg_name (i := 5) sc__law_change.nd rfl (by first | exact .inl rfl | exact .inr rfl)) pgs_nil))))
      (pss_one (ps_ret (pe_tup (pa_cons (pv 3) (pa_cons (pv 4) (pa_cons (pv 5) (pa_cons (pe_callB (call_min2 rfl) (by rfl) T.z_min (by decide +kernel) (pa_cons (pv 1) (pa_cons (pv 2) pa_nil))) (pa_cons (pe_callB (call_max2 rfl) (by rfl) T.z_max (by decide +kernel) (pa_cons (pv 1) (pa_cons (pv 2) pa_nil))) pa_nil))))))))))), ?_⟩
  refine ⟨_, rfl, d, a, ns, rfl, hD, fun x H1 x0 x1 xe z1 => ⟨_, rfl, d, a, ns, rfl, z1.1, fun y H2 y0 y1 ye z2 => ?_⟩⟩
  refine ⟨_, _, rfl, ?_⟩
  obtain ⟨c2, hd2⟩ := z2.1.1
  have z02 : Drawn' K H H2 d a ns := ⟨z2.1, z1.2.trans z2.2⟩
  refine ⟨_, rfl, (by show 5 ≤ sizeLine; decide), fun L nL => ?_⟩
  have neL : L ≠ d := (ne_of_none hd2 nL).symm
  have sL := same_upd (o := .lst [.str "set", .str "set", .str "set", .str "clear", .str "clear"]) nL
  refine ⟨d, a, L, ns, _, rfl, z02.1.same sL, neL, upd_same, List.cons_ne_nil _ _, fun v H3 hv z3 => ?_⟩
  have z03 : Drawn' K H H3 d a ns := ⟨z3.1, (z02.2.trans (keepOf sL)).trans z3.2⟩
  obtain ⟨word, rfl, hw⟩ : ∃ word, v = .str word ∧ (word = ("set" : Str) ∨ word = ("clear" : Str)) := by
    rcases List.mem_cons.mp hv with e | hv
    · exact ⟨_, e, .inl rfl⟩
    rcases List.mem_cons.mp hv with e | hv
    · exact ⟨_, e, .inl rfl⟩
    rcases List.mem_cons.mp hv with e | hv
    · exact ⟨_, e, .inl rfl⟩
    rcases List.mem_cons.mp hv with e | hv
    · exact ⟨_, e, .inr rfl⟩
    rcases List.mem_cons.mp hv with e | hv
    · exact ⟨_, e, .inr rfl⟩
    · cases hv
  clear hv neL sL nL z02 z3 z1 z2 hd2 hD
  refine ⟨_, rfl, (by show 1 ≤ sizeLine; decide), fun n1 m1 => ⟨(by show 2 ≤ sizeLine; decide), fun t1 m2 => ⟨(by show 2 ≤ sizeLine; decide), fun n2 m3 => ⟨(by show 2 ≤ sizeLine; decide), fun t2 m4 => ⟨(by show 2 ≤ sizeLine; decide), fun n3 m5 => ⟨(by show 2 ≤ sizeLine; decide), fun t3 m6 => ⟨(by show 3 ≤ sizeLine; decide), fun L m7 => ?_⟩⟩⟩⟩⟩⟩⟩
  have k1 : KeyAt (upd (upd H3 n1 (.tup [.str "ann"])) t1 (.tup [.str "works", .ref n1])) t1 ("works", ["ann"]) := key_made (r := "works") (ns := ["ann"]) m2
  have s12 : Same H3 (upd (upd H3 n1 (.tup [.str "ann"])) t1 (.tup [.str "works", .ref n1])) := same_two m1 m2
  generalize upd (upd H3 n1 (.tup [.str "ann"])) t1 (.tup [.str "works", .ref n1]) = H4 at *
  have k2 : KeyAt (upd (upd H4 n2 (.tup [.str "ann", .str "rome"])) t2 (.tup [.str "lives", .ref n2])) t2 ("lives", ["ann", "rome"]) := key_made (r := "lives") (ns := ["ann", "rome"]) m4
  have s34 : Same H4 (upd (upd H4 n2 (.tup [.str "ann", .str "rome"])) t2 (.tup [.str "lives", .ref n2])) := same_two m3 m4
  generalize upd (upd H4 n2 (.tup [.str "ann", .str "rome"])) t2 (.tup [.str "lives", .ref n2]) = H5 at *
  have k3 : KeyAt (upd (upd H5 n3 (.tup [.str "bob", .str "rome"])) t3 (.tup [.str "lives", .ref n3])) t3 ("lives", ["bob", "rome"]) := key_made (r := "lives") (ns := ["bob", "rome"]) m6
  have s56 : Same H5 (upd (upd H5 n3 (.tup [.str "bob", .str "rome"])) t3 (.tup [.str "lives", .ref n3])) := same_two m5 m6
  generalize upd (upd H5 n3 (.tup [.str "bob", .str "rome"])) t3 (.tup [.str "lives", .ref n3]) = H6 at *
  have s7 := same_upd (o := .lst [.ref t1, .ref t2, .ref t3]) m7
  have s36 := (s12.trans s34).trans s56
  have s37 := s36.trans s7
  have k1 := ((k1.mono s34).mono s56).mono s7
  have k2 := (k2.mono s56).mono s7
  have k3 := k3.mono s7
  have hL : upd H6 L (.lst [.ref t1, .ref t2, .ref t3]) L = some (.lst [.ref t1, .ref t2, .ref t3]) := upd_same
  obtain ⟨c3, hd3⟩ := z03.1.1
  have neL : L ≠ d := (ne_of_none (s36 _ _ hd3) m7).symm
  generalize upd H6 L (.lst [.ref t1, .ref t2, .ref t3]) = H7 at *
  clear s7 m7 s36 s56 m5 m6 s34 m3 m4 s12 m1 m2
  refine ⟨d, a, L, ns, _, rfl, z03.1.same s37, neL, hL, List.cons_ne_nil _ _, fun v H8 hv z8 => ?_⟩
  have z08 : Drawn' K H H8 d a ns := ⟨z8.1, (z03.2.trans (keepOf s37)).trans z8.2⟩
  have tu := keep_tups (s37 _ _ hd3) z8.2
  obtain ⟨t, g, rfl, hg, kg⟩ : ∃ t g, v = .ref t ∧ g ∈ F3 ∧ KeyAt H8 t g := by
    rcases List.mem_cons.mp hv with e | hv
    · exact ⟨t1, _, e, by decide +kernel, k1.tups tu⟩
    rcases List.mem_cons.mp hv with e | hv
    · exact ⟨t2, _, e, by decide +kernel, k2.tups tu⟩
    rcases List.mem_cons.mp hv with e | hv
    · exact ⟨t3, _, e, by decide +kernel, k3.tups tu⟩
    · cases hv
  obtain ⟨n, ht, hn⟩ := kg
  refine ⟨t, _, rfl, SqT.of ht, rfl, _, _, rfl, _, _, rfl, rfl, ?_⟩
  refine ⟨_, rfl, _, rfl, _, rfl, _, rfl, _, rfl, _, _, rfl, _, rfl, _, rfl, _, _, rfl, (by show 5 ≤ sizeLine; decide), fun u nu => ?_⟩
  have s9 := same_upd (o := .tup [.str word, .str g.1, .ref n, .int (if y < x then y else x), .int (if y > x then y else x)]) nu
  refine q _ (word, g, (if y < x then y else x), (if y > x then y else x)) _ ⟨z08.1.same s9, z08.2.trans (keepOf s9)⟩ ⟨u, n, rfl, upd_same, s9 _ _ hn⟩ ⟨hw, hg, ?_⟩
  unfold Edge at *
  dsimp only
  refine ⟨?_, ?_, ?_, ?_, ?_⟩ <;> split <;> (try split) <;> omega
theorem ok__law_changes (T : Txt K mg ad fds cs) : FnOk P w K mg base CX0 5 (ad 54) (fds 54) ["draw", "most"] (spChgs K) := by
  refine T.F__law_changes.ok sc__law_changes (fun vs H Q E h => ?_) (fun cdv A outer s H vs Q E hr h => ?_)
  · obtain ⟨d, a, ns, m, rfl, _⟩ := h
    rfl
  obtain ⟨d, a, ns, m, rfl, hD, m0, m1, q⟩ := h
  refine ⟨_, (pss_one (ps_ret (pe_lc (own := [("turn", 2)]) rfl sc__law_changes.nd (pi_range1 (by rfl) T.z_range (pa_cons (pe_call (ok__law_take T) (hr.mono (by decide)) rfl T.g__law_take T.F__law_take.kp (bi__law_take T) .nil pass0 (pa_cons (pv 0) (pa_cons (pe_op op_add (pv 1) pe_int) pa_nil))) pa_nil)) (blkOk_by (N := N__law_changes) (sc := defScope s__law_changes) (own := [("turn", 2)]) (by decide +kernel)) (fun _ _ _ _ _ => by exact (pg_name (i := 2) sc__law_changes.nd rfl (.inl rfl))) (fun _ _ _ _ _ => by exact pts_nil) (fun _ _ _ _ _ => by exact (pe_call (ok__law_change (P := P) (w := w) T) (hr.mono (by decide)) rfl T.g__law_change T.F__law_change.kp (bi__law_change T) .nil pass0 (pa_cons (pv 0) pa_nil)))))), ?_⟩
  refine ⟨_, rfl, _, rfl, _, _, rfl, rfl, ?_⟩
  refine ⟨d, a, ns, m + 1, rfl, hD, by omega, fun r H1 r0 r1 z1 => ?_⟩
  refine ⟨r, rfl, by omega, by omega, fun D nD => ?_⟩
  obtain ⟨c1, hd1⟩ := z1.1.1
  have neD : D ≠ d := (ne_of_none hd1 nD).symm
  have nD0 : H D = none := by
    cases e : H D with
    | none => rfl
    | some o =>
      have z := z1.2 _ _ neD e
      rw [nD] at z
      cases z
  refine lc_it (walk_range (lo := 0) (n := r.toNat)) (fun i H2 => Drawn' K H H2 d a ns ∧ ∃ us cs, H2 D = some (.lst us) ∧ ChgsAt H2 us cs ∧ cs.length = i) ⟨⟨z1.1.same (same_upd nD), z1.2.trans (keepOf (same_upd nD))⟩, [], [], upd_same, .nil, rfl⟩ (fun i H2 _ z => True.intro) ?_ ?_
  · rintro i x H2 H2' hi ⟨z2, us, cs, h2, k2, l2⟩ ⟨rfl, rfl⟩
    obtain ⟨c2, hd2⟩ := z2.1.1
    refine ⟨rfl, _, rfl, d, a, ns, rfl, z2.1, fun v c H3 z3 hv hc => ?_⟩
    have h3 := z3.2 _ _ neD h2
    have k3 := k2.tups (keep_tups hd2 z3.2)
    have lu := Paired.length k2
    refine ⟨us, h3, ofNat_lt (by omega), ?_⟩
    have tu := tups_upd (o := .lst (us ++ [v])) h3 fun xs z => nomatch z
    have kk : Keep d H (upd H3 D (.lst (us ++ [v]))) := fun b o n e => by
      rw [upd_ne fun z => ?_]
      · exact (z2.2.trans z3.2) b o n e
      · rw [z, nD0] at e
        cases e
    obtain ⟨c3, hd3⟩ := z3.1.1
    refine ⟨⟨hD.keep kk ((upd_ne neD.symm).trans hd3), kk⟩, us ++ [v], cs ++ [c], upd_same, Paired.snoc (k3.tups tu) ⟨hv.tups tu, hc⟩, ?_⟩
    rw [List.length_append, l2]
    rfl
  · rintro H2 ⟨z2, us, cs, h2, k2, l2⟩
    exact q D us cs H2 z2 nD0 neD h2 k2 (by omega)
end
end Yj
set_option Elab.async false
set_option linter.all false
set_option maxRecDepth 100000
set_option maxHeartbeats 4000000
set_option pp.maxSteps 1500
namespace Yj
open PySem PySem.Spec PyProof.Rows L2 RZ YjD
/-! ### what is refused, in which order -/
theorem ifNeV {x y : V} (h : x = y) {A B : Prop} (hb : B) : if (!decide (x = y)) = true then A else B := by
  rw [decide_eq_true h]
  exact iteF hb
theorem ifNeD {d e : PyData} (h : PyData.eqv d e = true) {A B : Prop} (hb : B) : if (!PyData.eqv d e) = true then A else B := by
  rw [h]
  exact iteF hb
theorem paired_get {α β : Type} {F : α → β → Prop} {l : List α} {m : List β} (h : Paired F l m) : ∀ {i : Nat} {x : α}, l[i]? = some x → ∃ y, F x y := by
  induction h with
  | nil =>
    intro i x e
    cases e
  | cons a t ih =>
    intro i x e
    cases i with
    | zero =>
      obtain rfl := Option.some.inj e
      exact ⟨_, a⟩
    | succ i => exact ih (i := i) e
theorem merge_one (r : Str) (m : Int) : mergeK ([] : List (L2.Key × V)) (relK [(r, m)]) = relK [(r, m)] := relK_put (rel := []) (p := (r, m)) List.not_mem_nil
theorem merge_two (r : Str) (m : Int) (r2 : Str) (m2 : Int) (ne : r2 ≠ r) : mergeK ([] : List (L2.Key × V)) (relK [(r, m), (r2, m2)]) = relK [(r, m), (r2, m2)] := by
  have e : mergeK ([] : List (L2.Key × V)) (relK [(r, m), (r2, m2)]) = putK (mergeK ([] : List (L2.Key × V)) (relK [(r, m)])) (Sum.inr r2 : L2.Key) (.int m2) := rfl
  rw [e, merge_one]
  exact relK_put (rel := [(r, m)]) (p := (r2, m2)) fun z => ne (List.mem_singleton.mp z)
/-- the turns of a loop over a walk, whatever its body is read as -/
theorem for_itB {J : It} {n : Nat} {Gd : Hp → Prop} {Y : Nat → Hp → V → Hp → Prop} (wk : Walk J n Gd Y) {g : TG} {B : (L2.St → Hp → Prop) → L2.St → Hp → Prop} {nx : L2.St → Hp → Prop} {σ : L2.St} {H : Hp} (Pv : Nat → L2.St → Hp → Prop) (h0 : Pv 0 σ H) (hG : ∀ i σ H, i ≤ n → Pv i σ H → Gd H)
    (hs : ∀ i x σ H H', i < n → Pv i σ H → Y i H x H' → g x σ H' fun σ2 H2 => B (Pv (i + 1)) σ2 H2) (hd : ∀ σ H, Pv n σ H → nx σ H) :
    ∃ W : Nat → Nat → L2.St → Hp → Prop, (∃ m, W 0 m σ H) ∧ ∀ i m σ H, W i m σ H → (J.stop i H ∧ nx σ H) ∨ (J.go i H ∧ ∃ N : L2.St → Hp → Prop, (∀ σ' H', N σ' H' → ∃ m', m' < m ∧ W (i + 1) m' σ' H') ∧ ∀ x H', J.yld i H x H' → g x σ H' fun σ2 H2 => B N σ2 H2) := by
  refine ⟨fun i m σ H => m = n - i ∧ i ≤ n ∧ Pv i σ H, ⟨n, rfl, Nat.zero_le _, h0⟩, ?_⟩
  rintro i m σ H ⟨rfl, hi, p⟩
  have gd := hG i σ H hi p
  by_cases lt : i < n
  · exact .inr ⟨wk.goes i H lt gd, Pv (i + 1), fun σ' H' p' => ⟨n - (i + 1), by omega, rfl, lt, p'⟩, fun x H' y => hs i x σ H H' lt p (wk.yields i H x H' lt gd y)⟩
  · have e : i = n := by omega
    subst e
    exact .inl ⟨wk.stops H gd, hd σ H p⟩
abbrev fB : Fct := (("lives" : Str), [("ann" : Str)])
abbrev fW : Fct := (("works" : Str), [("ann" : Str)])
theorem short_fB : ShortF fB := ⟨by decide +kernel, by decide +kernel, by decide +kernel⟩
theorem short_fW : ShortF fW := ⟨by decide +kernel, by decide +kernel, by decide +kernel⟩
/-- tuples stay, lists stay lists -/
def LT (H H' : Hp) : Prop := (∀ b xs, H b = some (.tup xs) → H' b = some (.tup xs)) ∧ ∀ b xs, H b = some (.lst xs) → ∃ ys, H' b = some (.lst ys)
theorem lt_same {H H' : Hp} (s : Same H H') : LT H H' := ⟨fun b xs e => s _ _ e, fun b xs e => ⟨xs, s _ _ e⟩⟩
theorem lt_upd {H : Hp} {L : Addr} {xs ys : List V} (h : H L = some (.lst xs)) : LT H (upd H L (.lst ys)) := by
  refine ⟨tups_upd h fun zs z => (nomatch z), fun b zs e => ?_⟩
  by_cases c : b = L
  · exact ⟨ys, by rw [c, upd_same]⟩
  · exact ⟨zs, (upd_ne c).trans e⟩
theorem Pl.lt {H H' : Hp} (l : LT H H') {x : V} (h : Pl H x) : Pl H' x := by
  cases h with
  | non => exact .non
  | bl b => exact .bl b
  | int i => exact .int i
  | str z => exact .str z
  | lst h =>
    obtain ⟨ys, e⟩ := l.2 _ _ h
    exact .lst e
  | tup h => exact .tup (l.1 _ _ h)
theorem NamesV.lt {H H' : Hp} (l : LT H H') {x : V} {m : Int} {k : Bool} (h : NamesV H x m k) : NamesV H' x m k := by
  rcases h with ⟨h1, h2, h3⟩ | ⟨a, xs, h1, h2, h4, h3⟩
  · refine .inl ⟨Pl.lt l h1, h2, fun a e => ?_⟩
    obtain ⟨xs, h⟩ := h3 a e
    exact l.2 _ _ h
  · refine .inr ⟨a, xs, h1, l.1 _ _ h2, h4, ?_⟩
    rcases h3 with h3 | ⟨e1, e2, e3⟩
    · exact .inl h3
    · exact .inr ⟨e1, fun v hv => ⟨Pl.lt l (e2 v hv).1, (e2 v hv).2⟩, e3⟩
theorem FaultV.lt {H H' : Hp} (l : LT H H') {rel : Rel} {x : V} {k : Option Str} (h : FaultV H rel x k) : FaultV H' rel x k := by
  rcases h with ⟨h1, h2, h3⟩ | ⟨t, xs, h1, h2, h3⟩
  · refine .inl ⟨Pl.lt l h1, fun a e => ?_, h3⟩
    obtain ⟨xs, h⟩ := h2 a e
    exact l.2 _ _ h
  refine .inr ⟨t, xs, h1, l.1 _ _ h2, ?_⟩
  rcases h3 with h3 | ⟨w, r, n, f, la, e, hw, h3⟩
  · exact .inl h3
  refine .inr ⟨w, r, n, f, la, e, Pl.lt l hw, ?_⟩
  rcases h3 with h3 | ⟨e1, hr, hs, h3⟩
  · exact .inl h3
  refine .inr ⟨e1, Pl.lt l hr, hs, ?_⟩
  rcases h3 with h3 | ⟨m, b, e2, hn, h3⟩
  · exact .inl h3
  refine .inr ⟨m, b, e2, NamesV.lt l hn, ?_⟩
  rcases h3 with h3 | ⟨e3, hf, hl, h3⟩
  · exact .inl h3
  · exact .inr ⟨e3, Pl.lt l hf, Pl.lt l hl, h3⟩
/-- a pair of a wrong change and its word -/
def WElt (H : Hp) (u : V) (k : Str) : Prop := ∃ t x, u = .ref t ∧ H t = some (.tup [x, .str k]) ∧ FaultV H relS x (some k)
theorem WElt.lt {H H' : Hp} (l : LT H H') {u : V} {k : Str} (h : WElt H u k) : WElt H' u k := by
  obtain ⟨t, x, e, h1, h2⟩ := h
  exact ⟨t, x, e, l.1 _ _ h1, FaultV.lt l h2⟩
section
variable {H : Hp}
theorem fault_non : FaultV H relS .non (some ("form" : Str)) := .inl ⟨.non, (fun a e => nomatch e), rfl⟩
theorem fault_lst {a : Addr} {xs : List V} (h : H a = some (.lst xs)) : FaultV H relS (.ref a) (some ("form" : Str)) := .inl ⟨.lst h, (fun b e => ⟨xs, by cases e; exact h⟩), rfl⟩
theorem fault_len {a : Addr} {xs : List V} (h : H a = some (.tup xs)) (n : xs.length ≠ 5) : FaultV H relS (.ref a) (some ("form" : Str)) := .inr ⟨a, xs, rfl, h, .inl ⟨n, rfl⟩⟩
theorem fault_word {a : Addr} {r n f l : V} (h : H a = some (.tup [.str ("put" : Str), r, n, f, l])) : FaultV H relS (.ref a) (some ("word" : Str)) :=
  .inr ⟨a, _, rfl, h, .inr ⟨_, _, _, _, _, rfl, .str _, .inl ⟨by decide +kernel, rfl⟩⟩⟩
theorem short_of {z : Str} (h : z.length ≤ 1000000) : Short (.str z) := fun y e => by
  obtain rfl := V.str.inj e
  exact h
theorem fault_rel {a : Addr} {n f l : V} (h : H a = some (.tup [.str ("set" : Str), .str ("zz" : Str), n, f, l])) : FaultV H relS (.ref a) (some ("relation" : Str)) :=
  .inr ⟨a, _, rfl, h, .inr ⟨_, _, _, _, _, rfl, .str _, .inr ⟨by decide +kernel, .str _, short_of (by decide +kernel), .inl ⟨by decide +kernel, rfl⟩⟩⟩⟩
theorem lives_two : relOf relS (.str ("lives" : Str)) = some 2 := by decide +kernel
theorem fault_names {a : Addr} {n f l : V} (h : H a = some (.tup [.str ("set" : Str), .str ("lives" : Str), n, f, l])) (hn : NamesV H n 2 false) : FaultV H relS (.ref a) (some ("names" : Str)) :=
  .inr ⟨a, _, rfl, h, .inr ⟨_, _, _, _, _, rfl, .str _, .inr ⟨by decide +kernel, .str _, short_of (by decide +kernel), .inr ⟨2, false, lives_two, hn, .inl ⟨rfl, rfl⟩⟩⟩⟩⟩
theorem names_few {a : Addr} {xs : List V} (h : H a = some (.tup xs)) (n : xs.length = 1) : NamesV H (.ref a) 2 false := .inr ⟨a, xs, rfl, h, by omega, .inl ⟨by omega, rfl⟩⟩
theorem names_lst {a : Addr} {xs : List V} (h : H a = some (.lst xs)) : NamesV H (.ref a) 2 false := .inl ⟨.lst h, rfl, fun b e => ⟨xs, by cases e; exact h⟩⟩
theorem names_two {a : Addr} {u v : Str} {k : Bool} (h : H a = some (.tup [.str u, .str v])) (lu : u.length ≤ 1000000) (lv : v.length ≤ 1000000) (e : k = [V.str u, V.str v].all isN) : NamesV H (.ref a) 2 k :=
  .inr ⟨a, _, rfl, h, (by show 2 ≤ 1000; decide), .inr ⟨rfl, fun x hx => by
    rcases List.mem_cons.mp hx with z | z
    · rw [z]
      exact ⟨.str _, short_of lu⟩
    · rw [List.mem_singleton.mp z]
      exact ⟨.str _, short_of lv⟩, e⟩⟩
theorem names_bad {a : Addr} (h : H a = some (.tup [.str ("ann" : Str), .str ("Rome" : Str)])) : NamesV H (.ref a) 2 false := names_two h (by decide +kernel) (by decide +kernel) (by decide +kernel)
theorem names_good {a : Addr} (h : H a = some (.tup [.str ("ann" : Str), .str ("rome" : Str)])) : NamesV H (.ref a) 2 true := names_two h (by decide +kernel) (by decide +kernel) (by decide +kernel)
theorem fault_days {a N : Addr} {f l : V} (h : H a = some (.tup [.str ("set" : Str), .str ("lives" : Str), .ref N, f, l])) (hN : H N = some (.tup [.str ("ann" : Str), .str ("rome" : Str)])) (e : spanOk f l = false) (hf : Pl H f) (hl : Pl H l) : FaultV H relS (.ref a) (some ("days" : Str)) :=
  .inr ⟨a, _, rfl, h, .inr ⟨_, _, _, _, _, rfl, .str _, .inr ⟨by decide +kernel, .str _, short_of (by decide +kernel), .inr ⟨2, true, lives_two, names_good hN, .inr ⟨rfl, hf, hl, by rw [e]; rfl⟩⟩⟩⟩⟩
end
end Yj
set_option Elab.async false
set_option linter.all false
set_option maxRecDepth 100000
set_option maxHeartbeats 4000000
set_option pp.maxSteps 1500
namespace Yj
open PySem PySem.Spec PyProof.Rows L2 RZ YjD
/-! ### what the law's books know -/
theorem nodup_F3 : F3.Nodup := by decide +kernel
theorem asc_F3 : AscF F3 := by decide +kernel
/-- a book behind changes -/
structure BkInv (b : Bk) (cs : List Chg) : Prop where
  can : Canon b
  sub : ∀ f ∈ b.map (·.1), f ∈ F3
  mem : ∀ f d, 0 ≤ d → d ≤ 999999 → (Mem (rowOf b f) d ↔ knownC cs f d = true)
  row : ∀ f, Row (rowOf b f) ∧ (rowOf b f).length ≤ 2 * cs.length
theorem BkInv.nil : BkInv [] [] := ⟨⟨List.nodup_nil, (fun p hp => nomatch hp), List.Pairwise.nil⟩, (fun f hf => nomatch hf), fun f d _ _ => ⟨fun z => z.elim, (fun z => nomatch z)⟩, fun f => ⟨⟨True.intro, True.intro⟩, Nat.zero_le _⟩⟩
theorem Canon.short {b : Bk} (c : Canon b) (sub : ∀ f ∈ b.map (·.1), f ∈ F3) : b.length ≤ 3 := by
  have z := nodup_le c.nod sub
  rw [List.length_map] at z
  exact z
theorem good_of {b : Bk} (c : Canon b) (sub : ∀ f ∈ b.map (·.1), f ∈ F3) (h : ∀ f, Row (rowOf b f) ∧ (rowOf b f).length ≤ 900) : Good b := by
  refine ⟨by have := c.short sub; omega, fun p hp => ?_⟩
  have z := h p.1
  rw [rowOf_mem c.nod hp] at z
  exact z
theorem BkInv.good {b : Bk} {cs : List Chg} (I : BkInv b cs) (h : cs.length ≤ 100) : Good b := good_of I.can I.sub fun f => ⟨(I.row f).1, by have := (I.row f).2; omega⟩
theorem BkInv.step {b b' : Bk} {cs : List Chg} {c : Chg} (I : BkInv b cs) (hc : okC c) (B : Behind b c.1 c.2.1 c.2.2.1 c.2.2.2 b') : BkInv b' (cs ++ [c]) := by
  refine ⟨B.can, fun f hf => ?_, fun f d h0 h1 => ?_, fun f => ?_⟩
  · rcases B.sub f hf with z | z
    · rw [z]
      exact hc.2.1
    · exact I.sub f z
  · by_cases e : c.2.1 = f
    · subst e
      obtain ⟨r1, r2, r3⟩ := B.at_
      rw [r2 d]
      unfold isIn
      have old := I.mem c.2.1 d h0 h1
      by_cases k : c.2.2.1 ≤ d ∧ d ≤ c.2.2.2
      · have e : knownC (cs ++ [c]) c.2.1 d = decide (c.1 = ("set" : Str)) := by rw [knownC_snoc, if_pos ⟨rfl, k.1, k.2⟩]
        rw [e, decide_eq_true_eq]
        by_cases s : c.1 = ("set" : Str)
        · rw [if_pos s]
          exact ⟨fun _ => s, fun _ => .inr k⟩
        · rw [if_neg s]
          exact ⟨fun z => absurd k z.2, fun z => absurd z s⟩
      · have e : knownC (cs ++ [c]) c.2.1 d = knownC cs c.2.1 d := by rw [knownC_snoc, if_neg fun z => k z.2]
        rw [e]
        by_cases s : c.1 = ("set" : Str)
        · rw [if_pos s]
          exact ⟨fun z => old.mp (z.elim id fun z => absurd z k), fun z => .inl (old.mpr z)⟩
        · rw [if_neg s]
          exact ⟨fun z => old.mp z.1, fun z => ⟨old.mpr z, k⟩⟩
    · rw [knownC_snoc, if_neg fun z => e z.1, B.off f e]
      exact I.mem f d h0 h1
  · rw [List.length_append]
    by_cases e : c.2.1 = f
    · subst e
      obtain ⟨r1, r2, r3⟩ := B.at_
      have := (I.row c.2.1).2
      exact ⟨r1, by show (rowOf b' c.2.1).length ≤ 2 * (cs.length + 1); omega⟩
    · rw [B.off f e]
      have := (I.row f).2
      exact ⟨(I.row f).1, by show (rowOf b f).length ≤ 2 * (cs.length + 1); omega⟩
theorem BkInv.known {b : Bk} {cs : List Chg} (I : BkInv b cs) (f : Fct) {d : Int} (h0 : 0 ≤ d) (h1 : d ≤ 999999) : decide (Mem (rowOf b f) d) = knownC cs f d := by
  rw [Bool.eq_iff_iff, decide_eq_true_eq]
  exact I.mem f d h0 h1
end Yj
set_option Elab.async false
set_option linter.all false
set_option maxRecDepth 100000
set_option maxHeartbeats 8000000
set_option pp.maxSteps 1500
namespace Yj
open PySem PySem.Spec PyProof.Rows L2 RZ YjD
theorem f3_rel : ∀ g ∈ F3, relOf relS (.str g.1) = some (g.2.length : Int) := by decide +kernel
theorem f3_names : ∀ g ∈ F3, (g.2.map V.str).all isN = true := by decide +kernel
theorem f3_short : ∀ g ∈ F3, g.1.length ≤ 1000000 ∧ g.2.length ≤ 1000 ∧ ∀ n ∈ g.2, n.length ≤ 1000000 := by decide +kernel
theorem f3_ok : ∀ g ∈ F3, isFct relS g = true := by decide +kernel
theorem fault_none {H : Hp} {t n : Addr} {c : Chg} (hc : okC c) (ht : H t = some (.tup [.str c.1, .str c.2.1.1, .ref n, .int c.2.2.1, .int c.2.2.2])) (hn : H n = some (.tup (c.2.1.2.map V.str))) : FaultV H relS (.ref t) none := by
  obtain ⟨hw, hg, h0, h1, h2, _⟩ := hc
  obtain ⟨s1, s2, s3⟩ := f3_short _ hg
  have w : wordOk (.str c.1) = true := by
    show (decide (c.1 = "set") || decide (c.1 = "clear")) = true
    rw [Bool.or_eq_true, decide_eq_true_eq, decide_eq_true_eq]
    exact hw
  have sp : spanOk (.int c.2.2.1) (.int c.2.2.2) = true := by
    show (decide (0 ≤ c.2.2.1 ∧ c.2.2.1 ≤ 999999) && decide (0 ≤ c.2.2.2 ∧ c.2.2.2 ≤ 999999) && decide (c.2.2.1 ≤ c.2.2.2)) = true
    rw [decide_eq_true ⟨h0, by omega⟩, decide_eq_true ⟨by omega, h2⟩, decide_eq_true h1]
    rfl
  have nm : NamesV H (.ref n) (c.2.1.2.length : Int) true := by
    refine .inr ⟨n, _, rfl, hn, by rw [List.length_map]; exact s2, .inr ⟨by rw [List.length_map], fun v hv => ?_, (f3_names _ hg).symm⟩⟩
    obtain ⟨x, hx, rfl⟩ := List.mem_map.mp hv
    exact ⟨.str x, short_of (s3 x hx)⟩
  exact .inr ⟨t, _, rfl, ht, .inr ⟨_, _, _, _, _, rfl, .str _, .inr ⟨w, .str _, short_of s1, .inr ⟨_, true, f3_rel _ hg, nm, .inr ⟨rfl, .int _, .int _, by rw [sp]; rfl⟩⟩⟩⟩⟩
theorem seq_asg {te : TE} {g : TG} {u : TS} {D : Ends} {σ : L2.St} {H : Hp} (h : te σ H fun x H1 => g x σ H1 (u D)) : tSeq (tAsg te g) u D σ H := h
theorem daysL_in : ∀ d ∈ daysL, 0 ≤ d ∧ d ≤ 999999 := by decide +kernel
theorem day_of {i : Nat} {x : V} (h : (daysL.map V.int)[i]? = some x) : ∃ d, daysL[i]? = some d ∧ x = .int d := by
  rw [List.getElem?_map] at h
  cases e : daysL[i]? with
  | none =>
    rw [e] at h
    cases h
  | some d =>
    rw [e] at h
    exact ⟨d, rfl, (Option.some.inj h).symm⟩
theorem keys_dp {K : PySem.W.Frag} {H : Hp} : ∀ {us : List V} {fs : List Fct}, KeysAt H us fs → DpAll K H us (fs.map factD)
  | _, _, .nil => .nil
  | _, _, .cons ⟨a, e, h⟩ t => .cons (by rw [e]; exact key_dat h) (keys_dp t)
theorem facts_ok : ∀ f ∈ F3, PyData.canLay0 (factD f) = true ∧ PyData.depth (factD f) ≤ 2 := by decide +kernel
theorem factsA_lay : ∀ l : List Fct, (∀ n ∈ l, n ∈ F3) → PyData.canLayAll0 (l.map factD) = true ∧ PyData.depthAll (l.map factD) ≤ 2
  | [], _ => ⟨rfl, Nat.zero_le _⟩
  | n :: l, h => by
    obtain ⟨h1, h2⟩ := factsA_lay l fun x hx => h x (List.mem_cons_of_mem _ hx)
    obtain ⟨g1, g2⟩ := facts_ok n (h n (List.mem_cons_self ..))
    refine ⟨?_, ?_⟩
    · show (PyData.canLay0 (factD n) && PyData.canLayAll0 (l.map factD)) = true
      rw [g1, h1]
      rfl
    · show max (PyData.depth (factD n)) (PyData.depthAll (l.map factD)) ≤ 2
      omega
theorem factsL_shaped {l : List Fct} (h : ∀ n ∈ l, n ∈ F3) : SeqAt.shaped (.list (l.map factD)) = true := (shaped_of (factsA_lay l h).1 (factsA_lay l h).2 (by decide)).2
theorem factsA_eqv : ∀ l : List Fct, PyData.eqvAll (l.map factD) (l.map factD) = true
  | [] => by simp [PyData.eqvAll]
  | n :: l => by
    rw [List.map_cons, PySem.W.eqv_all_cons, factsA_eqv l, eqv_facts, decide_eq_true rfl]
    rfl
theorem factsL_eqv (l : List Fct) : PyData.eqv (.list (l.map factD)) (.list (l.map factD)) = true := by
  rw [PyData.eqv]
  exact factsA_eqv l
theorem vals_dp {K : PySem.W.Frag} {H : Hp} : ∀ {kvs : List (Fct × V)} {b : Bk}, RowsAt H kvs b → DpAll K H (kvs.map (·.2)) ((b.map (·.2)).map dat)
  | _, _, .nil => .nil
  | _, _, .cons ⟨_, a, e, r⟩ t => .cons (by dsimp only; rw [e]; exact r.dat) (vals_dp t)
theorem dats_lay : ∀ l : List Sps, PyData.canLayAll0 (l.map dat) = true ∧ PyData.depthAll (l.map dat) ≤ 2
  | [] => ⟨rfl, Nat.zero_le _⟩
  | x :: l => by
    obtain ⟨h1, h2⟩ := dats_lay l
    have h3 := datA_depth x
    refine ⟨?_, ?_⟩
    · show (PyData.canLayAll0 (x.map datP) && PyData.canLayAll0 (l.map dat)) = true
      rw [datA_lay, h1]
      rfl
    · show max (PyData.depthAll (x.map datP) + 1) (PyData.depthAll (l.map dat)) ≤ 2
      omega
theorem dats_shaped (l : List Sps) : SeqAt.shaped (.list (l.map dat)) = true := (shaped_of (dats_lay l).1 (dats_lay l).2 (by decide)).2
theorem no_empty {b : Bk} (c : Canon b) : (((b.map (·.2)).map dat).any fun z => PyData.eqv z (dat [])) = false := by
  rw [Bool.eq_false_iff]
  intro h
  obtain ⟨z, hz, e⟩ := List.any_eq_true.mp h
  obtain ⟨l, hl, rfl⟩ := List.mem_map.mp hz
  obtain ⟨p, hp, rfl⟩ := List.mem_map.mp hl
  rw [dat_eqv, decide_eq_true_eq] at e
  exact c.ne p hp e
theorem rowT_val {H : Hp} {C : Addr} {E : XK} {a : Addr} {l : Sps} (r : RowT H a l) (g : Row l ∧ l.length ≤ 900) : ValB H C E (.ref a) := by
  obtain ⟨us, h, p⟩ := r
  exact ⟨a, us, l, rfl, .inr h, by have := p.len; omega, g.1.2, .inl p⟩
theorem BookAt.keepL {P : Program} {w : World} {C : Addr} {H H' : Hp} {d p : Addr} {xs : List V} {rel : Rel} {b : Bk} (hd : H d = some (.lst xs)) (k : Keep d H H') (h : BookAt P w C H p rel b) : BookAt P w C H' p rel b := by
  obtain ⟨dx, dr, db, kvs, h1, h2, h3, h4⟩ := h.obj
  have tu := keep_tups hd k
  obtain ⟨φ, e⟩ := h3.ext
  have ne : ∀ {x : Addr} {u : HO}, H x = some u → (∀ xs, u ≠ .lst xs) → H' x = some u := fun {x u} e hu => k _ _ (fun z => by
    rw [z, hd] at e
    exact hu _ (Option.some.inj e).symm) e
  exact ⟨dx, dr, db, kvs, ne h1 (fun _ z => nomatch z), ne h2 (fun _ z => nomatch z), h3.keep ((ne e fun _ z => nomatch z).trans e.symm) tu, h4.tups tu⟩
theorem FD.keepL {P : Program} {w : World} {H H' : Hp} {d R : Addr} {xs : List V} {kvs : List (Fct × V)} (hd : H d = some (.lst xs)) (k : Keep d H H') (h : FD P w H R kvs) : FD P w H' R kvs := by
  obtain ⟨φ, e⟩ := h.ext
  refine h.keep ((k _ _ (fun z => ?_) e).trans e.symm) (keep_tups hd k)
  rw [z, hd] at e
  cases e
end Yj
set_option Elab.async false
set_option linter.all false
set_option maxRecDepth 100000
set_option maxHeartbeats 4000000
set_option pp.maxSteps 1500
namespace Yj
open PySem PySem.Spec PyProof.Rows L2 RZ YjD YjF
/-! ### the facts of some books -/
abbrev BooksAt (P : Program) (w : World) (C : Addr) (H : Hp) : List V → List Bk → Prop := Paired fun v b => ∃ p rel, v = .ref p ∧ BookAt P w C H p rel b
theorem BooksAt.mono {P : Program} {w : World} {C : Addr} {H H' : Hp} (s : Same H H') {us : List V} {bs : List Bk} (h : BooksAt P w C H us bs) : BooksAt P w C H' us bs := Paired.mapP h fun _ _ ⟨p, rel, e, b⟩ => ⟨p, rel, e, b.mono s⟩
theorem BooksAt.get {P : Program} {w : World} {C : Addr} {H : Hp} {us : List V} {bs : List Bk} (h : BooksAt P w C H us bs) : ∀ {i : Nat} {v : V}, us[i]? = some v → ∃ b p rel, bs[i]? = some b ∧ v = .ref p ∧ BookAt P w C H p rel b := by
  induction h with
  | nil =>
    intro i v e
    cases e
  | @cons u q us l a t ih =>
    intro i v e
    cases i with
    | zero =>
      obtain rfl := Option.some.inj e
      obtain ⟨p, rel, e2, b⟩ := a
      exact ⟨q, p, rel, rfl, e2, b⟩
    | succ i => exact ih (i := i) e
/-- the facts of books, one book behind the other -/
def allFacts (bs : List Bk) : List Fct := (bs.map fun b => b.map (·.1)).flatten
def spFactsOf (P : Program) (w : World) (C : Addr) : Sp := fun vs H Q _ => ∃ L us bs, vs = [.ref L] ∧ H L = some (.lst us) ∧ BooksAt P w C H us bs ∧ (∀ b ∈ bs, ∀ f ∈ b.map (·.1), f ∈ F3) ∧ (allFacts bs).length ≤ 1000 ∧
  ∀ H' t ws fs, Same H H' → H t = none → H' t = some (.lst ws) → KeysAt H' ws fs → AscF fs → fs.Nodup → (∀ f, f ∈ fs ↔ f ∈ allFacts bs) → Q (.ref t) H'
section
variable {P : Program} {w : World} {K : PySem.W.Frag} {mg : Str → Option Value} {base : Heap} {ad : Nat → Addr} {fds : Nat → FuncData} {cs : Nat → Value}
theorem ok__facts_of (T : Txt K mg ad fds cs) : FnOk P w K mg base CX0 3 (ad 42) (fds 42) ["books"] (spFactsOf P w (ad 38999)) := by
  refine T.F__facts_of.ok sc__facts_of (fun vs H Q E h => ?_) (fun cdv A outer s H vs Q E hr h => ?_)
  · obtain ⟨L, us, bs, rfl, _⟩ := h
    rfl
  obtain ⟨L, us, bs, rfl, hL, hB, sub, few, q⟩ := h
  refine ⟨_, (pss_one (ps_ret (pe_callB (YjF.cr_sortSK (P := P) (w := w) rfl hr.units) (by rfl) T.z_sorted (by decide +kernel) (pa_cons (pe_callTy (YjF.cr_setFK (P := P) (w := w) (K := K) rfl hr.units) (by rfl) T.z_set (by decide +kernel) (pa_cons (pe_lc2 (own := [("book", 1), ("fact", 2)]) (vs1 := [2]) rfl sc__facts_of.nd (pi_list (pv 0)) (blkOk_by (N := N__facts_of) (sc := defScope s__facts_of) (own := [("book", 1), ("fact", 2)]) (by decide +kernel)) (by decide) (fun _ _ _ _ _ => by exact (pg_name (i := 1) sc__facts_of.nd rfl (.inl rfl))) (fun _ _ _ _ _ => by exact pts_nil) (fun _ _ _ _ _ => by exact (YjD.pi_factsK (P := P) (w := w) (YjD.pe_fldK (K := K) (pv 1) rfl))) (fun _ _ _ _ _ => by exact (pg_name (i := 2) sc__facts_of.nd rfl (.inl rfl))) (fun _ _ _ _ _ => by exact pts_nil) (fun _ _ _ _ _ => by exact (pv 2))) pa_nil)) pa_nil)))), ?_⟩
  have lB := Paired.length hB
  refine ⟨_, rfl, L, rfl, ⟨_, SqL.of hL⟩, fun D nD => ?_⟩
  refine lc2_it (walk_list (K := K) (a := L) (xs := us)) (fun i H1 => Same H H1 ∧ ∃ ws, H1 D = some (.lst ws) ∧ KeysAt H1 ws (allFacts (bs.take i))) ⟨same_upd nD, [], upd_same, .nil⟩ (fun i H1 _ z => SqL.of (z.1 _ _ hL)) ?_ ?_
  · rintro i x H1 H1' hi ⟨s1, ws, hD, hk⟩ ⟨rfl, hx⟩
    obtain ⟨b, p, rel, hb, rfl, B⟩ := hB.get hx
    obtain ⟨dx, dr, db, kvs, h1, h2, ⟨o, h3⟩, h4⟩ := B.obj
    have hkb := h4.keys
    have tk : allFacts (bs.take (i + 1)) = allFacts (bs.take i) ++ b.map (·.1) := by
      unfold allFacts
      rw [take_snoc hb, List.map_append, List.flatten_append]
      show _ ++ (b.map (·.1) ++ []) = _
      rw [List.append_nil]
    have lt : (allFacts (bs.take i) ++ b.map (·.1)).length ≤ 1000 := by
      have e : allFacts bs = allFacts (bs.take (i + 1)) ++ allFacts (bs.drop (i + 1)) := by
        unfold allFacts
        rw [← List.flatten_append, ← List.map_append, List.take_append_drop]
      rw [e, List.length_append, tk] at few
      omega
    refine ⟨rfl, _, rfl, p, _, dx, _, _, rfl, s1 _ _ h1, T.cl_Book, T.na_Book_rows, bkF_rows _ _, db, o, kvs, rfl, h3.mono s1, ?_⟩
    refine lc2_in walk_facts (fun j H2 => Same H H2 ∧ ∃ ws, H2 D = some (.lst ws) ∧ KeysAt H2 ws (allFacts (bs.take i) ++ (b.map (·.1)).take j)) ⟨s1, ws, hD, by rw [List.take_zero, List.append_nil]; exact hk⟩ (fun j H2 _ z => h3.mono z.1) ?_ ?_
    · rintro j y H2 H2' hj ⟨s2, ws2, hD2, hk2⟩ ⟨rfl, ka, f, v, rfl, hv, key⟩
      have hf : (b.map (·.1))[j]? = some f := by
        rw [← hkb, List.getElem?_map, hv]
        rfl
      have l2 := Paired.length hk2
      refine ⟨rfl, _, rfl, ws2, hD2, ofNat_lt ?_, ?_⟩
      · rw [List.length_append, List.length_take] at l2
        rw [List.length_append] at lt
        omega
      · have tu := tups_upd (o := .lst (ws2 ++ [V.ref ka])) hD2 fun xs z => nomatch z
        refine ⟨same_at s2 nD, ws2 ++ [V.ref ka], upd_same, ?_⟩
        rw [take_snoc hf, ← List.append_assoc]
        exact KeysAt.tups tu (Paired.snoc hk2 ⟨ka, rfl, key⟩)
    · rintro H2 ⟨s2, ws2, hD2, hk2⟩
      refine ⟨s2, ws2, hD2, ?_⟩
      rw [tk]
      rw [show kvs.length = (b.map (·.1)).length by rw [← hkb, List.length_map], List.take_length] at hk2
      exact hk2
  · rintro H1 ⟨s1, ws, hD, hk⟩
    rw [lB, List.take_length] at hk
    have inF : ∀ f ∈ allFacts bs, f ∈ F3 := fun f hf => by
      obtain ⟨l, hl, hf⟩ := List.mem_flatten.mp hf
      obtain ⟨b, hb, rfl⟩ := List.mem_map.mp hl
      exact sub b hb f hf
    refine ⟨D, ws, allFacts bs, rfl, SqL.of hD, hk, ⟨F3, by decide, inF⟩, fun S LF nS kl al nd => ?_⟩
    have s2 := same_upd (o := SetFO P w S LF) nS
    refine ⟨S, LF, rfl, upd_same, fun x hx => (kl x hx).1.mono s2, fun us2 t fs nt pm ks => ?_⟩
    have s3 := same_upd (o := .lst us2) nt
    have sx := (s1.trans s2).trans s3
    have pm2 := (sortF_perm fs).trans pm
    refine q _ t us2 (sortF fs) sx ((s1.trans s2).free nt) upd_same (ks.mono s3) (sortF_asc fs) (pm2.nodup_iff.mpr nd) fun f => ?_
    rw [pm2.mem_iff]
    constructor
    · intro z
      obtain ⟨x, hx, rfl⟩ := List.mem_map.mp z
      exact (kl x hx).2
    · exact al f
end
end Yj
set_option Elab.async false
set_option linter.all false
set_option maxRecDepth 100000
set_option maxHeartbeats 4000000
set_option pp.maxSteps 2500
namespace Yj
open PySem PySem.Spec PyProof.Rows L2 RZ YjD YjF
/-! ### touched, merged -/
/-- a book of the law's facts, its rows not too long -/
structure Fit (n : Nat) (b : Bk) : Prop where
  can : Canon b
  sub : ∀ f ∈ b.map (·.1), f ∈ F3
  row : ∀ f, Row (rowOf b f) ∧ (rowOf b f).length ≤ n
theorem Fit.len {n : Nat} {b : Bk} (h : Fit n b) : b.length ≤ 3 := h.can.short h.sub
def spTouched (P : Program) (w : World) (C : Addr) : Sp := fun vs H Q _ => ∃ p p2 rel rel2 b c, vs = [.ref p, .ref p2] ∧ BookAt P w C H p rel b ∧ BookAt P w C H p2 rel2 c ∧ Fit 100 b ∧ Fit 100 c ∧
  ∀ H' D kvs r, Same H H' → H D = none → FD P w H' D kvs → RowsAt H' kvs r → Both FUnlike b c r → Q (.ref D) H'
section
variable {P : Program} {w : World} {K : PySem.W.Frag} {mg : Str → Option Value} {base : Heap} {ad : Nat → Addr} {fds : Nat → FuncData} {cs : Nat → Value}
/-- a fact's row, read off a book's rows, () without any -/
theorem rd_row (T : Txt K mg ad fds cs) {σ : L2.St} {i j : Nat} {H : Hp} {p ka : Addr} {rel : Rel} {b : Bk} {f : Fct} {Q : VK} (hp : σ[i]? = some (some (.ref p))) (hf : σ[j]? = some (some (.ref ka))) (B : BookAt P w (ad 38999) H p rel b) (key : KeyAt H ka f)
    (q : ∀ H' a, Same H H' → RowT H' a (rowOf b f) → Q (.ref a) H') : tFOr P w (tFld K (tVar i) "rows") (tVar j) (tTup tNil) σ H Q := by
  obtain ⟨dx, dr, db, kvs, h1, h2, h3, h4⟩ := B.obj
  refine ⟨_, hp, p, _, dx, _, _, rfl, h1, T.cl_Book, T.na_Book_rows, bkF_rows _ _, db, kvs, rfl, h3, _, hf, Nat.zero_le _, fun u nu => ?_⟩
  have s1 := same_upd (o := .tup []) nu
  refine ⟨ka, f, rfl, h3.mono s1, key.mono s1, ?_⟩
  rcases h4.val f with ⟨e1, e2, _⟩ | ⟨a, e1, e2, _⟩
  · rw [e1]
    refine q _ u s1 ?_
    rw [e2]
    exact ⟨[], upd_same, .nil⟩
  · rw [e1]
    exact q _ a s1 (e2.mono s1)
theorem gname_i {i : Nat} {v : V} {σ : L2.St} {H : Hp} {Q : L2.St → Hp → Prop} (h : Q (σ.set i (some v)) H) : gName i v σ H Q := h
theorem seq_call {sp : Sp} {dvs : List V} {E : XK} {t : TA} {g : TG} {u : TS} {D : Ends} {σ : L2.St} {H : Hp} (h : t σ H fun vs H1 => sp (vs ++ dvs) H1 (fun x H2 => g x σ H2 (u D)) E) : tSeq (tAsg (tCall sp dvs E t) g) u D σ H := h
theorem cons_te {ta : TE} {tr : TA} {σ : L2.St} {H : Hp} {Q : List V → Hp → Prop} (h : ta σ H fun x H1 => tr σ H1 fun xs H2 => Q (x :: xs) H2) : tCons ta tr σ H Q := h
theorem facts_few {n : Nat} {bs : List Bk} (h : ∀ b ∈ bs, Fit n b) (l : bs.length ≤ 10) : (∀ b ∈ bs, ∀ f ∈ b.map (·.1), f ∈ F3) ∧ (allFacts bs).length ≤ 1000 := by
  refine ⟨fun b hb => (h b hb).sub, ?_⟩
  have g : ∀ xs : List Bk, (∀ b ∈ xs, Fit n b) → (allFacts xs).length ≤ 3 * xs.length := by
    intro xs
    induction xs with
    | nil =>
      intro _
      exact Nat.zero_le _
    | cons x xs ih =>
      intro hx
      have e : allFacts (x :: xs) = x.map (·.1) ++ allFacts xs := rfl
      have h1 := (hx x (List.mem_cons_self ..)).len
      have h2 := ih fun b hb => hx b (List.mem_cons_of_mem _ hb)
      rw [e, List.length_append, List.length_map, List.length_cons]
      omega
  have := g bs h
  omega
theorem not_in {n : Nat} {bs : List Bk} {fs : List Fct} (mem : ∀ f, f ∈ fs ↔ f ∈ allFacts bs) {b : Bk} (hb : b ∈ bs) {f : Fct} (hf : f ∉ fs) : rowOf b f = [] := by
  refine rowOf_not fun z => hf ((mem f).mpr ?_)
  exact List.mem_flatten.mpr ⟨_, List.mem_map.mpr ⟨b, hb, rfl⟩, z⟩
theorem row_nil : Row [] := ⟨True.intro, True.intro⟩
theorem unlike_nil : FUnlike [] [] [] := ⟨row_nil, fun d => ⟨fun z => z.elim, fun z => z.elim (fun z => z.1) fun z => z.1⟩, Nat.zero_le _⟩
theorem in_F3 {n : Nat} {bs : List Bk} {fs : List Fct} (h : ∀ b ∈ bs, Fit n b) (mem : ∀ f, f ∈ fs ↔ f ∈ allFacts bs) : ∀ f ∈ fs, f ∈ F3 := fun f hf => by
  obtain ⟨l, hl, hf⟩ := List.mem_flatten.mp ((mem f).mp hf)
  obtain ⟨b, hb, rfl⟩ := List.mem_map.mp hl
  exact (h b hb).sub f hf
theorem ok_touched (T : Txt K mg ad fds cs) : FnOk P w K mg base CX0 5 (ad 43) (fds 43) ["base", "book"] (spTouched P w (ad 38999)) := by
  refine T.F_touched.ok sc_touched (fun vs H Q E h => ?_) (fun cdv A outer s H vs Q E hr h => ?_)
  · obtain ⟨p, p2, rel, rel2, b, c, rfl, _⟩ := h
    rfl
  obtain ⟨p, p2, rel, rel2, b, c, rfl, B1, B2, f1, f2, q⟩ := h
  refine ⟨_, (pss_cons (ps_set (i := 2) sc_touched.nd rfl (by first | exact .inl rfl | exact .inr rfl) YjD.pe_fnew)
      (pss_cons (ps_for PassesOwn.never rfl (pi_list (pe_call (ok__facts_of T) (hr.mono (by decide)) rfl T.g__facts_of T.F__facts_of.kp (bi__facts_of T) .nil pass0 (pa_cons (pe_lst (pa_cons (pv 0) (pa_cons (pv 1) pa_nil))) pa_nil))) (pg_name (i := 3) sc_touched.nd rfl (by first | exact .inl rfl | exact .inr rfl))
      (pss_cons (ps_set (i := 4) sc_touched.nd rfl (by first | exact .inl rfl | exact .inr rfl) (pe_call (ok_unlike T) (hr.mono (by decide)) rfl T.g_unlike T.F_unlike.kp (bi_unlike T) .nil pass0 (pa_cons (YjD.pe_forK (P := P) (w := w) hr.units (YjD.pe_fldK (K := K) (pv 0) rfl) (pv 3) (pe_tup pa_nil) ⟨rfl, rfl, rfl, rfl⟩) (pa_cons (YjD.pe_forK (P := P) (w := w) hr.units (YjD.pe_fldK (K := K) (pv 1) rfl) (pv 3) (pe_tup pa_nil) ⟨rfl, rfl, rfl, rfl⟩) pa_nil))))
      (pss_one (ps_if (pt_truth (pv 4) (by intro _; rfl)) (pss_one (ps_asg (pv 4) (pg_sub (pv 2) (pv 3) (YjD.set_factK (P := P) (w := w) hr.units)))) pss_nil))))
      (pss_one (ps_ret (pv 2))))), ?_⟩
  intro D o nD F0
  have s1 := same_upd (o := o) nD
  refine ⟨_, rfl, _, rfl, (by show 2 ≤ sizeLine; decide), fun L nL => ?_⟩
  have s2 := same_upd (o := .lst [.ref p, .ref p2]) nL
  have s12 := s1.trans s2
  have F2 := F0.mono s2
  have fit : ∀ x ∈ [b, c], Fit 100 x := fun x hx => by
    rcases List.mem_cons.mp hx with e | hx
    · rw [e]
      exact f1
    · rw [List.mem_singleton.mp hx]
      exact f2
  obtain ⟨g1, g2⟩ := facts_few fit (show 2 ≤ 10 by decide)
  refine ⟨L, _, [b, c], rfl, upd_same, .cons ⟨p, rel, rfl, B1.mono s12⟩ (.cons ⟨p2, rel2, rfl, B2.mono s12⟩ .nil), g1, g2, fun H3 t ws fs s3 nt ht kf asc nd mem => ?_⟩
  have s13 := s12.trans s3
  have F3' := F2.mono s3
  have inF := in_F3 fit mem
  have lf := nodup_le nd inF
  have lw := Paired.length kf
  refine ⟨t, rfl, ⟨_, SqL.of ht⟩, ?_⟩
  refine for_it (walk_list (K := K) (a := t) (xs := ws)) (fun i σ H4 => ∃ (kvs : List (Fct × V)) (r : Bk) (y3 y4 : Option V), σ = [some (.ref p), some (.ref p2), some (.ref D), y3, y4] ∧ Same H H4 ∧ H4 t = some (.lst ws) ∧ KeysAt H4 ws fs ∧ FD P w H4 D kvs ∧ RowsAt H4 kvs r ∧
    (r.map (·.1)).Sublist (fs.take i) ∧ (∀ x ∈ r, x.2 ≠ []) ∧ ∀ f ∈ fs.take i, FUnlike (rowOf b f) (rowOf c f) (rowOf r f)) ⟨[], [], _, _, rfl, s13, ht, kf, F3', .nil, List.nil_sublist _, (fun x hx => nomatch hx), fun f hf => by rw [List.take_zero] at hf; cases hf⟩ (fun i σ H4 _ ⟨_, _, _, _, _, _, z, _⟩ => SqL.of z) ?_ ?_
  · rintro i x σ H4 H4' hi ⟨kvs, r, y3, y4, rfl, s4, ht4, kf4, F4, R4, sub4, ne4, un4⟩ ⟨rfl, hx⟩
    obtain ⟨ka, f, rfl, hf, key⟩ := kf4.get hx
    have fin : f ∈ fs := List.mem_of_getElem? hf
    have fnew := not_take nd hf
    refine gname_i (seq_call (cons_te (rd_row T rfl rfl (B1.mono s4) key fun H5 a s5 ra => cons_te ?_)))
    refine rd_row T rfl rfl (B2.mono (s4.trans s5)) (key.mono s5) fun H6 a2 s6 ra2 => ?_
    obtain ⟨r1, l1⟩ := f1.row f
    obtain ⟨r2, l2⟩ := f2.row f
    refine ⟨a, a2, _, _, rfl, ra.mono s6, ra2, r1, r2, by omega, by omega, fun u fu H7 pu us s7 npu hpu hus => ?_⟩
    have s57 := (s5.trans s6).trans s7
    have F7 := F4.mono s57
    have R7 := R4.mono s57
    have key7 := key.mono s57
    have ht7 := s57 _ _ ht4
    have kf7 := kf4.mono s57
    have s47 := s4.trans s57
    have lus := hus.len
    have tkn : (fs.take (i + 1)) = fs.take i ++ [f] := take_snoc hf
    have fr : f ∉ r.map (·.1) := fun z => fnew (sub4.subset z)
    have fk : f ∉ kvs.map (·.1) := by
      rw [R4.keys]
      exact fr
    refine ⟨_, rfl, !us.isEmpty, .inr (.inl ⟨_, SqT.of hpu, rfl⟩), ?_⟩
    cases eu : us.isEmpty with
    | true =>
      have e0 : u = [] := by
        rw [List.isEmpty_iff] at eu
        rw [eu] at lus
        exact List.eq_nil_of_length_eq_zero lus.symm
      refine iteF ⟨kvs, r, _, _, rfl, s47, ht7, kf7, F7, R7, ?_, ne4, fun g hg => ?_⟩
      · rw [tkn]
        exact sub4.trans (List.sublist_append_left _ _)
      · rw [tkn] at hg
        rcases List.mem_append.mp hg with z | z
        · exact un4 g z
        · rw [List.mem_singleton.mp z, rowOf_not fr, ← e0]
          exact fu
    | false =>
      have e0 : u ≠ [] := fun z => by
        rw [z] at lus
        rw [List.eq_nil_of_length_eq_zero lus] at eu
        cases eu
      obtain ⟨φ, hD7⟩ := F7.ext
      have lk : kvs.length < sizeLine := ofNat_lt (by
        have h1 := R4.len
        have h2 := sub4.length_le
        rw [List.length_map, List.length_take] at h2
        have h3 : fs.length ≤ 3 := lf
        omega)
      refine iteT ⟨_, rfl, _, rfl, _, rfl, D, kvs, ka, f, rfl, rfl, F7, key7, lk, fun o' F' => ?_⟩
      have tu := tups_upd (o := o') hD7 fun xs z => nomatch z
      refine ⟨putK kvs f (.ref pu), r ++ [(f, u)], _, _, rfl, same_at s47 nD, ?_, KeysAt.tups tu kf7, F', ?_, ?_, fun x hx => ?_, fun g hg => ?_⟩
      · rw [upd_ne fun z => ?_]
        · exact ht7
        · rw [z, hD7] at ht7
          cases ht7
      · rw [putK_new _ (valV_none fk)]
        exact Paired.snoc (RowsAt.tups tu R7) ⟨rfl, pu, rfl, RowT.tups tu ⟨us, hpu, hus⟩⟩
      · rw [tkn, List.map_append]
        exact List.Sublist.append sub4 (List.Sublist.refl _)
      · rcases List.mem_append.mp hx with z | z
        · exact ne4 x z
        · rw [List.mem_singleton.mp z]
          exact e0
      · rw [rowOf_snoc _ _ _ _ fun z e => fr (by rw [e]; exact z)]
        rw [tkn] at hg
        by_cases e : f = g
        · rw [if_pos e, ← e]
          exact fu
        · rw [if_neg e]
          rcases List.mem_append.mp hg with z | z
          · exact un4 g z
          · exact absurd (List.mem_singleton.mp z).symm e
  · rintro σ H4 ⟨kvs, r, y3, y4, rfl, s4, ht4, kf4, F4, R4, sub4, ne4, un4⟩
    rw [lw, List.take_length] at sub4 un4
    refine ⟨_, rfl, ?_⟩
    refine q H4 D kvs r s4 nD F4 R4 ⟨⟨sub4.nodup nd, ne4, asc.sublist sub4⟩, fun f hf => ?_, fun f => ?_⟩
    · obtain ⟨l, hl, hm⟩ := List.mem_flatten.mp ((mem f).mp (sub4.subset hf))
      obtain ⟨x, hx, rfl⟩ := List.mem_map.mp hl
      rcases List.mem_cons.mp hx with e | hx
      · rw [e] at hm
        exact .inl hm
      · rw [List.mem_singleton.mp hx] at hm
        exact .inr hm
    · by_cases hf : f ∈ fs
      · exact un4 f hf
      · rw [not_in (n := 0) mem (List.mem_cons_self ..) hf, not_in (n := 0) mem (List.mem_cons_of_mem _ (List.mem_cons_self ..)) hf, rowOf_not fun z => hf (sub4.subset z)]
        exact unlike_nil
end
end Yj
set_option Elab.async false
set_option linter.all false
set_option maxRecDepth 100000
set_option maxHeartbeats 4000000
set_option pp.maxSteps 2500
namespace Yj
open PySem PySem.Spec PyProof.Rows L2 RZ YjD YjF
/-! ### merged -/
/-- one's days where one isn't as the base, else the other's -/
def FMerged (l0 l1 l2 r : Sps) : Prop := Row r ∧ (∀ d, Mem r d ↔ (Mem l1 d ∧ ¬ Mem l0 d) ∨ (Mem l2 d ∧ (Mem l1 d ↔ Mem l0 d))) ∧ r.length ≤ 300
theorem merged_nil : FMerged [] [] [] [] := ⟨row_nil, fun d => ⟨fun z => z.elim, fun z => z.elim (fun z => z.1) fun z => z.1⟩, Nat.zero_le _⟩
structure Merged (b0 b1 b2 r : Bk) : Prop where
  can : Canon r
  sub : ∀ f ∈ r.map (·.1), f ∈ F3
  at_ : ∀ f, FMerged (rowOf b0 f) (rowOf b1 f) (rowOf b2 f) (rowOf r f)
def spMerged (P : Program) (w : World) (C : Addr) : Sp := fun vs H Q _ => ∃ p0 p1 p2 b0 b1 b2, vs = [.ref p0, .ref p1, .ref p2] ∧ BookAt P w C H p0 relS b0 ∧ BookAt P w C H p1 relS b1 ∧ BookAt P w C H p2 relS b2 ∧ Fit 20 b0 ∧ Fit 20 b1 ∧ Fit 20 b2 ∧
  ∀ H' p r, Same H H' → H p = none → BookAt P w C H' p relS r → Merged b0 b1 b2 r → Q (.ref p) H'
/-- what a book made of rows knows -/
theorem norm_rows {H : Hp} {kvs : List (Fct × V)} {b b3 : Bk} (hb : RowsAt H kvs b) (nd : (b.map (·.1)).Nodup) (row : ∀ f, Row (rowOf b f)) (N : NormB H kvs (sortF (kvs.map (·.1))) b3) : Canon b3 ∧ rowsE b3 b ∧ ∀ f ∈ b3.map (·.1), f ∈ b.map (·.1) := by
  have hp := sortF_perm (kvs.map (·.1))
  have hk := hb.keys
  have nd2 : (sortF (kvs.map (·.1))).Nodup := hp.nodup_iff.mpr (by rw [hk]; exact nd)
  have up : ∀ f ∈ b3.map (·.1), f ∈ b.map (·.1) := fun f z => by
    have z := hp.mem_iff.mp (N.sub.subset z)
    rw [hk] at z
    exact z
  refine ⟨⟨N.sub.nodup nd2, N.ne, (sortF_asc _).sublist N.sub⟩, fun f => ?_, up⟩
  by_cases m : f ∈ b.map (·.1)
  · have m2 : f ∈ sortF (kvs.map (·.1)) := hp.mem_iff.mpr (by rw [hk]; exact m)
    rcases hb.val f with ⟨_, _, no⟩ | ⟨a, e, ⟨us, ha, pr⟩, _⟩
    · exact absurd m no
    · obtain ⟨n1, n2, _⟩ := N.row f m2 (rowOf b f) ⟨a, us, e, .inr ha, pr⟩
      exact n1.uniq (row f) fun d _ _ => n2 d
  · rw [rowOf_not m, rowOf_not fun z => m (up f z)]
theorem Fit.more {n m : Nat} {b : Bk} (h : Fit n b) (l : n ≤ m) : Fit m b := ⟨h.can, h.sub, fun f => ⟨(h.row f).1, Nat.le_trans (h.row f).2 l⟩⟩
section
variable {P : Program} {w : World} {K : PySem.W.Frag} {mg : Str → Option Value} {base : Heap} {ad : Nat → Addr} {fds : Nat → FuncData} {cs : Nat → Value}
theorem asg_call {sp : Sp} {dvs : List V} {E : XK} {t : TA} {g : TG} {D : Ends} {σ : L2.St} {H : Hp} (h : t σ H fun vs H1 => sp (vs ++ dvs) H1 (fun x H2 => g x σ H2 D.nx) E) : tAsg (tCall sp dvs E t) g D σ H := h
theorem call_te {sp : Sp} {dvs : List V} {E : XK} {t : TA} {σ : L2.St} {H : Hp} {Q : VK} (h : t σ H fun vs H1 => sp (vs ++ dvs) H1 Q E) : tCall sp dvs E t σ H Q := h
theorem ok_merged (T : Txt K mg ad fds cs) : FnOk P w K mg base (L2N.CX P w) 8 (ad 41) (fds 41) ["base", "one", "other"] (spMerged P w (ad 38999)) := by
  refine Fun.okN T.F_merged sc_merged (fun vs H Q E h => ?_) (fun cdv A outer s H vs Q E hr h => ?_)
  · obtain ⟨p0, p1, p2, b0, b1, b2, rfl, _⟩ := h
    rfl
  obtain ⟨p0, p1, p2, b0, b1, b2, rfl, B0, B1, B2, f0, f1, f2, q⟩ := h
  refine ⟨_, (pss_cons (ps_set (i := 3) sc_merged.nd rfl (by first | exact .inl rfl | exact .inr rfl) YjD.pe_fnew)
      (pss_cons (ps_for PassesOwn.leaving rfl (pi_list (pe_call (ok__facts_of T) (hr.mono (by decide)) rfl T.g__facts_of T.F__facts_of.kp (bi__facts_of T) .nil pass0 (pa_cons (pe_lst (pa_cons (pv 0) (pa_cons (pv 1) (pa_cons (pv 2) pa_nil)))) pa_nil))) (pg_name (i := 4) sc_merged.nd rfl (by first | exact .inl rfl | exact .inr rfl))
      (pss_cons (ps_set (i := 5) sc_merged.nd rfl (by first | exact .inl rfl | exact .inr rfl) (YjD.pe_forK (P := P) (w := w) hr.units (YjD.pe_fldK (K := K) (pv 1) rfl) (pv 4) (pe_tup pa_nil) ⟨rfl, rfl, rfl, rfl⟩))
      (pss_cons (ps_set (i := 6) sc_merged.nd rfl (by first | exact .inl rfl | exact .inr rfl) (pe_call (ok_unlike T) (hr.mono (by decide)) rfl T.g_unlike T.F_unlike.kp (bi_unlike T) .nil pass0 (pa_cons (YjD.pe_forK (P := P) (w := w) hr.units (YjD.pe_fldK (K := K) (pv 0) rfl) (pv 4) (pe_tup pa_nil) ⟨rfl, rfl, rfl, rfl⟩) (pa_cons (pv 5) pa_nil))))
      (pss_one (ps_asg (pe_call (ok_union T) (hr.mono (by decide)) rfl T.g_union T.F_union.kp (bi_union T) .nil pass0 (pa_cons (pe_call (ok_meet T) (hr.mono (by decide)) rfl T.g_meet T.F_meet.kp (bi_meet T) .nil pass0 (pa_cons (pv 5) (pa_cons (pv 6) pa_nil))) (pa_cons (pe_call (ok_less T) (hr.mono (by decide)) rfl T.g_less T.F_less.kp (bi_less T) .nil pass0 (pa_cons (YjD.pe_forK (P := P) (w := w) hr.units (YjD.pe_fldK (K := K) (pv 2) rfl) (pv 4) (pe_tup pa_nil) ⟨rfl, rfl, rfl, rfl⟩) (pa_cons (pv 6) pa_nil))) pa_nil))) (pg_sub (pv 3) (pv 4) (YjD.set_factK (P := P) (w := w) hr.units)))))))
      (pss_one (ps_ret (pe_make T.mk_Book (ok_Book___init__ T) (hr.mono (by decide)) rfl T.g_Book (bi_Book___init__ T) .nil (L2N.passes_call (L2N.takes_of rfl rfl rfl rfl) fun _ _ _ _ h => h) (pa_cons (YjD.pe_fldK (K := K) (pv 0) rfl) (pa_cons (pv 3) pa_nil))))))), ?_⟩
  intro D o nD F0
  have s1 := same_upd (o := o) nD
  refine ⟨_, rfl, _, rfl, _, rfl, (by show 3 ≤ sizeLine; decide), fun L nL => ?_⟩
  have s2 := same_upd (o := .lst [.ref p0, .ref p1, .ref p2]) nL
  have s12 := s1.trans s2
  have F2 := F0.mono s2
  have fit : ∀ x ∈ [b0, b1, b2], Fit 20 x := fun x hx => by
    rcases List.mem_cons.mp hx with e | hx
    · rw [e]
      exact f0
    rcases List.mem_cons.mp hx with e | hx
    · rw [e]
      exact f1
    · rw [List.mem_singleton.mp hx]
      exact f2
  obtain ⟨g1, g2⟩ := facts_few fit (show 3 ≤ 10 by decide)
  refine ⟨L, _, [b0, b1, b2], rfl, upd_same, .cons ⟨p0, _, rfl, B0.mono s12⟩ (.cons ⟨p1, _, rfl, B1.mono s12⟩ (.cons ⟨p2, _, rfl, B2.mono s12⟩ .nil)), g1, g2, fun H3 t ws fs s3 nt ht kf asc nd mem => ?_⟩
  have s13 := s12.trans s3
  have F3' := F2.mono s3
  have inF := in_F3 fit mem
  have lf : fs.length ≤ 3 := nodup_le nd inF
  have lw := Paired.length kf
  refine ⟨t, rfl, ⟨_, SqL.of ht⟩, ?_⟩
  refine for_it (walk_list (K := K) (a := t) (xs := ws)) (fun i σ H4 => ∃ (kvs : List (Fct × V)) (r : Bk) (y4 y5 y6 : Option V), σ = [some (.ref p0), some (.ref p1), some (.ref p2), some (.ref D), y4, y5, y6] ∧ Same H H4 ∧ H4 t = some (.lst ws) ∧ KeysAt H4 ws fs ∧ FD P w H4 D kvs ∧ RowsAt H4 kvs r ∧
    r.map (·.1) = fs.take i ∧ ∀ f ∈ fs.take i, FMerged (rowOf b0 f) (rowOf b1 f) (rowOf b2 f) (rowOf r f)) ⟨[], [], _, _, _, rfl, s13, ht, kf, F3', .nil, rfl, fun f hf => by rw [List.take_zero] at hf; cases hf⟩ (fun i σ H4 _ ⟨_, _, _, _, _, _, _, z, _⟩ => SqL.of z) ?_ ?_
  · rintro i x σ H4 H4' hi ⟨kvs, r, y4, y5, y6, rfl, s4, ht4, kf4, F4, R4, sub4, un4⟩ ⟨rfl, hx⟩
    obtain ⟨ka, f, rfl, hf, key⟩ := kf4.get hx
    have fin : f ∈ fs := List.mem_of_getElem? hf
    have fnew := not_take nd hf
    obtain ⟨r0, l0⟩ := f0.row f
    obtain ⟨r1, l1⟩ := f1.row f
    obtain ⟨r2, l2⟩ := f2.row f
    refine gname_i (seq_asg (rd_row T rfl rfl (B1.mono s4) key fun H5 a1 s5 ra1 => gname_i (seq_call (cons_te (rd_row T rfl rfl (B0.mono (s4.trans s5)) (key.mono s5) fun H6 a0 s6 ra0 => ?_)))))
    refine ⟨_, rfl, a0, a1, _, _, rfl, ra0, ra1.mono s6, r0, r1, by omega, by omega, fun hh fhh H7 ph ush s7 nph hph hush => ?_⟩
    obtain ⟨rh, mh, lh⟩ := fhh
    refine gname_i (asg_call (cons_te ?_))
    refine ⟨_, rfl, _, rfl, a1, ph, _, _, rfl, (ra1.mono s6).mono s7, ⟨ush, hph, hush⟩, r1, rh, by omega, by omega, fun mm fmm H8 pm usm s8 npm hpm husm => cons_te ?_⟩
    obtain ⟨rm, mm', lm⟩ := fmm
    refine call_te (cons_te (rd_row T rfl rfl (B2.mono (((s4.trans s5).trans (s6.trans s7)).trans s8)) (key.mono ((s5.trans (s6.trans s7)).trans s8)) fun H9 a2 s9 ra2 => ?_))
    refine ⟨_, rfl, a2, ph, _, _, rfl, ra2, RowT.mono (s8.trans s9) ⟨ush, hph, hush⟩, r2, rh, by omega, by omega, fun ll fll H10 pl usl s10 npl hpl husl => ?_⟩
    obtain ⟨rl, ml, lnl⟩ := fll
    refine ⟨pm, pl, mm, ll, rfl, RowT.mono (s9.trans s10) ⟨usm, hpm, husm⟩, ⟨usl, hpl, husl⟩, rm, rl, by omega, by omega, fun u fu H11 pu us s11 npu hpu hus => ?_⟩
    obtain ⟨ru, mu, lu⟩ := fu
    have s5b := ((s5.trans s6).trans (s7.trans s8)).trans ((s9.trans s10).trans s11)
    have fm : FMerged (rowOf b0 f) (rowOf b1 f) (rowOf b2 f) u := by
      refine ⟨ru, fun d => ?_, by omega⟩
      rw [mu d, mm' d, ml d, mh d]
      by_cases c0 : Mem (rowOf b0 f) d <;> by_cases c1 : Mem (rowOf b1 f) d <;> by_cases c2 : Mem (rowOf b2 f) d <;> simp [c0, c1, c2]
    have F7 := F4.mono s5b
    have R7 := R4.mono s5b
    have key7 := key.mono s5b
    have ht7 := s5b _ _ ht4
    have kf7 := kf4.mono s5b
    have s47 := s4.trans s5b
    have tkn : (fs.take (i + 1)) = fs.take i ++ [f] := take_snoc hf
    have fr : f ∉ r.map (·.1) := fun z => fnew (by rw [sub4] at z; exact z)
    have fk : f ∉ kvs.map (·.1) := by
      rw [R4.keys]
      exact fr
    obtain ⟨φ, hD7⟩ := F7.ext
    have lk : kvs.length < sizeLine := ofNat_lt (by
      have h1 := R4.len
      have h2 := congrArg List.length sub4
      rw [List.length_map, List.length_take] at h2
      omega)
    refine ⟨_, rfl, _, rfl, D, kvs, ka, f, rfl, rfl, F7, key7, lk, fun o' F' => ?_⟩
    have tu := tups_upd (o := o') hD7 fun xs z => nomatch z
    refine ⟨putK kvs f (.ref pu), r ++ [(f, u)], _, _, _, rfl, same_at s47 nD, ?_, KeysAt.tups tu kf7, F', ?_, ?_, fun g hg => ?_⟩
    · rw [upd_ne fun z => ?_]
      · exact ht7
      · rw [z, hD7] at ht7
        cases ht7
    · rw [putK_new _ (valV_none fk)]
      exact Paired.snoc (RowsAt.tups tu R7) ⟨rfl, pu, rfl, RowT.tups tu ⟨us, hpu, hus⟩⟩
    · rw [tkn, List.map_append, sub4]
      rfl
    · rw [rowOf_snoc _ _ _ _ fun z e => fr (by rw [e]; exact z)]
      rw [tkn] at hg
      by_cases e : f = g
      · rw [if_pos e, ← e]
        exact fm
      · rw [if_neg e]
        rcases List.mem_append.mp hg with z | z
        · exact un4 g z
        · exact absurd (List.mem_singleton.mp z).symm e
  · rintro σ H4 ⟨kvs, r, y4, y5, y6, rfl, s4, ht4, kf4, F4, R4, sub4, un4⟩
    rw [lw, List.take_length] at sub4 un4
    obtain ⟨dx, dr, db, kb, h1, h2, h3, h4⟩ := (B0.mono s4).obj
    have R := relS_ok
    have nr : (r.map (·.1)).Nodup := by rw [sub4]; exact nd
    have inr : ∀ f ∈ kvs.map (·.1), f ∈ F3 := fun f hf => by
      rw [R4.keys, sub4] at hf
      exact inF f hf
    have all : ∀ f, FMerged (rowOf b0 f) (rowOf b1 f) (rowOf b2 f) (rowOf r f) := fun f => by
      by_cases hf : f ∈ fs
      · exact un4 f hf
      · rw [not_in (n := 0) mem (List.mem_cons_self ..) hf, not_in (n := 0) mem (List.mem_cons_of_mem _ (List.mem_cons_self ..)) hf, not_in (n := 0) mem (List.mem_cons_of_mem _ (List.mem_cons_of_mem _ (List.mem_cons_self ..))) hf, rowOf_not fun z => hf (by rw [sub4] at z; exact z)]
        exact merged_nil
    refine ⟨_, rfl, p0, _, dx, _, _, rfl, h1, T.cl_Book, T.na_Book_relations, bkF_rels _ _, _, rfl, fun x dx2 nx ndx hne => ?_⟩
    have sa := same_upd (o := .own x) ndx
    have nx' : upd H4 dx2 (.own x) x = none := (upd_ne hne.symm).trans nx
    generalize upd H4 dx2 (.own x) = HX at *
    have lk : kvs.length ≤ 1000 := by
      have e1 := R4.len
      have e2 := congrArg List.length sub4
      rw [List.length_map] at e2
      omega
    refine ⟨HX, x, dx2, dr, relS, D, kvs, rfl, nx', same_upd nx', upd_same, sa _ _ h2, R.short, R.nod, F4.mono sa, lk, (fun f hf => f3_short f (inr f hf)), .inr ⟨R.ok, relS, R.sorts, (fun f hf => .inl (f3_ok f (inr f hf))), fun _ => ⟨fun f v hv => ?_, fun H15 dr3 db3 kvs3 b3 s15 hx15 hdr15 F15 R15 N15 => ⟨rfl, ?_⟩⟩⟩⟩
    · rcases (R4.mono sa).val f with ⟨e, _, _⟩ | ⟨c, e, rc, _⟩
      · rw [hv] at e
        cases e
      · rw [hv] at e
        obtain rfl := Option.some.inj e
        exact rowT_val rc ⟨(all f).1, Nat.le_trans (all f).2.2 (by decide)⟩
    · obtain ⟨c3, e3, u3⟩ := norm_rows (R4.mono sa) nr (fun f => (all f).1) N15
      refine q H15 x b3 (s4.trans (sa.trans s15)) ((s4.trans sa).free nx') ⟨dx2, dr3, db3, kvs3, hx15, hdr15, F15, R15⟩ ⟨c3, fun f hf => ?_, fun f => ?_⟩
      · have z := u3 f hf
        rw [sub4] at z
        exact inF f z
      · rw [e3 f]
        exact all f
end
end Yj
set_option Elab.async false
set_option linter.all false
set_option maxRecDepth 100000
set_option maxHeartbeats 4000000
set_option pp.maxSteps 2500
namespace Yj
open PySem PySem.Spec PyProof.Rows L2 RZ YjD YjF
/-! ### both_touched, replayed, do_agree -/
/-- days on which two books aren't as the base -/
def FBoth (l0 l1 l2 r : Sps) : Prop := Row r ∧ (∀ d, Mem r d ↔ ¬ (Mem l0 d ↔ Mem l1 d) ∧ ¬ (Mem l0 d ↔ Mem l2 d)) ∧ r.length ≤ 900
structure BothT (b0 b1 b2 r : Bk) : Prop where
  can : Canon r
  sub : ∀ f ∈ r.map (·.1), f ∈ F3
  at_ : ∀ f, FBoth (rowOf b0 f) (rowOf b1 f) (rowOf b2 f) (rowOf r f)
def spBothT (P : Program) (w : World) (C : Addr) : Sp := fun vs H Q _ => ∃ p0 p1 p2 b0 b1 b2, vs = [.ref p0, .ref p1, .ref p2] ∧ BookAt P w C H p0 relS b0 ∧ BookAt P w C H p1 relS b1 ∧ BookAt P w C H p2 relS b2 ∧ Fit 20 b0 ∧ Fit 20 b1 ∧ Fit 20 b2 ∧
  ∀ H' D kvs r, Same H H' → H D = none → FD P w H' D kvs → RowsAt H' kvs r → BothT b0 b1 b2 r → Q (.ref D) H'
def spReplayed (P : Program) (w : World) (C : Addr) : Sp := fun vs H Q _ => ∃ p L us b cs0 cs, vs = [.ref p, .ref L] ∧ BookAt P w C H p relS b ∧ H L = some (.lst us) ∧ ChgsAt H us cs ∧ BkInv b cs0 ∧ cs0.length + cs.length ≤ 100 ∧
  ∀ H' p' b', Same H H' → BookAt P w C H' p' relS b' → BkInv b' (cs0 ++ cs) → Q (.ref p') H'
def spAgree (P : Program) (w : World) (C : Addr) : Sp := fun vs H Q _ => ∃ p L1 L2 us1 us2 b cs0 cs1 cs2, vs = [.ref p, .ref L1, .ref L2] ∧ BookAt P w C H p relS b ∧ H L1 = some (.lst us1) ∧ ChgsAt H us1 cs1 ∧ H L2 = some (.lst us2) ∧ ChgsAt H us2 cs2 ∧ BkInv b cs0 ∧ cs0.length + (cs1.length + cs2.length) ≤ 100 ∧
  ∀ H' (k : Bool) b1 b2, Same H H' → BkInv b1 (cs0 ++ (cs1 ++ cs2)) → BkInv b2 (cs0 ++ (cs2 ++ cs1)) → (k = true ↔ rowsE b1 b2) → Q (.bl k) H'
section
variable {P : Program} {w : World} {K : PySem.W.Frag} {mg : Str → Option Value} {base : Heap} {ad : Nat → Addr} {fds : Nat → FuncData} {cs : Nat → Value}
theorem ok_replayed (T : Txt K mg ad fds cs) : FnOk P w K mg base (L2N.CX P w) 10 (ad 45) (fds 45) ["base", "changes"] (spReplayed P w (ad 38999)) := by
  refine Fun.okN T.F_replayed sc_replayed (fun vs H Q E h => ?_) (fun cdv A outer s H vs Q E hr h => ?_)
  · obtain ⟨p, L, us, b, cs0, cs, rfl, _⟩ := h
    rfl
  obtain ⟨p, L, us, b, cs0, cs, rfl, B, hL, hcs, I, few, q⟩ := h
  refine ⟨_, (pss_cons (ps_set (i := 2) sc_replayed.nd rfl (by first | exact .inl rfl | exact .inr rfl) (pv 0))
      (pss_cons (ps_for PassesOwn.leaving rfl (pi_list (pv 1)) (pg_name (i := 3) sc_replayed.nd rfl (by first | exact .inl rfl | exact .inr rfl))
      (pss_one (ps_set (i := 2) sc_replayed.nd rfl (by first | exact .inl rfl | exact .inr rfl) (pe_meth (pv 2) T.cl_Book T.m_Book_changed (ok_Book_changed T) (hr.mono (by decide)) (bi_Book_changed T) .nil (L2N.passes_call (L2N.takes_of rfl rfl rfl rfl) fun _ _ _ _ h => h) (pa_cons (pv 3) pa_nil)))))
      (pss_one (ps_ret (pv 2))))), ?_⟩
  have lu := Paired.length hcs
  refine ⟨_, rfl, _, rfl, L, rfl, ⟨_, SqL.of hL⟩, ?_⟩
  refine for_it (walk_list (K := K) (a := L) (xs := us)) (fun i σ H1 => ∃ (p' : Addr) (b' : Bk) (y3 : Option V), σ = [some (.ref p), some (.ref L), some (.ref p'), y3] ∧ Same H H1 ∧ BookAt P w (ad 38999) H1 p' relS b' ∧ BkInv b' (cs0 ++ cs.take i)) ⟨p, b, _, rfl, Same.refl _, B, by rw [List.take_zero, List.append_nil]; exact I⟩ (fun i σ H1 _ ⟨_, _, _, _, z, _⟩ => SqL.of (z _ _ hL)) ?_ ?_
  · rintro i x σ H1 H1' hi ⟨p', b', y3, rfl, s1, B1, I1⟩ ⟨rfl, hx⟩
    obtain ⟨cg, hc, ⟨t, n, rfl, ht, hn⟩, hok⟩ := (hcs.tups (Same.tups s1)).get hx
    obtain ⟨dx, dr2, db, bkv, h1, _⟩ := id B1.obj
    have lt : (cs0 ++ cs.take i).length ≤ 100 := by
      rw [List.length_append, List.length_take]
      omega
    refine ⟨_, rfl, p', dx, _, rfl, h1, bkF_no _ _ (by decide +kernel) (by decide +kernel), _, rfl, p', relS, relS, b', .ref t, none, rfl, B1, relS_ok, I1.good lt, I1.can.nod, fault_none hok ht hn, (fun z e => nomatch e), fun _ => ⟨t, cg.1, cg.2.1.1, n, cg.2.1.2, cg.2.2.1, cg.2.2.2, rfl, ht, hn, hok.2.2.1, hok.2.2.2.1, hok.2.2.2.2.1, fun b2 H6 p2 Bh s6 np B' => ?_⟩⟩
    refine ⟨p2, b2, _, rfl, s1.trans s6, B', ?_⟩
    rw [take_snoc hc, ← List.append_assoc]
    exact I1.step hok Bh
  · rintro σ H1 ⟨p', b', y3, rfl, s1, B1, I1⟩
    rw [lu, List.take_length] at I1
    exact ⟨_, rfl, q H1 p' b' s1 B1 I1⟩
theorem ok_do_agree (T : Txt K mg ad fds cs) : FnOk P w K mg base (L2N.CX P w) 11 (ad 46) (fds 46) ["base", "one", "other"] (spAgree P w (ad 38999)) := by
  refine Fun.okN T.F_do_agree sc_do_agree (fun vs H Q E h => ?_) (fun cdv A outer s H vs Q E hr h => ?_)
  · obtain ⟨p, L1, L2, us1, us2, b, cs0, cs1, cs2, rfl, _⟩ := h
    rfl
  obtain ⟨p, L1, L2, us1, us2, b, cs0, cs1, cs2, rfl, B, hL1, hc1, hL2, hc2, I, few, q⟩ := h
  refine ⟨_, (pss_one (ps_ret (pe_cmpR (YjD.op_own T.eq_Book (ok_Book___eq__ T) (bi_Book___eq__ T) (hr.mono (show 2 ≤ _ by decide))) (pe_call (ok_replayed T) (hr.mono (by decide)) rfl T.g_replayed T.F_replayed.kp (bi_replayed T) .nil (L2N.passes_call (L2N.takes_of rfl rfl rfl rfl) fun _ _ _ _ h => h) (pa_cons (pv 0) (pa_cons (pe_lst (StX.pa_star (pv 1) (StX.pa_star (pv 2) pa_nil))) pa_nil))) (pe_call (ok_replayed T) (hr.mono (by decide)) rfl T.g_replayed T.F_replayed.kp (bi_replayed T) .nil (L2N.passes_call (L2N.takes_of rfl rfl rfl rfl) fun _ _ _ _ h => h) (pa_cons (pv 0) (pa_cons (pe_lst (StX.pa_star (pv 2) (StX.pa_star (pv 1) pa_nil))) pa_nil))) (nomark _)))), ?_⟩
  have lc1 := Paired.length hc1
  have lc2 := Paired.length hc2
  have big : (2000 : Nat) ≤ sizeLine := by rw [sizeLine_eq]; decide
  have add : ∀ {H : Hp} {us vs : List V} {xs ys : List Chg}, ChgsAt H us xs → ChgsAt H vs ys → ChgsAt H (us ++ (vs ++ [])) (xs ++ ys) := fun {H us vs xs ys} a b => by
    rw [List.append_nil]
    induction a with
    | nil => exact b
    | cons h t ih => exact .cons h ih
  refine ⟨_, rfl, _, rfl, L1, us1, rfl, .inr (SqL.of hL1), _, rfl, L2, us2, rfl, .inr (SqL.of hL2), (by rw [List.length_append, List.length_append, lc1, lc2]; show cs1.length + (cs2.length + 0) ≤ sizeLine; omega), fun N nN => ?_⟩
  have s1 := same_upd (o := .lst (us1 ++ (us2 ++ []))) nN
  refine ⟨p, N, _, b, cs0, cs1 ++ cs2, rfl, B.mono s1, upd_same, add (hc1.tups (Same.tups s1)) (hc2.tups (Same.tups s1)), I, by rw [List.length_append]; exact few, fun H1 p1 b1 s2 B1 I1 => ?_⟩
  have s12 := s1.trans s2
  refine ⟨_, rfl, _, rfl, L2, us2, rfl, .inr (SqL.of (s12 _ _ hL2)), _, rfl, L1, us1, rfl, .inr (SqL.of (s12 _ _ hL1)), (by rw [List.length_append, List.length_append, lc1, lc2]; show cs2.length + (cs1.length + 0) ≤ sizeLine; omega), fun N2 nN2 => ?_⟩
  have s3 := same_upd (o := .lst (us2 ++ (us1 ++ []))) nN2
  have s13 := s12.trans s3
  refine ⟨p, N2, _, b, cs0, cs2 ++ cs1, rfl, B.mono s13, upd_same, add (hc2.tups (Same.tups s13)) (hc1.tups (Same.tups s13)), I, by rw [List.length_append]; omega, fun H2 p2 b2 s4 B2 I2 => ?_⟩
  have B1' := B1.mono (s3.trans s4)
  obtain ⟨dx1, dr1, db1, k1, h1, _⟩ := id B1'.obj
  obtain ⟨dx2, dr2, db2, k2, h2, _⟩ := id B2.obj
  exact ⟨p1, dx1, _, rfl, h1, .inl ⟨p2, _, _, rfl, h2⟩, p1, relS, b1, .ref p2, rfl, B1', .inr ⟨p2, b2, rfl, B2, relS_ok.nod, I1.can, I2.can, fun k hk => ⟨k, rfl, q H2 k b1 b2 (s13.trans s4) I1 I2 hk⟩⟩⟩
theorem ok_both_touched (T : Txt K mg ad fds cs) : FnOk P w K mg base CX0 6 (ad 44) (fds 44) ["base", "one", "other"] (spBothT P w (ad 38999)) := by
  refine T.F_both_touched.ok sc_both_touched (fun vs H Q E h => ?_) (fun cdv A outer s H vs Q E hr h => ?_)
  · obtain ⟨p0, p1, p2, b0, b1, b2, rfl, _⟩ := h
    rfl
  obtain ⟨p0, p1, p2, b0, b1, b2, rfl, B0, B1, B2, f0, f1, f2, q⟩ := h
  refine ⟨_, (pss_cons (ps_set (i := 3) sc_both_touched.nd rfl (by first | exact .inl rfl | exact .inr rfl) (pe_call (ok_touched T) (hr.mono (by decide)) rfl T.g_touched T.F_touched.kp (bi_touched T) .nil pass0 (pa_cons (pv 0) (pa_cons (pv 1) pa_nil))))
      (pss_cons (ps_set (i := 4) sc_both_touched.nd rfl (by first | exact .inl rfl | exact .inr rfl) (pe_call (ok_touched T) (hr.mono (by decide)) rfl T.g_touched T.F_touched.kp (bi_touched T) .nil pass0 (pa_cons (pv 0) (pa_cons (pv 2) pa_nil))))
      (pss_cons (ps_asg (YjD.pe_fc4 (own := [("fact", 6)]) rfl hr.units sc_both_touched.nd (YjD.pi_factsK (P := P) (w := w) (pv 3)) (blkOk_by (N := N_both_touched) (sc := defScope s_both_touched) (own := [("fact", 6)]) (by decide +kernel)) (fun _ _ _ _ _ => by exact (pg_name (i := 6) sc_both_touched.nd rfl (.inl rfl))) (fun _ _ _ _ _ => by exact (pts_one (pt_cmpR (YjD.op_inFK (P := P) (w := w) hr.units) (pv 6) (pv 4) (by rfl)))) (fun _ _ _ _ _ => by exact (pv 6)) (fun _ _ _ _ _ => by exact (pe_call (ok_meet (P := P) (w := w) T) (hr.mono (by decide)) rfl T.g_meet T.F_meet.kp (bi_meet T) .nil pass0 (pa_cons (YjD.pe_fgetK (P := P) (w := w) hr.units (pv 3) (pv 6) (fun _ _ => rfl)) (pa_cons (YjD.pe_fgetK (P := P) (w := w) hr.units (pv 4) (pv 6) (fun _ _ => rfl)) pa_nil))))) (pg_name (i := 5) sc_both_touched.nd rfl (by first | exact .inl rfl | exact .inr rfl)))
      (pss_one (ps_ret (YjD.pe_fc4 (own := [("fact", 6)]) rfl hr.units sc_both_touched.nd (YjD.pi_factsK (P := P) (w := w) (pv 5)) (blkOk_by (N := N_both_touched) (sc := defScope s_both_touched) (own := [("fact", 6)]) (by decide +kernel)) (fun _ _ _ _ _ => by exact (pg_name (i := 6) sc_both_touched.nd rfl (.inl rfl))) (fun _ _ _ _ _ => by exact (pts_one (YjD.pt_truthK (K := K) (YjD.pe_fgetK (P := P) (w := w) hr.units (pv 5) (pv 6) (fun _ _ => rfl)) (by intro _; rfl)))) (fun _ _ _ _ _ => by exact (pv 6)) (fun _ _ _ _ _ => by exact (YjD.pe_fgetK (P := P) (w := w) hr.units (pv 5) (pv 6) (fun _ _ => rfl))))))))), ?_⟩
  refine ⟨_, rfl, _, rfl, p0, p1, _, _, b0, b1, rfl, B0, B1, f0.more (by decide), f1.more (by decide), fun H1 D1 k1 t1 s1 n1 F1 R1 u1 => ?_⟩
  refine ⟨_, rfl, _, rfl, p0, p2, _, _, b0, b2, rfl, B0.mono s1, B2.mono s1, f0.more (by decide), f2.more (by decide), fun H2 D2 k2 t2 s2 n2 F2 R2 u2 => ?_⟩
  have F1 : FD P w H1 D1 k1 := F1
  have F2 : FD P w H2 D2 k2 := F2
  have F1 := F1.mono s2
  have R1 := R1.mono s2
  have s12 := s1.trans s2
  obtain ⟨o1, E1⟩ := id F1
  have kb1 := R1.keys
  have len1 : t1.length ≤ 3 := by
    have z := nodup_le u1.can.nod fun f hf => (u1.sub f hf).elim (f0.sub f) (f1.sub f)
    rw [List.length_map] at z
    exact z
  refine ⟨_, rfl, D1, o1, k1, rfl, E1, fun D3 o3 n3 F3 => ?_⟩
  refine fc_it walk_facts (fun i H3 => ∃ (k3 : List (Fct × V)) (t3 : Bk), Same H2 H3 ∧ FD P w H3 D3 k3 ∧ RowsAt H3 k3 t3 ∧ (t3.map (·.1)).Sublist ((t1.map (·.1)).take i) ∧ ∀ f ∈ (t1.map (·.1)).take i, FMeet (rowOf t1 f) (rowOf t2 f) (rowOf t3 f)) ⟨[], [], same_upd n3, F3, .nil, List.nil_sublist _, fun f hf => by rw [List.take_zero] at hf; cases hf⟩ (fun i H3 _ ⟨_, _, z, _⟩ => E1.mono z) ?_ ?_
  · rintro i x H3 H3' hi ⟨k3, t3, s3, F3, R3, sub3, un3⟩ ⟨rfl, ka, f, v, rfl, hv, key⟩
    have fin : (t1.map (·.1))[i]? = some f := by
      rw [← kb1, List.getElem?_map, hv]
      rfl
    have fnew := not_take u1.can.nod fin
    have tkn : (t1.map (·.1)).take (i + 1) = (t1.map (·.1)).take i ++ [f] := take_snoc fin
    have fr : f ∉ t3.map (·.1) := fun z => fnew (sub3.subset z)
    have fk : f ∉ k3.map (·.1) := by
      rw [R3.keys]
      exact fr
    have hv1 := valV_get E1.nod hv
    refine ⟨rfl, _, rfl, _, rfl, D2, k2, ka, f, rfl, rfl, F2.mono s3, key, _, rfl, ?_⟩
    rcases (R2.mono s3).val f with ⟨e1, e2, e3⟩ | ⟨a2, e1, ra2, _⟩
    · rw [e1]
      refine iteF ⟨k3, t3, s3, F3, R3, ?_, fun g hg => ?_⟩
      · rw [tkn]
        exact sub3.trans (List.sublist_append_left _ _)
      · rw [tkn] at hg
        rcases List.mem_append.mp hg with z | z
        · exact un3 g z
        · rw [List.mem_singleton.mp z, rowOf_not fr, e2]
          exact ⟨row_nil, fun d => ⟨fun z => z.elim, fun z => z.2⟩, Nat.zero_le _⟩
    · rw [e1]
      obtain ⟨l1, a1, hb1, rfl, ra1⟩ := (R1.mono s3).get hv
      have el1 : l1 = rowOf t1 f := (rowOf_mem u1.can.nod (List.mem_of_getElem? hb1)).symm
      rw [el1] at ra1
      obtain ⟨g1, g2, g3⟩ := u1.at_ f
      obtain ⟨j1, j2, j3⟩ := u2.at_ f
      have z0 := (f0.row f).2
      have z1 := (f1.row f).2
      have z2 := (f2.row f).2
      refine iteT ⟨_, rfl, _, rfl, _, rfl, D1, k1, ka, f, _, rfl, rfl, F1.mono s3, key, hv1, _, rfl, _, rfl, D2, k2, ka, f, _, rfl, rfl, F2.mono s3, key, e1, a1, a2, _, _, rfl, ra1, ra2, g1, j1, by omega, by omega, fun mm fm H4 pm us s4 npm hpm hus => ?_⟩
      have lk : k3.length < sizeLine := ofNat_lt (by
        have h1 := R3.len
        have h2 := sub3.length_le
        rw [List.length_map, List.length_take, List.length_map] at h2
        omega)
      have F4 := F3.mono s4
      obtain ⟨φ, hD4⟩ := F4.ext
      refine ⟨k3, ka, f, rfl, F4, key.mono s4, lk, fun o' F' => ?_⟩
      have tu := tups_upd (o := o') hD4 fun xs z => nomatch z
      refine ⟨putK k3 f (.ref pm), t3 ++ [(f, mm)], same_at (s3.trans s4) n3, F', ?_, ?_, fun g hg => ?_⟩
      · rw [putK_new _ (valV_none fk)]
        exact Paired.snoc (RowsAt.tups tu (R3.mono s4)) ⟨rfl, pm, rfl, RowT.tups tu ⟨us, hpm, hus⟩⟩
      · rw [tkn, List.map_append]
        exact List.Sublist.append sub3 (List.Sublist.refl _)
      · rw [rowOf_snoc _ _ _ _ fun z e => fr (by rw [e]; exact z)]
        rw [tkn] at hg
        by_cases e : f = g
        · rw [if_pos e, ← e]
          exact fm
        · rw [if_neg e]
          rcases List.mem_append.mp hg with z | z
          · exact un3 g z
          · exact absurd (List.mem_singleton.mp z).symm e
  · rintro H3 ⟨k3, t3, s3, F3, R3, sub3, un3⟩
    have lk1 : k1.length = (t1.map (·.1)).length := by rw [← kb1, List.length_map]
    rw [lk1, List.take_length] at sub3 un3
    have s13 := s12.trans s3
    obtain ⟨o5, E3⟩ := id F3
    have kb3 := R3.keys
    have nod3 := sub3.nodup u1.can.nod
    have len3 : t3.length ≤ 3 := by
      have z := sub3.length_le
      rw [List.length_map, List.length_map] at z
      omega
    refine ⟨_, rfl, D3, o5, k3, rfl, E3, fun D4 o4 n4 F4 => ?_⟩
    refine fc_it walk_facts (fun i H4 => ∃ (k4 : List (Fct × V)) (t4 : Bk), Same H3 H4 ∧ FD P w H4 D4 k4 ∧ RowsAt H4 k4 t4 ∧ (t4.map (·.1)).Sublist ((t3.map (·.1)).take i) ∧ (∀ x ∈ t4, x.2 ≠ []) ∧ ∀ f ∈ (t3.map (·.1)).take i, rowOf t4 f = rowOf t3 f) ⟨[], [], same_upd n4, F4, .nil, List.nil_sublist _, (fun x hx => nomatch hx), fun f hf => by rw [List.take_zero] at hf; cases hf⟩ (fun i H4 _ ⟨_, _, z, _⟩ => E3.mono z) ?_ ?_
    · rintro i x H4 H4' hi ⟨k4, t4, s4, F4, R4, sub4, ne4, un4⟩ ⟨rfl, ka, f, v, rfl, hv, key⟩
      have fin : (t3.map (·.1))[i]? = some f := by
        rw [← kb3, List.getElem?_map, hv]
        rfl
      have fnew := not_take nod3 fin
      have tkn : (t3.map (·.1)).take (i + 1) = (t3.map (·.1)).take i ++ [f] := take_snoc fin
      have fr : f ∉ t4.map (·.1) := fun z => fnew (sub4.subset z)
      have fk : f ∉ k4.map (·.1) := by
        rw [R4.keys]
        exact fr
      have hv3 := valV_get E3.nod hv
      obtain ⟨l3, a3, hb3, rfl, ra3⟩ := (R3.mono s4).get hv
      have el3 : l3 = rowOf t3 f := (rowOf_mem nod3 (List.mem_of_getElem? hb3)).symm
      obtain ⟨us, h3, p3⟩ := ra3
      have lus := p3.len
      refine ⟨rfl, _, rfl, _, rfl, D3, k3, ka, f, _, rfl, rfl, F3.mono s4, key, hv3, !us.isEmpty, .inr (.inl ⟨_, SqT.of h3, rfl⟩), ?_⟩
      cases eu : us.isEmpty with
      | true =>
        have e0 : l3 = [] := by
          rw [List.isEmpty_iff] at eu
          rw [eu] at lus
          exact List.eq_nil_of_length_eq_zero lus.symm
        refine iteF ⟨k4, t4, s4, F4, R4, ?_, ne4, fun g hg => ?_⟩
        · rw [tkn]
          exact sub4.trans (List.sublist_append_left _ _)
        · rw [tkn] at hg
          rcases List.mem_append.mp hg with z | z
          · exact un4 g z
          · rw [List.mem_singleton.mp z, rowOf_not fr, ← el3, e0]
      | false =>
        have e0 : l3 ≠ [] := fun z => by
          rw [z] at lus
          rw [List.eq_nil_of_length_eq_zero lus] at eu
          cases eu
        obtain ⟨φ, hD4⟩ := F4.ext
        have lk : k4.length < sizeLine := ofNat_lt (by
          have h1 := R4.len
          have h2 := sub4.length_le
          rw [List.length_map, List.length_take, List.length_map] at h2
          omega)
        refine iteT ⟨_, rfl, _, rfl, _, rfl, D3, k3, ka, f, _, rfl, rfl, F3.mono s4, key, hv3, k4, ka, f, rfl, F4, key, lk, fun o' F' => ?_⟩
        have tu := tups_upd (o := o') hD4 fun xs z => nomatch z
        refine ⟨putK k4 f (.ref a3), t4 ++ [(f, l3)], same_at s4 n4, F', ?_, ?_, fun x hx => ?_, fun g hg => ?_⟩
        · rw [putK_new _ (valV_none fk)]
          exact Paired.snoc (RowsAt.tups tu R4) ⟨rfl, a3, rfl, RowT.tups tu ⟨us, h3, p3⟩⟩
        · rw [tkn, List.map_append]
          exact List.Sublist.append sub4 (List.Sublist.refl _)
        · rcases List.mem_append.mp hx with z | z
          · exact ne4 x z
          · rw [List.mem_singleton.mp z]
            exact e0
        · rw [rowOf_snoc _ _ _ _ fun z e => fr (by rw [e]; exact z)]
          rw [tkn] at hg
          by_cases e : f = g
          · rw [if_pos e, ← e]
            exact el3
          · rw [if_neg e]
            rcases List.mem_append.mp hg with z | z
            · exact un4 g z
            · exact absurd (List.mem_singleton.mp z).symm e
    · rintro H4 ⟨k4, t4, s4, F4, R4, sub4, ne4, un4⟩
      have lk3 : k3.length = (t3.map (·.1)).length := by rw [← kb3, List.length_map]
      rw [lk3, List.take_length] at sub4 un4
      have sub41 := sub4.trans sub3
      refine q H4 D4 k4 t4 (s13.trans s4) (s13.free n4) F4 R4 ⟨⟨sub41.nodup u1.can.nod, ne4, u1.can.asc.sublist sub41⟩, fun f hf => (u1.sub f (sub41.subset hf)).elim (f0.sub f) (f1.sub f), fun f => ?_⟩
      have e43 : rowOf t4 f = rowOf t3 f := by
        by_cases m : f ∈ t3.map (·.1)
        · exact un4 f m
        · rw [rowOf_not m, rowOf_not fun z => m (sub4.subset z)]
      obtain ⟨g1, g2, g3⟩ := u1.at_ f
      obtain ⟨j1, j2, j3⟩ := u2.at_ f
      have z0 := (f0.row f).2
      have z1 := (f1.row f).2
      have z2 := (f2.row f).2
      rw [e43]
      by_cases m : f ∈ t1.map (·.1)
      · obtain ⟨m1, m2, m3⟩ := un3 f m
        refine ⟨m1, fun d => ?_, by omega⟩
        rw [m2 d, g2 d, j2 d]
        by_cases c0 : Mem (rowOf b0 f) d <;> by_cases c1 : Mem (rowOf b1 f) d <;> by_cases c2 : Mem (rowOf b2 f) d <;> simp [c0, c1, c2]
      · rw [rowOf_not fun z => m (sub3.subset z)]
        refine ⟨row_nil, fun d => ⟨fun z => z.elim, fun z => ?_⟩, Nat.zero_le _⟩
        have y := g2 d
        rw [rowOf_not m] at y
        refine y.mpr ?_
        have z := z.1
        by_cases c0 : Mem (rowOf b0 f) d <;> by_cases c1 : Mem (rowOf b1 f) d <;> simp [c0, c1] at z ⊢
end
end Yj
set_option Elab.async false
set_option linter.all false
set_option maxRecDepth 100000
set_option maxHeartbeats 4000000
set_option pp.maxSteps 1500
namespace Yj
open PySem PySem.Spec PyProof.Rows L2 RZ YjD
/-! ### when the order of changes matters -/
theorem knownFrom_snoc (k : Bool) (cs : List Chg) (c : Chg) (f : Fct) (d : Int) : knownFrom k (cs ++ [c]) f d = if c.2.1 = f ∧ c.2.2.1 ≤ d ∧ d ≤ c.2.2.2 then decide (c.1 = ("set" : Str)) else knownFrom k cs f d := by
  unfold knownFrom
  rw [List.foldl_append]
  rfl
theorem known_app (cs xs : List Chg) (f : Fct) (d : Int) : knownC (cs ++ xs) f d = knownFrom (knownC cs f d) xs f d := by
  unfold knownC knownFrom
  rw [List.foldl_append]
/-- on the days amid all changes it is as on day 9 -/
theorem amid {f : Fct} {d : Int} (h0 : 9 ≤ d) (h1 : d ≤ 999993) : ∀ (cs : List Chg) (k : Bool), (∀ c ∈ cs, okC c) → knownFrom k cs f d = knownFrom k cs f 9
  | [], _, _ => rfl
  | c :: cs, k, h => by
    have e : ∀ x, knownFrom k (c :: cs) f x = knownFrom (if c.2.1 = f ∧ c.2.2.1 ≤ x ∧ x ≤ c.2.2.2 then decide (c.1 = ("set" : Str)) else k) cs f x := fun _ => rfl
    obtain ⟨_, _, _, _, _, e1, e2⟩ := h c (List.mem_cons_self ..)
    unfold Edge at e1 e2
    have same : (c.2.1 = f ∧ c.2.2.1 ≤ d ∧ d ≤ c.2.2.2) = (c.2.1 = f ∧ c.2.2.1 ≤ 9 ∧ 9 ≤ c.2.2.2) := by
      refine propext ⟨fun z => ⟨z.1, ?_, ?_⟩, fun z => ⟨z.1, ?_, ?_⟩⟩ <;> (have := z.2.1; have := z.2.2; omega)
    rw [e, e]
    simp only [same]
    exact amid h0 h1 cs _ fun x hx => h x (List.mem_cons_of_mem _ hx)
theorem days_all {d : Int} (h0 : 0 ≤ d) (h1 : d ≤ 999999) : d ∈ daysL ∨ (9 ≤ d ∧ d ≤ 999993) := by
  by_cases c : 9 ≤ d ∧ d ≤ 999993
  · exact .inr c
  · refine .inl ?_
    unfold daysL
    rw [List.mem_append, List.mem_map, List.mem_map]
    by_cases c2 : d ≤ 8
    · exact .inl ⟨d.toNat, List.mem_range.mpr (by omega), by omega⟩
    · exact .inr ⟨(d - 999991).toNat, List.mem_range.mpr (by omega), by omega⟩
def eqAt (c c' : List Chg) (f : Fct) (d : Int) : Bool := knownC c f d == knownC c' f d
theorem agree_iff {b1 b2 : Bk} {c c' : List Chg} (J1 : BkInv b1 c) (J2 : BkInv b2 c') (e1 : ∀ x ∈ c, okC x) (e2 : ∀ x ∈ c', okC x) : rowsE b1 b2 ↔ (F3.all fun f => daysL.all fun d => eqAt c c' f d) = true := by
  rw [List.all_eq_true]
  constructor
  · intro h f hf
    rw [List.all_eq_true]
    intro d hd
    obtain ⟨h0, h1⟩ := daysL_in d hd
    show (knownC c f d == knownC c' f d) = true
    rw [← J1.known f h0 h1, ← J2.known f h0 h1, h f]
    exact beq_self_eq_true _
  · intro h f
    by_cases hf : f ∈ F3
    · have day : ∀ d, d ∈ daysL → knownC c f d = knownC c' f d := fun d hd => beq_iff_eq.mp (List.all_eq_true.mp (h f hf) d hd)
      refine (J1.row f).1.uniq (J2.row f).1 fun d h0 h1 => ?_
      rw [J1.mem f d h0 h1, J2.mem f d h0 h1]
      have e : knownC c f d = knownC c' f d := by
        rcases days_all h0 h1 with m | ⟨m1, m2⟩
        · exact day d m
        · have z := day 9 (by decide +kernel)
          unfold knownC at z ⊢
          rw [amid m1 m2 c _ e1, amid m1 m2 c' _ e2]
          exact z
      rw [e]
    · rw [rowOf_not fun z => hf (J1.sub f z), rowOf_not fun z => hf (J2.sub f z)]
theorem chgs_ok {H : Hp} {us : List V} {cs : List Chg} (h : ChgsAt H us cs) : ∀ c ∈ cs, okC c := by
  induction h with
  | nil =>
    intro c hc
    cases hc
  | cons a t ih =>
    intro c hc
    rcases List.mem_cons.mp hc with e | hc
    · rw [e]
      exact a.2
    · exact ih c hc
end Yj
set_option Elab.async false
set_option linter.all false
set_option maxRecDepth 100000
set_option maxHeartbeats 4000000
set_option pp.maxSteps 2500
namespace Yj
open PySem PySem.Spec PyProof.Rows L2 RZ YjD YjF
/-! ### the law: what is drawn -/
theorem BkInv.fit {b : Bk} {cs : List Chg} (I : BkInv b cs) (h : cs.length ≤ 10) : Fit 20 b := ⟨I.can, I.sub, fun f => ⟨(I.row f).1, by have := (I.row f).2; omega⟩⟩
theorem Merged.good {b0 b1 b2 r : Bk} (m : Merged b0 b1 b2 r) : Good r := good_of m.can m.sub fun f => ⟨(m.at_ f).1, by have := (m.at_ f).2.2; omega⟩
/-- books with the same days are alike -/
theorem rows_same {b c : Bk} (hb : ∀ f, Row (rowOf b f)) (hc : ∀ f, Row (rowOf c f)) (h : ∀ f d, Mem (rowOf b f) d ↔ Mem (rowOf c f) d) : rowsE b c := fun f => (hb f).uniq (hc f) fun d _ _ => h f d
theorem merged_swap {b0 b1 b2 r r' : Bk} (m : Merged b0 b1 b2 r) (m' : Merged b0 b2 b1 r') : rowsE r r' := rows_same (fun f => (m.at_ f).1) (fun f => (m'.at_ f).1) fun f d => by
  rw [(m.at_ f).2.1 d, (m'.at_ f).2.1 d]
  by_cases c0 : Mem (rowOf b0 f) d <;> by_cases c1 : Mem (rowOf b1 f) d <;> by_cases c2 : Mem (rowOf b2 f) d <;> simp [c0, c1, c2]
theorem merged_base {b0 b1 r : Bk} (g : ∀ f, Row (rowOf b1 f)) (m : Merged b0 b1 b0 r) : rowsE r b1 := rows_same (fun f => (m.at_ f).1) g fun f d => by
  rw [(m.at_ f).2.1 d]
  by_cases c0 : Mem (rowOf b0 f) d <;> by_cases c1 : Mem (rowOf b1 f) d <;> simp [c0, c1]
theorem merged_one {b0 b1 r : Bk} (g : ∀ f, Row (rowOf b1 f)) (m : Merged b0 b1 b1 r) : rowsE r b1 := rows_same (fun f => (m.at_ f).1) g fun f d => by
  rw [(m.at_ f).2.1 d]
  by_cases c0 : Mem (rowOf b0 f) d <;> by_cases c1 : Mem (rowOf b1 f) d <;> simp [c0, c1]
/-- what the law holds, from the drawing on -/
structure LM (P : Program) (w : World) (B : Addr) (H : Hp) (C1 C2 p0 p1 p2 p3 DB DF : Addr) (us1 us2 : List V) (c0 c1 c2 : List Chg) (b0 b1 b2 r t u : Bk) (kb kf : List (Fct × V)) : Prop where
  l1 : H C1 = some (.lst us1)
  l2 : H C2 = some (.lst us2)
  g1 : ChgsAt H us1 c1
  g2 : ChgsAt H us2 c2
  k0 : BookAt P w B H p0 relS b0
  k1 : BookAt P w B H p1 relS b1
  k2 : BookAt P w B H p2 relS b2
  k3 : BookAt P w B H p3 relS r
  fb : FD P w H DB kb
  rb : RowsAt H kb t
  ff : FD P w H DF kf
  rf : RowsAt H kf u
theorem LM.mono {P : Program} {w : World} {B : Addr} {H H' : Hp} {C1 C2 p0 p1 p2 p3 DB DF : Addr} {us1 us2 : List V} {c0 c1 c2 : List Chg} {b0 b1 b2 r t u : Bk} {kb kf : List (Fct × V)} (s : Same H H') (h : LM P w B H C1 C2 p0 p1 p2 p3 DB DF us1 us2 c0 c1 c2 b0 b1 b2 r t u kb kf) : LM P w B H' C1 C2 p0 p1 p2 p3 DB DF us1 us2 c0 c1 c2 b0 b1 b2 r t u kb kf :=
  ⟨s _ _ h.l1, s _ _ h.l2, h.g1.tups (Same.tups s), h.g2.tups (Same.tups s), h.k0.mono s, h.k1.mono s, h.k2.mono s, h.k3.mono s, h.fb.mono s, h.rb.mono s, h.ff.mono s, h.rf.mono s⟩
def spLaw (K : PySem.W.Frag) : Sp := fun vs H Q _ => ∃ (a : Addr) (ns : List Int), vs = [.ref a] ∧ SqL K H a (ns.map V.int) ∧ ns.length ≤ 63 ∧ ∀ H', Q (.bl true) H'
section
variable {P : Program} {w : World} {K : PySem.W.Frag} {mg : Str → Option Value} {base : Heap} {ad : Nat → Addr} {fds : Nat → FuncData} {cs : Nat → Value}
theorem rd_has (T : Txt K mg ad fds cs) {σ : L2.St} {i j l : Nat} {H : Hp} {p ka : Addr} {b : Bk} {f : Fct} {day : Int} {Q : VK} (hp : σ[i]? = some (some (.ref p))) (hf : σ[j]? = some (some (.ref ka))) (hd : σ[l]? = some (some (.int day))) (B : BookAt P w (ad 38999) H p relS b) (g : Good b) (key : KeyAt H ka f)
    (q : ∀ H', Same H H' → Q (.bl (decide (Mem (rowOf b f) day))) H') : tMeth (ad 38999) "has" (spBHas P w (ad 38999)) [] E0 (tVar i) (tCons (tOp (rIx K) (tVar j) (tC (.int 0))) (tCons (tOp (rIx K) (tVar j) (tC (.int 1))) (tCons (tVar l) tNil))) σ H Q := by
  obtain ⟨dx, dr, db, kvs, h1, _⟩ := id B.obj
  obtain ⟨n, hk, hn⟩ := id key
  refine ⟨_, hp, p, dx, _, rfl, h1, bkF_no _ _ (by decide +kernel) (by decide +kernel), _, hf, .inr (.inl ⟨ka, _, 0, _, rfl, rfl, SqT.of hk, atI_nat (j := 0) rfl, ?_⟩)⟩
  refine ⟨_, hf, .inr (.inl ⟨ka, _, 1, _, rfl, rfl, SqT.of hk, atI_nat (j := 1) rfl, ?_⟩)⟩
  exact ⟨_, hd, p, relS, b, n, f.1, f.2, day, rfl, B, g, hn, fun H' s' => q H' s'⟩
theorem rd_dict {σ : L2.St} {i j : Nat} {H : Hp} {D ka : Addr} {kvs : List (Fct × V)} {r : Bk} {f : Fct} {Q : VK} (hD : σ[i]? = some (some (.ref D))) (hf : σ[j]? = some (some (.ref ka))) (F : FD P w H D kvs) (R : RowsAt H kvs r) (key : KeyAt H ka f)
    (q : ∀ H' a, Same H H' → RowT H' a (rowOf r f) → Q (.ref a) H') : tFOr P w (tVar i) (tVar j) (tTup tNil) σ H Q := by
  refine ⟨_, hD, D, kvs, rfl, F, _, hf, Nat.zero_le _, fun u nu => ?_⟩
  have s1 := same_upd (o := .tup []) nu
  refine ⟨ka, f, rfl, F.mono s1, key.mono s1, ?_⟩
  rcases R.val f with ⟨e1, e2, _⟩ | ⟨a, e1, e2, _⟩
  · rw [e1]
    refine q _ u s1 ?_
    rw [e2]
    exact ⟨[], upd_same, .nil⟩
  · rw [e1]
    exact q _ a s1 (e2.mono s1)
theorem seq_par3 {i j l : Nat} {ta : TA} {u : TS} {D : Ends} {σ : L2.St} {H : Hp} (h : ta σ H fun vs H1 => ∃ x y z, vs = [x, y, z] ∧ u D (((σ.set i (some x)).set j (some y)).set l (some z)) H1) : tSeq (tPar3 i j l ta) u D σ H := h
theorem seq_ifop {r : R2} {ta tb : TE} {t u v : TS} {D : Ends} {σ : L2.St} {H : Hp} (h : ta σ H fun x H1 => tb σ H1 fun y H2 => r x y H2 fun z H3 => ∃ k, z = .bl k ∧ if k = true then t { D with nx := v D } σ H3 else u { D with nx := v D } σ H3) : tSeq (tIfS (tTest (tOp r ta tb)) t u) v D σ H := h
theorem dbl (a b : Bool) : decide (V.bl a = V.bl b) = (a == b) := by
  by_cases e : a = b
  · rw [e, decide_eq_true rfl]
    cases b <;> rfl
  · rw [decide_eq_false fun z => e (V.bl.inj z)]
    cases a <;> cases b <;> first | rfl | exact absurd rfl e
theorem rd_ne {σ : L2.St} {i j : Nat} {H : Hp} {x y : Bool} {Q : VK} (h1 : σ[i]? = some (some (.bl x))) (h2 : σ[j]? = some (some (.bl y))) (q : Q (.bl (x != y)) H) : tOp rNe (tVar i) (tVar j) σ H Q := by
  refine ⟨_, h1, _, h2, rfl, ?_⟩
  rw [dbl]
  exact q
theorem rd_sel {σ : L2.St} {i j l : Nat} {H : Hp} {x y z : Bool} {Q : VK} (h1 : σ[i]? = some (some (.bl x))) (h2 : σ[j]? = some (some (.bl y))) (h3 : σ[l]? = some (some (.bl z))) (q : Q (.bl (if x = y then z else x)) H) : tIf (tTest (tOp rNe (tVar i) (tVar j))) (tVar i) (tVar l) σ H Q := by
  refine ⟨_, h1, _, h2, rfl, _, rfl, ?_⟩
  rw [dbl]
  by_cases e : x = y
  · rw [if_pos e] at q
    subst e
    rw [show (!(x == x)) = false by cases x <;> rfl]
    exact iteF ⟨_, h3, q⟩
  · rw [if_neg e] at q
    rw [show (!(x == y)) = true by cases x <;> cases y <;> first | rfl | exact absurd rfl e]
    exact iteT ⟨_, h1, q⟩
theorem rd_and {σ : L2.St} {i j l : Nat} {H : Hp} {x y z : Bool} {Q : VK} (h1 : σ[i]? = some (some (.bl x))) (h2 : σ[j]? = some (some (.bl y))) (h3 : σ[l]? = some (some (.bl z))) (q : Q (.bl ((x != y) && (z != y))) H) : tAndV (tOp rNe (tVar i) (tVar j)) (tOp rNe (tVar l) (tVar j)) σ H Q := by
  refine rd_ne h1 h2 ⟨_, rfl, ?_⟩
  by_cases e : (x != y) = true
  · rw [e] at q ⊢
    exact iteT (rd_ne h3 h2 q)
  · have e : (x != y) = false := by
      cases z : (x != y) with
      | true => exact absurd z e
      | false => rfl
    rw [e] at q ⊢
    exact iteF q
theorem if_or {r : R2} {ta tb : TE} {T2 : TT} {t u : TS} {D : Ends} {σ : L2.St} {H : Hp} (h : ta σ H fun x H1 => tb σ H1 fun y H2 => r x y H2 fun z H3 => ∃ k, z = .bl k ∧ if k = true then t D σ H3 else T2 σ H3 fun b H4 => if b = true then t D σ H4 else u D σ H4) : tIfS (tOr (tTest (tOp r ta tb)) T2) t u D σ H := h
theorem test_op {r : R2} {ta tb : TE} {σ : L2.St} {H : Hp} {Q : Bool → Hp → Prop} (h : ta σ H fun x H1 => tb σ H1 fun y H2 => r x y H2 fun z H3 => ∃ k, z = .bl k ∧ Q k H3) : tTest (tOp r ta tb) σ H Q := h
theorem if_or1 {T1 T2 : TT} {t u : TS} {D : Ends} {σ : L2.St} {H : Hp} (h : T1 σ H fun b H1 => if b = true then t D σ H1 else T2 σ H1 fun c H2 => if c = true then t D σ H2 else u D σ H2) : tIfS (tOr T1 T2) t u D σ H := h
theorem or_1 {T1 T2 : TT} {σ : L2.St} {H : Hp} {Q : Bool → Hp → Prop} (h : T1 σ H fun b H1 => if b = true then Q true H1 else T2 σ H1 Q) : tOr T1 T2 σ H Q := h
theorem seq_st {t u : TS} {D : Ends} {σ : L2.St} {H : Hp} (h : t { D with nx := u D } σ H) : tSeq t u D σ H := h
theorem tc_te {v : V} {σ : L2.St} {H : Hp} {Q : VK} (h : Q v H) : tC v σ H Q := h
/-- no row of a book in its one form is empty -/
theorem rd_full {σ : L2.St} {i : Nat} {H : Hp} {D : Addr} {kvs : List (Fct × V)} {b : Bk} {Q : Bool → Hp → Prop} (hD : σ[i]? = some (some (.ref D))) (F : FD P w H D kvs) (R : RowsAt H kvs b) (c : Canon b) (q : ∀ H', Same H H' → Q false H') :
    tTest (tOp (rInD K) (tTup tNil) (tCB (rListV P w) (tCons (tVals P w (tVar i)) tNil))) σ H Q := by
  refine ⟨(by show 0 ≤ sizeLine; exact Nat.zero_le _), fun u nu => ?_⟩
  have t1 := same_upd (o := .tup []) nu
  have hu : upd H u (.tup []) u = some (.tup []) := upd_same
  generalize upd H u (.tup []) = H18 at *
  refine ⟨_, hD, D, kvs, rfl, F.mono t1, fun v nv => ?_⟩
  have t2 := same_upd (o := obO v (viewV D)) nv
  have hv : upd H18 v (obO v (viewV D)) v = some (obO v (viewV D)) := upd_same
  generalize upd H18 v (obO v (viewV D)) = H19 at *
  refine ⟨v, D, kvs, rfl, hv, (F.mono t1).mono t2, fun l nl => ?_⟩
  have t3 := same_upd (o := .lst (kvs.map (·.2))) nl
  have hl : upd H19 l (.lst (kvs.map (·.2))) l = some (.lst (kvs.map (·.2))) := upd_same
  have sx := (t1.trans t2).trans t3
  generalize upd H19 l (.lst (kvs.map (·.2))) = H20 at *
  refine ⟨dat [], (b.map (·.2)).map dat, .tup (SqT.of ((t2.trans t3) _ _ hu)) .nil, .lst (SqL.of hl) (vals_dp (R.mono sx)), dat_shaped _, dats_shaped _, ?_⟩
  rw [no_empty c]
  exact ⟨_, rfl, q H20 sx⟩
theorem ok_law (T : Txt K mg ad fds cs) : FnOk P w K mg base (L2N.CX P w) 12 (ad 58) (fds 58) ["script"] (spLaw K) := by
  refine Fun.okN T.F_law sc_law (fun vs H Q E h => ?_) (fun cdv A outer s H vs Q E hr h => ?_)
  · obtain ⟨a, ns, rfl, _⟩ := h
    rfl
  obtain ⟨a, ns, rfl, hs, hl, q⟩ := h
  refine ⟨_, (pss_cons (ps_set (i := 1) sc_law.nd rfl (by first | exact .inl rfl | exact .inr rfl) (pe_lst (pa_cons (pv 0) (pa_cons pe_int pa_nil))))
      (pss_cons (ps_set (i := 2) sc_law.nd rfl (by first | exact .inl rfl | exact .inr rfl) (pe_call (ok_replayed T) (hr.mono (by decide)) rfl T.g_replayed T.F_replayed.kp (bi_replayed T) .nil passN (pa_cons (pe_call (ok_empty_book T) (hr.mono (by decide)) rfl T.g_empty_book T.F_empty_book.kp (bi_empty_book T) .nil passN (pa_cons (pe_call0 (ok__law_relations T) (hr.mono (by decide)) rfl T.g__law_relations T.F__law_relations.kp (bi__law_relations T) .nil pass0) pa_nil)) (pa_cons (pe_call (ok__law_changes T) (hr.mono (by decide)) rfl T.g__law_changes T.F__law_changes.kp (bi__law_changes T) .nil pass0 (pa_cons (pv 1) (pa_cons pe_int pa_nil))) pa_nil))))
      (pss_cons (ps_par (i := 3) (j := 4) (by rfl) sc_law.nd rfl rfl (by decide) rfl rfl (pa_cons (pe_call (ok__law_changes T) (hr.mono (by decide)) rfl T.g__law_changes T.F__law_changes.kp (bi__law_changes T) .nil pass0 (pa_cons (pv 1) (pa_cons pe_int pa_nil))) (pa_cons (pe_call (ok__law_changes T) (hr.mono (by decide)) rfl T.g__law_changes T.F__law_changes.kp (bi__law_changes T) .nil pass0 (pa_cons (pv 1) (pa_cons pe_int pa_nil))) pa_nil)) (by rfl))
      (pss_cons (ps_par (i := 5) (j := 6) (by rfl) sc_law.nd rfl rfl (by decide) rfl rfl (pa_cons (pe_call (ok_replayed T) (hr.mono (by decide)) rfl T.g_replayed T.F_replayed.kp (bi_replayed T) .nil passN (pa_cons (pv 2) (pa_cons (pv 3) pa_nil))) (pa_cons (pe_call (ok_replayed T) (hr.mono (by decide)) rfl T.g_replayed T.F_replayed.kp (bi_replayed T) .nil passN (pa_cons (pv 2) (pa_cons (pv 4) pa_nil))) pa_nil)) (by rfl))
      (pss_cons (ps_par3 (i := 7) (j := 8) (l := 9) (by rfl) sc_law.nd rfl rfl rfl (by decide) (by decide) (by decide) rfl rfl rfl (pa_cons (pe_call (ok_merged T) (hr.mono (by decide)) rfl T.g_merged T.F_merged.kp (bi_merged T) .nil passN (pa_cons (pv 2) (pa_cons (pv 5) (pa_cons (pv 6) pa_nil)))) (pa_cons (pe_call (ok_both_touched T) (hr.mono (by decide)) rfl T.g_both_touched T.F_both_touched.kp (bi_both_touched T) .nil pass0 (pa_cons (pv 2) (pa_cons (pv 5) (pa_cons (pv 6) pa_nil)))) (pa_cons (pe_call (ok_touched T) (hr.mono (by decide)) rfl T.g_touched T.F_touched.kp (bi_touched T) .nil pass0 (pa_cons (pv 2) (pa_cons (pv 5) pa_nil))) pa_nil))) (by rfl))
      (pss_cons (ps_if (PW.pt (pw_or (pt_cmpR (YjD.op_nown T.eq_Book (ok_Book___eq__ T) (bi_Book___eq__ T) (hr.mono (show 3 ≤ _ by decide))) (pv 7) (pe_call (ok_merged T) (hr.mono (by decide)) rfl T.g_merged T.F_merged.kp (bi_merged T) .nil passN (pa_cons (pv 2) (pa_cons (pv 6) (pa_cons (pv 5) pa_nil)))) (nomark _)) (pw_or (pt_cmpR (YjD.op_nown T.eq_Book (ok_Book___eq__ T) (bi_Book___eq__ T) (hr.mono (show 3 ≤ _ by decide))) (pe_call (ok_merged T) (hr.mono (by decide)) rfl T.g_merged T.F_merged.kp (bi_merged T) .nil passN (pa_cons (pv 2) (pa_cons (pv 5) (pa_cons (pv 2) pa_nil)))) (pv 5) (nomark _)) (pw_or1 (pt_cmpR (YjD.op_nown T.eq_Book (ok_Book___eq__ T) (bi_Book___eq__ T) (hr.mono (show 3 ≤ _ by decide))) (pe_call (ok_merged T) (hr.mono (by decide)) rfl T.g_merged T.F_merged.kp (bi_merged T) .nil passN (pa_cons (pv 2) (pa_cons (pv 5) (pa_cons (pv 5) pa_nil)))) (pv 5) (nomark _)))))) (pss_one (ps_ret pe_bl)) pss_nil)
      (pss_cons (ps_for PassesOwn.leaving rfl (pi_list (pe_call0 (ok__law_facts T) (hr.mono (by decide)) rfl T.g__law_facts T.F__law_facts.kp (bi__law_facts T) .nil pass0)) (pg_name (i := 10) sc_law.nd rfl (by first | exact .inl rfl | exact .inr rfl))
      (pss_one (ps_for PassesOwn.leaving rfl (pi_list (pe_call0 (ok__law_days T) (hr.mono (by decide)) rfl T.g__law_days T.F__law_days.kp (bi__law_days T) .nil pass0)) (pg_name (i := 11) sc_law.nd rfl (by first | exact .inl rfl | exact .inr rfl))
      (pss_cons (ps_par3 (i := 12) (j := 13) (l := 14) (by rfl) sc_law.nd rfl rfl rfl (by decide) (by decide) (by decide) rfl rfl rfl (pa_cons (pe_meth (pv 2) T.cl_Book T.m_Book_has (ok_Book_has T) (hr.mono (by decide)) (bi_Book_has T) .nil pass0 (pa_cons (pe_ix ix_seq (pv 10) pe_int (fun _ _ => rfl)) (pa_cons (pe_ix ix_seq (pv 10) pe_int (fun _ _ => rfl)) (pa_cons (pv 11) pa_nil)))) (pa_cons (pe_meth (pv 5) T.cl_Book T.m_Book_has (ok_Book_has T) (hr.mono (by decide)) (bi_Book_has T) .nil pass0 (pa_cons (pe_ix ix_seq (pv 10) pe_int (fun _ _ => rfl)) (pa_cons (pe_ix ix_seq (pv 10) pe_int (fun _ _ => rfl)) (pa_cons (pv 11) pa_nil)))) (pa_cons (pe_meth (pv 6) T.cl_Book T.m_Book_has (ok_Book_has T) (hr.mono (by decide)) (bi_Book_has T) .nil pass0 (pa_cons (pe_ix ix_seq (pv 10) pe_int (fun _ _ => rfl)) (pa_cons (pe_ix ix_seq (pv 10) pe_int (fun _ _ => rfl)) (pa_cons (pv 11) pa_nil)))) pa_nil))) (by rfl))
      (pss_cons (ps_if (pt_cmpR op_ne (pe_meth (pv 7) T.cl_Book T.m_Book_has (ok_Book_has T) (hr.mono (by decide)) (bi_Book_has T) .nil pass0 (pa_cons (pe_ix ix_seq (pv 10) pe_int (fun _ _ => rfl)) (pa_cons (pe_ix ix_seq (pv 10) pe_int (fun _ _ => rfl)) (pa_cons (pv 11) pa_nil)))) (pe_ifExp (pt_cmpR op_ne (pv 13) (pv 12) (nomark _)) (pv 13) (pv 14)) (nomark _)) (pss_one (ps_ret pe_bl)) pss_nil)
      (pss_one (ps_if (PW.pt (pw_or (pt_cmpR op_ne (pe_call (ok_has T) (hr.mono (by decide)) rfl T.g_has_spans T.F_has.kp (bi_has T) .nil pass0 (pa_cons (YjD.pe_forK (P := P) (w := w) hr.units (pv 9) (pv 10) (pe_tup pa_nil) ⟨rfl, rfl, rfl, rfl⟩) (pa_cons (pv 11) pa_nil))) (pe_cmpR op_ne (pv 13) (pv 12) (nomark _)) (nomark _)) (pw_or1 (pt_cmpR op_ne (pe_call (ok_has T) (hr.mono (by decide)) rfl T.g_has_spans T.F_has.kp (bi_has T) .nil pass0 (pa_cons (YjD.pe_forK (P := P) (w := w) hr.units (pv 8) (pv 10) (pe_tup pa_nil) ⟨rfl, rfl, rfl, rfl⟩) (pa_cons (pv 11) pa_nil))) (pe_and (pe_cmpR op_ne (pv 13) (pv 12) (nomark _)) (pe_one (pe_cmpR op_ne (pv 14) (pv 12) (nomark _)))) (nomark _))))) (pss_one (ps_ret pe_bl)) pss_nil)))))))
      (pss_cons (ps_if (PW.pt (pw_or (pt_cmpR (op_inD (YjD.room65 hr)) (pe_tup pa_nil) (pe_callTy (YjD.call_listV rfl) (by rfl) T.z_list (by decide +kernel) (pa_cons (YjD.pe_valuesF (pv 9)) pa_nil)) (by rfl)) (pw_or (pt_cmpR (op_inD (YjD.room65 hr)) (pe_tup pa_nil) (pe_callTy (YjD.call_listV rfl) (by rfl) T.z_list (by decide +kernel) (pa_cons (YjD.pe_valuesF (pv 8)) pa_nil)) (by rfl)) (pw_or1 (pt_cmpR (op_neD hr.units) (pe_callTy (YjD.call_listFK (P := P) (w := w) rfl) (by rfl) T.z_list (by decide +kernel) (pa_cons (pv 9) pa_nil)) (pe_callB (YjD.cr_sortFK (P := P) (w := w) rfl hr.units) (by rfl) T.z_sorted (by decide +kernel) (pa_cons (pv 9) pa_nil)) (nomark _)))))) (pss_one (ps_ret pe_bl)) pss_nil)
      (pss_cons (ps_set (i := 15) sc_law.nd rfl (by first | exact .inl rfl | exact .inr rfl) pe_bl)
      (pss_cons (ps_for PassesOwn.leaving rfl (pi_list (pe_call0 (ok__law_facts T) (hr.mono (by decide)) rfl T.g__law_facts T.F__law_facts.kp (bi__law_facts T) .nil pass0)) (pg_name (i := 10) sc_law.nd rfl (by first | exact .inl rfl | exact .inr rfl))
      (pss_one (ps_for PassesOwn.leaving rfl (pi_list (pe_call0 (ok__law_days T) (hr.mono (by decide)) rfl T.g__law_days T.F__law_days.kp (bi__law_days T) .nil pass0)) (pg_name (i := 11) sc_law.nd rfl (by first | exact .inl rfl | exact .inr rfl))
      (pss_cons (ps_set (i := 16) sc_law.nd rfl (by first | exact .inl rfl | exact .inr rfl) (pe_meth (pv 2) T.cl_Book T.m_Book_has (ok_Book_has T) (hr.mono (by decide)) (bi_Book_has T) .nil pass0 (pa_cons (pe_ix ix_seq (pv 10) pe_int (fun _ _ => rfl)) (pa_cons (pe_ix ix_seq (pv 10) pe_int (fun _ _ => rfl)) (pa_cons (pv 11) pa_nil)))))
      (pss_cons (ps_set (i := 17) sc_law.nd rfl (by first | exact .inl rfl | exact .inr rfl) (pe_lst pa_nil))
      (pss_cons (ps_for PassesOwn.leaving rfl (pi_tup (pe_tup (pa_cons (pe_op op_cat (pv 3) (pv 4)) (pa_cons (pe_op op_cat (pv 4) (pv 3)) pa_nil)))) (pg_name (i := 18) sc_law.nd rfl (by first | exact .inl rfl | exact .inr rfl))
      (pss_cons (ps_set (i := 19) sc_law.nd rfl (by first | exact .inl rfl | exact .inr rfl) (pv 16))
      (pss_cons (ps_for PassesOwn.leaving rfl (pi_list (pv 18)) (pg_tup rfl (pgs_cons (pg_name (i := 20) sc_law.nd rfl (by first | exact .inl rfl | exact .inr rfl)) (pgs_cons (pg_name (i := 21) sc_law.nd rfl (by first | exact .inl rfl | exact .inr rfl)) (pgs_cons (pg_name (i := 22) sc_law.nd rfl (by first | exact .inl rfl | exact .inr rfl)) (pgs_cons (pg_name (i := 23) sc_law.nd rfl (by first | exact .inl rfl | exact .inr rfl)) (pgs_cons (pg_name (i := 24) sc_law.nd rfl (by first | exact .inl rfl | exact .inr rfl)) pgs_nil))))))
      (pss_one (ps_if (PW.pt (pw_and (pt_cmpR (op_eqD hr.units) (pe_tup (pa_cons (pv 21) (pa_cons (pv 22) pa_nil))) (pv 10) (nomark _)) (pw_and1 (pt_chain op_le op_le (pv 23) (pv 11) (pv 24))))) (pss_one (ps_set (i := 19) sc_law.nd rfl (by first | exact .inl rfl | exact .inr rfl) (pe_cmpR op_eq (pv 20) pe_str (nomark _)))) pss_nil)))
      (pss_one (ps_expr (pe_bm PySem.F.plainAttrs_list PySem.F.slot_list_append PySem.F.type_list_append mt_append (pv 17) (pa_cons (pv 19) pa_nil)))))))
      (pss_one (ps_set (i := 15) sc_law.nd rfl (by first | exact .inl rfl | exact .inr rfl) (pe_and (pv 15) (pe_one (pe_cmpR op_eq (pe_ix ix_seq (pv 17) pe_int (fun _ _ => rfl)) (pe_ix ix_seq (pv 17) pe_int (fun _ _ => rfl)) (nomark _))))))))))))
      (pss_one (ps_ret (pe_cmpR op_eq (pe_call (ok_do_agree T) (hr.mono (by decide)) rfl T.g_do_agree T.F_do_agree.kp (bi_do_agree T) .nil passN (pa_cons (pv 2) (pa_cons (pv 3) (pa_cons (pv 4) pa_nil)))) (pv 15) (nomark _)))))))))))))), ?_⟩
  refine ⟨_, rfl, (by show 2 ≤ sizeLine; decide), fun d nd => ?_⟩
  have s1 := same_upd (o := .lst [.ref a, .int 0]) nd
  have hD : Draw K (upd H d (.lst [.ref a, .int 0])) d a ns := ⟨⟨0, upd_same⟩, hs.ext s1, hl⟩
  generalize upd H d (.lst [.ref a, .int 0]) = H1 at *
  refine ⟨rfl, fun dr H2 s2 nr hdr => ?_⟩
  have R := relL_ok
  refine ⟨dr, relL, rfl, hdr, R.short, R.nod, .inl ⟨R.ok, relS, R.sorts, fun H4 pe s4 np B0 => ?_⟩⟩
  replace hD := hD.same (s2.trans s4)
  refine ⟨_, rfl, d, a, ns, 5, rfl, hD, by decide, by decide, fun C us cs0 H3 z3 nC neC hC hcs lc => ?_⟩
  obtain ⟨c2, hd2⟩ := id hD.1
  have ok0 := chgs_ok hcs
  refine ⟨pe, C, us, [], [], cs0, rfl, B0.keepL hd2 z3.2, hC, hcs, BkInv.nil, by show 0 + cs0.length ≤ 100; omega, fun H5 p0 b0 s5 B0 I0 => ?_⟩
  replace hD := z3.1.same s5
  clear z3 s1 s2 s4 s5 nr nd hd2 hs neC nC hC hcs np hdr us C
  -- two rows of changes
  refine ⟨_, rfl, d, a, ns, 4, rfl, hD, by decide, by decide, fun C1 us1 cs1 H6 z6 n1 ne1 h1 hc1 lc1 => ?_⟩
  obtain ⟨e5, hd5⟩ := id hD.1
  replace B0 := B0.keepL hd5 z6.2
  replace hD := z6.1
  clear z6 n1 hd5
  refine ⟨_, rfl, d, a, ns, 4, rfl, hD, by decide, by decide, fun C2 us2 cs2 H7 z7 n2 ne2 h2 hc2 lc2 => ⟨_, _, rfl, ?_⟩⟩
  obtain ⟨e6, hd6⟩ := id hD.1
  replace B0 := B0.keepL hd6 z7.2
  replace h1 := z7.2 _ _ ne1 h1
  replace hc1 := hc1.tups (keep_tups hd6 z7.2)
  clear z7 n2 hd6 hD ne1 ne2
  have l0 : cs0.length ≤ 5 := by omega
  have l1 : cs1.length ≤ 4 := by omega
  have l2 : cs2.length ≤ 4 := by omega
  -- two books behind them
  refine ⟨_, rfl, _, rfl, p0, C1, us1, b0, [] ++ cs0, cs1, rfl, B0, h1, hc1, I0, by rw [List.nil_append]; omega, fun H8 p1 b1 s8 B1 I1 => ?_⟩
  replace B0 := B0.mono s8
  replace h1 := s8 _ _ h1
  replace h2 := s8 _ _ h2
  replace hc1 := hc1.tups (Same.tups s8)
  replace hc2 := hc2.tups (Same.tups s8)
  refine ⟨_, rfl, _, rfl, p0, C2, us2, b0, [] ++ cs0, cs2, rfl, B0, h2, hc2, I0, by rw [List.nil_append]; omega, fun H9 p2 b2 s9 B2 I2 => ⟨_, _, rfl, ?_⟩⟩
  replace B0 := B0.mono s9
  replace B1 := B1.mono s9
  replace h1 := s9 _ _ h1
  replace h2 := s9 _ _ h2
  replace hc1 := hc1.tups (Same.tups s9)
  replace hc2 := hc2.tups (Same.tups s9)
  clear s8 s9
  rw [List.nil_append] at I0 I1 I2
  have f0 : Fit 20 b0 := I0.fit (by omega)
  have f1 : Fit 20 b1 := I1.fit (by rw [List.length_append]; omega)
  have f2 : Fit 20 b2 := I2.fit (by rw [List.length_append]; omega)
  -- what both know together
  refine ⟨_, rfl, _, rfl, _, rfl, p0, p1, p2, b0, b1, b2, rfl, B0, B1, B2, f0, f1, f2, fun H10 p3 r s10 np B3 M => ?_⟩
  refine ⟨_, rfl, _, rfl, _, rfl, p0, p1, p2, b0, b1, b2, rfl, B0.mono s10, B1.mono s10, B2.mono s10, f0, f1, f2, fun H11 DB kb t s11 nB FB RB BT => ?_⟩
  have s01 := s10.trans s11
  refine ⟨_, rfl, _, rfl, p0, p1, _, _, b0, b1, rfl, B0.mono s01, B1.mono s01, f0.more (by decide), f1.more (by decide), fun H12 DF kf u s12 nF FF RF BU => ⟨_, _, _, rfl, ?_⟩⟩
  have s02 := s01.trans s12
  have lm : LM P w (ad 38999) H12 C1 C2 p0 p1 p2 p3 DB DF us1 us2 cs0 cs1 cs2 b0 b1 b2 r t u kb kf := ⟨s02 _ _ h1, s02 _ _ h2, hc1.tups (Same.tups s02), hc2.tups (Same.tups s02), B0.mono s02, B1.mono s02, B2.mono s02, B3.mono (s11.trans s12), FB.mono s12, RB.mono s12, FF, RF⟩
  clear s02 s12 s01 s11 s10 FB RB FF RF B0 B1 B2 B3 nB nF np h1 h2 hc1 hc2
  have neq : ∀ {k : Bool} {A B : Prop}, k = true → B → if (!k) = true then A else B := fun {k A B} e h => by
    rw [e]
    exact iteF h
  obtain ⟨dx1, dr1, db1, kv1, o1, _⟩ := id lm.k1.obj
  obtain ⟨dx3, dr3, db3, kv3, o3, _⟩ := id lm.k3.obj
  refine ⟨_, rfl, _, rfl, _, rfl, _, rfl, p0, p2, p1, b0, b2, b1, rfl, lm.k0, lm.k2, lm.k1, f0, f2, f1, fun H13 p4 r4 s13 n4 B4 M4 => ?_⟩
  obtain ⟨dx4, dr4, db4, kv4, o4, _⟩ := id B4.obj
  refine ⟨p3, dx3, _, rfl, s13 _ _ o3, .inl ⟨p4, _, _, rfl, o4⟩, p3, relS, r, .ref p4, rfl, lm.k3.mono s13, .inr ⟨p4, r4, rfl, B4, relS_ok.nod, M.can, M4.can, fun k hk => ⟨k, rfl, _, rfl, neq (hk.mpr (merged_swap M M4)) ?_⟩⟩⟩
  replace lm := lm.mono s13
  replace o1 := s13 _ _ o1
  clear hk k o4 B4 s13 n4 M4 o3
  refine ⟨_, rfl, _, rfl, _, rfl, p0, p1, p0, b0, b1, b0, rfl, lm.k0, lm.k1, lm.k0, f0, f1, f0, fun H14 p5 r5 s14 n5 B5 M5 => ⟨_, rfl, ?_⟩⟩
  obtain ⟨dx5, dr5, db5, kv5, o5, _⟩ := id B5.obj
  refine ⟨p5, dx5, _, rfl, o5, .inl ⟨p1, _, _, rfl, s14 _ _ o1⟩, p5, relS, r5, .ref p1, rfl, B5, .inr ⟨p1, b1, rfl, lm.k1.mono s14, relS_ok.nod, M5.can, f1.can, fun k hk => ⟨k, rfl, _, rfl, neq (hk.mpr (merged_base (fun f => (f1.row f).1) M5)) ?_⟩⟩⟩
  replace lm := lm.mono s14
  replace o1 := s14 _ _ o1
  clear hk k o5 B5 s14 n5 M5
  refine ⟨_, rfl, _, rfl, _, rfl, p0, p1, p1, b0, b1, b1, rfl, lm.k0, lm.k1, lm.k1, f0, f1, f1, fun H15 p5 r5 s14 n5 B5 M5 => ⟨_, rfl, ?_⟩⟩
  obtain ⟨dx5, dr5, db5, kv5, o5, _⟩ := id B5.obj
  refine ⟨p5, dx5, _, rfl, o5, .inl ⟨p1, _, _, rfl, s14 _ _ o1⟩, p5, relS, r5, .ref p1, rfl, B5, .inr ⟨p1, b1, rfl, lm.k1.mono s14, relS_ok.nod, M5.can, f1.can, fun k hk => ⟨k, rfl, _, rfl, neq (hk.mpr (merged_one (fun f => (f1.row f).1) M5)) ?_⟩⟩⟩
  replace lm := lm.mono s14
  clear hk k o5 B5 s14 n5 M5 o1
  -- day by day
  refine ⟨rfl, fun D fs H16 s16 nD hD kf' => ⟨D, rfl, ⟨_, SqL.of hD⟩, ?_⟩⟩
  replace lm := lm.mono s16
  refine for_itB (walk_list (K := K) (a := D) (xs := fs)) (fun i σ H17 => ∃ (y10 y11 y12 y13 y14 : Option V), σ = [some (.ref a), some (.ref d), some (.ref p0), some (.ref C1), some (.ref C2), some (.ref p1), some (.ref p2), some (.ref p3), some (.ref DB), some (.ref DF), y10, y11, y12, y13, y14, none, none, none, none, none, none, none, none, none, none] ∧ Same H16 H17) ⟨_, _, _, _, _, rfl, Same.refl _⟩ (fun i σ H17 _ ⟨_, _, _, _, _, _, z⟩ => SqL.of (z _ _ hD)) ?_ ?_
  · rintro i x σ H17 H17' hi ⟨y10, y11, y12, y13, y14, rfl, s17⟩ ⟨rfl, hx⟩
    obtain ⟨ka, f, rfl, hf, key⟩ := (kf'.mono s17).get hx
    refine ⟨rfl, fun Y H18 s18 nY hY => ⟨Y, rfl, ⟨_, SqL.of hY⟩, ?_⟩⟩
    refine for_itB (walk_list (K := K) (a := Y) (xs := daysL.map V.int)) (fun j σ H19 => ∃ (y11 y12 y13 y14 : Option V), σ = [some (.ref a), some (.ref d), some (.ref p0), some (.ref C1), some (.ref C2), some (.ref p1), some (.ref p2), some (.ref p3), some (.ref DB), some (.ref DF), some (.ref ka), y11, y12, y13, y14, none, none, none, none, none, none, none, none, none, none] ∧ Same H18 H19) ⟨_, _, _, _, rfl, Same.refl _⟩ (fun j σ H19 _ ⟨_, _, _, _, _, z⟩ => SqL.of (z _ _ hY)) ?_ ?_
    · rintro j x σ H19 H19' hj ⟨y11, y12, y13, y14, rfl, s19⟩ ⟨rfl, hx⟩
      obtain ⟨day, hday, rfl⟩ := day_of hx
      have sx := (s17.trans (s18.trans s19))
      replace key := key.mono (s18.trans s19)
      have g0 := I0.good (by omega : cs0.length ≤ 100)
      have g1 := I1.good (by rw [List.length_append]; omega)
      have g2 := I2.good (by rw [List.length_append]; omega)
      refine gname_i (seq_par3 (cons_te (rd_has T rfl rfl rfl (lm.k0.mono sx) g0 key fun Ha sa => cons_te (rd_has T rfl rfl rfl (lm.k1.mono (sx.trans sa)) g1 (key.mono sa) fun Hb sb => cons_te (rd_has T rfl rfl rfl (lm.k2.mono ((sx.trans sa).trans sb)) g2 ((key.mono sa).mono sb) fun Hc sc => ⟨_, _, _, rfl, ?_⟩)))))
      have sac := (sa.trans sb).trans sc
      refine seq_ifop (rd_has T rfl rfl rfl (lm.k3.mono (sx.trans sac)) M.good (key.mono sac) fun Hd sd => ?_)
      have er : decide (Mem (rowOf r f) day) = if decide (Mem (rowOf b1 f) day) = decide (Mem (rowOf b0 f) day) then decide (Mem (rowOf b2 f) day) else decide (Mem (rowOf b1 f) day) := by
        have z := (M.at_ f).2.1 day
        by_cases c0 : Mem (rowOf b0 f) day <;> by_cases c1 : Mem (rowOf b1 f) day <;> by_cases c2 : Mem (rowOf b2 f) day <;> simp [c0, c1, c2] at z ⊢ <;> exact z
      have eu : decide (Mem (rowOf u f) day) = (decide (Mem (rowOf b1 f) day) != decide (Mem (rowOf b0 f) day)) := by
        have z := (BU.at_ f).2.1 day
        by_cases c0 : Mem (rowOf b0 f) day <;> by_cases c1 : Mem (rowOf b1 f) day <;> simp [c0, c1] at z ⊢ <;> exact z
      have et : decide (Mem (rowOf t f) day) = ((decide (Mem (rowOf b1 f) day) != decide (Mem (rowOf b0 f) day)) && (decide (Mem (rowOf b2 f) day) != decide (Mem (rowOf b0 f) day))) := by
        have z := (BT.at_ f).2.1 day
        by_cases c0 : Mem (rowOf b0 f) day <;> by_cases c1 : Mem (rowOf b1 f) day <;> by_cases c2 : Mem (rowOf b2 f) day <;> simp [c0, c1, c2] at z ⊢ <;> exact z
      refine rd_sel rfl rfl rfl ⟨rfl, _, rfl, ifNeV (congrArg V.bl er) ?_⟩
      have lm' := lm.mono ((sx.trans sac).trans sd)
      have key' := (key.mono sac).mono sd
      have zr : (rowOf u f).length ≤ 100 := by
        have z1 := (BU.at_ f).2.2
        have z2 := (f0.row f).2
        have z3 := (f1.row f).2
        omega
      refine if_or (call_te (cons_te (rd_dict rfl rfl lm'.ff lm'.rf key' fun He a1 se ra1 => ⟨_, rfl, a1, _, day, 0, rfl, ra1, (BU.at_ f).1.1, by omega, rd_ne rfl rfl ⟨rfl, _, rfl, ifNeV (congrArg V.bl eu) ?_⟩⟩)))
      have zt := (BT.at_ f).2.2
      refine test_op (call_te (cons_te (rd_dict rfl rfl (lm'.fb.mono se) (lm'.rb.mono se) (key'.mono se) fun Hf a2 sf ra2 => ⟨_, rfl, a2, _, day, 0, rfl, ra2, (BT.at_ f).1.1, by omega, rd_and rfl rfl rfl ⟨rfl, _, rfl, ifNeV (congrArg V.bl et) ?_⟩⟩)))
      exact ⟨_, _, _, _, rfl, (s19.trans sac).trans ((sd.trans se).trans sf)⟩
    · rintro σ H19 ⟨y11, y12, y13, y14, rfl, s19⟩
      exact ⟨_, _, _, _, _, rfl, s17.trans (s18.trans s19)⟩
  rintro σ H17 ⟨y10, y11, y12, y13, y14, rfl, s17⟩
  replace lm := lm.mono s17
  have subU : ∀ f ∈ u.map (·.1), f ∈ F3 := fun f hf => (BU.sub f hf).elim (f0.sub f) (f1.sub f)
  refine seq_st (if_or1 (rd_full rfl lm.ff lm.rf BU.can fun H18 s18 => iteF (or_1 (rd_full rfl (lm.fb.mono s18) (lm.rb.mono s18) BT.can fun H19 s19 => iteF ?_))))
  replace lm := lm.mono (s18.trans s19)
  have hkb := lm.rf.keys
  refine test_op ?_
  refine ⟨_, rfl, DF, kf, rfl, lm.ff, fun u1 l1 nl1 kl1 => ?_⟩
  have t1 := same_upd (o := .lst u1) nl1
  have hl1 : upd H19 l1 (.lst u1) l1 = some (.lst u1) := upd_same
  replace kl1 := kl1.mono t1
  generalize upd H19 l1 (.lst u1) = H20 at *
  refine ⟨_, rfl, DF, kf, rfl, lm.ff.mono t1, fun u2 l2 nl2 kl2 => ?_⟩
  have t2 := same_upd (o := .lst u2) nl2
  have hl2 : upd H20 l2 (.lst u2) l2 = some (.lst u2) := upd_same
  replace kl2 := kl2.mono t2
  replace kl1 := kl1.mono t2
  replace hl1 := t2 _ _ hl1
  generalize upd H20 l2 (.lst u2) = H21 at *
  rw [hkb, sortF_of BU.can.asc] at kl2
  rw [hkb] at kl1
  refine ⟨_, _, .lst (SqL.of hl1) (keys_dp kl1), .lst (SqL.of hl2) (keys_dp kl2), factsL_shaped subU, factsL_shaped subU, _, rfl, ?_⟩
  rw [factsL_eqv]
  refine iteF ?_
  replace lm := lm.mono (t1.trans t2)
  clear t1 t2 kl1 kl2 hl1 hl2 nl1 nl2 s18 s19 s17 hD kf' nD s16
  -- whether the order of changes matters
  refine seq_asg (tc_te (gname_i ?_))
  refine ⟨rfl, fun D fs H22 s22 nD hD kf' => ⟨D, rfl, ⟨_, SqL.of hD⟩, ?_⟩⟩
  replace lm := lm.mono s22
  have g0 := I0.good (by omega : cs0.length ≤ 100)
  have c12 : ∀ {H : Hp} {us vs : List V} {xs zs : List Chg}, ChgsAt H us xs → ChgsAt H vs zs → ChgsAt H (us ++ vs) (xs ++ zs) := fun {H us vs xs zs} g h => by
    induction g with
    | nil => exact h
    | cons e t ih => exact .cons e ih
  have lf3 := Paired.length kf'
  refine for_itB (walk_list (K := K) (a := D) (xs := fs)) (fun i σ H23 => ∃ (ag : Bool) (y10 y11 y12 y13 y14 y16 y17 y18 y19 y20 y21 y22 y23 y24 : Option V), σ = [some (.ref a), some (.ref d), some (.ref p0), some (.ref C1), some (.ref C2), some (.ref p1), some (.ref p2), some (.ref p3), some (.ref DB), some (.ref DF), y10, y11, y12, y13, y14, some (.bl ag), y16, y17, y18, y19, y20, y21, y22, y23, y24] ∧ ag = ((F3.take i).all fun f => daysL.all fun d => eqAt (cs0 ++ (cs1 ++ cs2)) (cs0 ++ (cs2 ++ cs1)) f d) ∧ Same H22 H23) ⟨true, _, _, _, _, _, _, _, _, _, _, _, _, _, _, rfl, rfl, Same.refl _⟩ (fun i σ H23 _ ⟨_, _, _, _, _, _, _, _, _, _, _, _, _, _, _, _, _, z⟩ => SqL.of (z _ _ hD)) ?_ ?_
  · rintro i x σ H23 H23' hi ⟨ag0, y10, y11, y12, y13, y14, y16, y17, y18, y19, y20, y21, y22, y23, y24, rfl, eag0, s23⟩ ⟨rfl, hx⟩
    obtain ⟨ka, f, rfl, hf, key⟩ := (kf'.mono s23).get hx
    have tkf : F3.take (i + 1) = F3.take i ++ [f] := take_snoc hf
    have fF : f ∈ F3 := List.mem_of_getElem? hf
    refine ⟨rfl, fun Y H24 s24 nY hY => ⟨Y, rfl, ⟨_, SqL.of hY⟩, ?_⟩⟩
    refine for_itB (walk_list (K := K) (a := Y) (xs := daysL.map V.int)) (fun j σ H25 => ∃ (ag : Bool) (y11 y12 y13 y14 y16 y17 y18 y19 y20 y21 y22 y23 y24 : Option V), σ = [some (.ref a), some (.ref d), some (.ref p0), some (.ref C1), some (.ref C2), some (.ref p1), some (.ref p2), some (.ref p3), some (.ref DB), some (.ref DF), some (.ref ka), y11, y12, y13, y14, some (.bl ag), y16, y17, y18, y19, y20, y21, y22, y23, y24] ∧ ag = (ag0 && (daysL.take j).all fun d => eqAt (cs0 ++ (cs1 ++ cs2)) (cs0 ++ (cs2 ++ cs1)) f d) ∧ Same H24 H25) ⟨ag0, _, _, _, _, _, _, _, _, _, _, _, _, _, rfl, (Bool.and_true _).symm, Same.refl _⟩ (fun j σ H25 _ ⟨_, _, _, _, _, _, _, _, _, _, _, _, _, _, _, _, z⟩ => SqL.of (z _ _ hY)) ?_ ?_
    · rintro j x σ H25 H25' hj ⟨ag, y11, y12, y13, y14, y16, y17, y18, y19, y20, y21, y22, y23, y24, rfl, eag, s25⟩ ⟨rfl, hx⟩
      obtain ⟨day, hday, rfl⟩ := day_of hx
      have tkd : daysL.take (j + 1) = daysL.take j ++ [day] := take_snoc hday
      have dL := daysL_in day (List.mem_of_getElem? hday)
      have sx := s23.trans (s24.trans s25)
      replace key := key.mono (s24.trans s25)
      refine gname_i (seq_asg (rd_has T rfl rfl rfl (lm.k0.mono sx) g0 key fun H26 s26 => gname_i ?_))
      rw [I0.known f dL.1 dL.2]
      refine seq_asg ⟨(by show 0 ≤ sizeLine; exact Nat.zero_le _), fun S nS => gname_i (seq_st ?_)⟩
      have sS := same_upd (o := .lst []) nS
      have hS : upd H26 S (.lst []) S = some (.lst []) := upd_same
      have lm' := (lm.mono (sx.trans s26)).mono sS
      replace key := (key.mono s26).mono sS
      generalize upd H26 S (.lst []) = H27 at *
      have lu1 := Paired.length lm'.g1
      have lu2 := Paired.length lm'.g2
      refine ⟨_, rfl, _, rfl, C1, C2, us1, us2, rfl, rfl, lm'.l1, lm'.l2, ofNat_le (by omega), fun L1 nL1 => ?_⟩
      have t1 := same_upd (o := .lst (us1 ++ us2)) nL1
      have hL1 : upd H27 L1 (.lst (us1 ++ us2)) L1 = some (.lst (us1 ++ us2)) := upd_same
      generalize upd H27 L1 (.lst (us1 ++ us2)) = H28 at *
      refine ⟨_, rfl, _, rfl, C2, C1, us2, us1, rfl, rfl, t1 _ _ lm'.l2, t1 _ _ lm'.l1, ofNat_le (by omega), fun L2 nL2 => ?_⟩
      have t2 := same_upd (o := .lst (us2 ++ us1)) nL2
      have hL2 : upd H28 L2 (.lst (us2 ++ us1)) L2 = some (.lst (us2 ++ us1)) := upd_same
      generalize upd H28 L2 (.lst (us2 ++ us1)) = H29 at *
      refine ⟨(by show 2 ≤ sizeLine; decide), fun U nU => ?_⟩
      have t3 := same_upd (o := .tup [.ref L1, .ref L2]) nU
      have hU : upd H29 U (.tup [.ref L1, .ref L2]) U = some (.tup [.ref L1, .ref L2]) := upd_same
      generalize upd H29 U (.tup [.ref L1, .ref L2]) = H30 at *
      have t13 := (t1.trans t2).trans t3
      replace hL1 := (t2.trans t3) _ _ hL1
      replace hL2 := t3 _ _ hL2
      have hS30 := t13 _ _ hS
      replace key := key.mono t13
      have q1 := c12 (lm'.g1.tups (Same.tups t13)) (lm'.g2.tups (Same.tups t13))
      have q2 := c12 (lm'.g2.tups (Same.tups t13)) (lm'.g1.tups (Same.tups t13))
      have n1 : L1 ≠ S := fun z => by
        rw [z, hS] at nL1
        cases nL1
      have n2 : L2 ≠ S := fun z => by
        rw [z, t1 _ _ hS] at nL2
        cases nL2
      refine ⟨U, rfl, ⟨_, SqT.of hU⟩, ?_⟩
      refine for_itB (walk_tup (K := K) (a := U) (xs := [.ref L1, .ref L2])) (fun k σ H31 => ∃ (y18 y19 y20 y21 y22 y23 y24 : Option V), σ = [some (.ref a), some (.ref d), some (.ref p0), some (.ref C1), some (.ref C2), some (.ref p1), some (.ref p2), some (.ref p3), some (.ref DB), some (.ref DF), some (.ref ka), some (.int day), y12, y13, y14, some (.bl ag), some (.bl (knownC cs0 f day)), some (.ref S), y18, y19, y20, y21, y22, y23, y24] ∧ Keep S H30 H31 ∧
        H31 S = some (.lst (([knownFrom (knownC cs0 f day) (cs1 ++ cs2) f day, knownFrom (knownC cs0 f day) (cs2 ++ cs1) f day].take k).map V.bl))) ⟨_, _, _, _, _, _, _, rfl, (fun b o _ e => e), hS30⟩ (fun k σ H31 _ ⟨_, _, _, _, _, _, _, _, z, _⟩ => SqT.of (z _ _ (fun e => by rw [e, hS30] at hU; cases hU) hU)) ?_ ?_
      · rintro k x σ H31 H31' hk ⟨y18, y19, y20, y21, y22, y23, y24, rfl, kp, hS31⟩ ⟨rfl, hx⟩
        obtain ⟨L, us, xs, rfl, nL, hL, hq, tk⟩ : ∃ (L : Addr) (us : List V) (xs : List Chg), x = .ref L ∧ L ≠ S ∧ H30 L = some (.lst us) ∧ ChgsAt H30 us xs ∧ [knownFrom (knownC cs0 f day) (cs1 ++ cs2) f day, knownFrom (knownC cs0 f day) (cs2 ++ cs1) f day].take (k + 1) = [knownFrom (knownC cs0 f day) (cs1 ++ cs2) f day, knownFrom (knownC cs0 f day) (cs2 ++ cs1) f day].take k ++ [knownFrom (knownC cs0 f day) xs f day] := by
          match k, hk, hx with
          | 0, _, hx => exact ⟨L1, _, _, (Option.some.inj hx).symm, n1, hL1, q1, rfl⟩
          | 1, _, hx => exact ⟨L2, _, _, (Option.some.inj hx).symm, n2, hL2, q2, rfl⟩
        have tu := keep_tups hS30 kp
        have hL31 := kp _ _ nL hL
        replace hq := hq.tups tu
        have key31 : KeyAt H31' ka f := key.tups tu
        have lq := Paired.length hq
        refine gname_i (seq_asg ⟨_, rfl, gname_i (seq_st ?_)⟩)
        refine ⟨_, rfl, L, rfl, ⟨_, SqL.of hL31⟩, ?_⟩
        refine for_itB (walk_list (K := K) (a := L) (xs := us)) (fun m σ H32 => ∃ (y20 y21 y22 y23 y24 : Option V), σ = [some (.ref a), some (.ref d), some (.ref p0), some (.ref C1), some (.ref C2), some (.ref p1), some (.ref p2), some (.ref p3), some (.ref DB), some (.ref DF), some (.ref ka), some (.int day), y12, y13, y14, some (.bl ag), some (.bl (knownC cs0 f day)), some (.ref S), some (.ref L), some (.bl (knownFrom (knownC cs0 f day) (xs.take m) f day)), y20, y21, y22, y23, y24] ∧ Same H31' H32) ⟨_, _, _, _, _, rfl, Same.refl _⟩ (fun m σ H32 _ ⟨_, _, _, _, _, _, z⟩ => SqL.of (z _ _ hL31)) ?_ ?_
        · rintro m x σ H32 H32' hm ⟨y20, y21, y22, y23, y24, rfl, s32⟩ ⟨rfl, hx⟩
          obtain ⟨c, hc, ⟨t, n, rfl, ht, hn⟩, hok⟩ := (hq.tups (Same.tups s32)).get hx
          have key2 := key31.mono s32
          refine ⟨t, _, rfl, SqT.of ht, rfl, _, _, rfl, _, _, rfl, _, _, rfl, _, _, rfl, _, _, rfl, rfl, ?_⟩
          have sn := knownFrom_snoc (knownC cs0 f day) (xs.take m) c f day
          rw [← take_snoc hc] at sn
          refine ⟨_, rfl, _, rfl, (by show 2 ≤ sizeLine; decide), fun u nu => ?_⟩
          have s3 := same_upd (o := .tup [.str c.2.1.1, .ref n]) nu
          have kn : KeyAt (upd H32' u (.tup [.str c.2.1.1, .ref n])) u c.2.1 := ⟨n, upd_same, s3 _ _ hn⟩
          refine ⟨_, rfl, factD c.2.1, factD f, key_dat kn, key_dat (key2.mono s3), fact_shaped _ hok.2.1, fact_shaped _ fF, ?_⟩
          rw [eqv_facts]
          refine ⟨_, rfl, ?_⟩
          by_cases e1 : c.2.1 = f
          · refine ifT e1 ?_
            refine ⟨_, rfl, _, rfl, _, _, rfl, rfl, _, rfl, ?_⟩
            by_cases e2 : c.2.2.1 ≤ day
            · refine ifT e2 ⟨_, rfl, _, _, rfl, rfl, _, rfl, ?_⟩
              by_cases e3 : day ≤ c.2.2.2
              · refine ifT e3 ?_
                rw [if_pos ⟨e1, e2, e3⟩] at sn
                refine ⟨_, rfl, rfl, ?_⟩
                have ee : (decide (V.str c.1 = V.str "set")) = knownFrom (knownC cs0 f day) (xs.take (m + 1)) f day := by
                  rw [sn, Bool.eq_iff_iff, decide_eq_true_eq, decide_eq_true_eq]
                  exact ⟨fun z => V.str.inj z, fun z => congrArg V.str z⟩
                rw [ee]
                exact ⟨_, _, _, _, _, rfl, s32.trans s3⟩
              · rw [if_neg fun z => e3 z.2.2] at sn
                refine ifF e3 ?_
                rw [sn]
                exact ⟨_, _, _, _, _, rfl, s32.trans s3⟩
            · rw [if_neg fun z => e2 z.2.1] at sn
              refine ifF e2 ⟨_, rfl, iteF ?_⟩
              rw [sn]
              exact ⟨_, _, _, _, _, rfl, s32.trans s3⟩
          · rw [if_neg fun z => e1 z.1] at sn
            refine ifF e1 (iteF ?_)
            rw [sn]
            exact ⟨_, _, _, _, _, rfl, s32.trans s3⟩
        · rintro σ H32 ⟨y20, y21, y22, y23, y24, rfl, s32⟩
          rw [lq, List.take_length]
          have hS32 := s32 _ _ hS31
          refine ⟨.ref S, rfl, .inl ⟨rfl, _, SqL.of hS32⟩, _, rfl, S, _, _, rfl, rfl, hS32, ofNat_lt ?_, ?_⟩
          · rw [List.length_map, List.length_take]
            have z : ∀ x y : Bool, [x, y].length = 2 := fun _ _ => rfl
            rw [z]
            omega
          · refine ⟨_, _, _, _, _, _, _, rfl, fun b o ne e => (upd_ne ne).trans (s32 _ _ (kp b o ne e)), ?_⟩
            rw [upd_same, tk, List.map_append]
            rfl
      · rintro σ H31 ⟨y18, y19, y20, y21, y22, y23, y24, rfl, kp, hS31⟩
        have s31 : Same H26 H31 := fun b o e => kp b o (fun z => by rw [z, nS] at e; cases e) ((sS.trans t13) _ _ e)
        have s45 := ((s25.trans s26).trans s31)
        have ev : eqAt (cs0 ++ (cs1 ++ cs2)) (cs0 ++ (cs2 ++ cs1)) f day = (knownFrom (knownC cs0 f day) (cs1 ++ cs2) f day == knownFrom (knownC cs0 f day) (cs2 ++ cs1) f day) := by
          unfold eqAt
          rw [known_app, known_app]
        generalize knownFrom (knownC cs0 f day) (cs1 ++ cs2) f day = v1 at *
        generalize knownFrom (knownC cs0 f day) (cs2 ++ cs1) f day = v2 at *
        refine ⟨_, rfl, ag, rfl, ?_⟩
        have nxt : ∀ r, r = (ag && (v1 == v2)) → r = (ag0 && (daysL.take (j + 1)).all fun d => eqAt (cs0 ++ (cs1 ++ cs2)) (cs0 ++ (cs2 ++ cs1)) f d) := fun r e => by
          rw [e, eag, tkd, List.all_append, ← Bool.and_assoc, ← ev]
          show _ = (_ && (eqAt _ _ f day && true))
          rw [Bool.and_true]
        cases ag with
        | false => exact iteF ⟨false, _, _, _, _, _, _, _, _, _, _, _, _, _, rfl, nxt false rfl, s45⟩
        | true =>
          refine iteT ⟨_, rfl, .inl ⟨S, _, 0, _, rfl, rfl, SqL.of hS31, atI_nat (j := 0) rfl, _, rfl, .inl ⟨S, _, 1, _, rfl, rfl, SqL.of hS31, atI_nat (j := 1) rfl, rfl, ?_⟩⟩⟩
          rw [dbl]
          exact ⟨v1 == v2, _, _, _, _, _, _, _, _, _, _, _, _, _, rfl, nxt _ (Bool.true_and _).symm, s45⟩
    · rintro σ H25 ⟨ag, y11, y12, y13, y14, y16, y17, y18, y19, y20, y21, y22, y23, y24, rfl, eag, s25⟩
      refine ⟨ag, _, _, _, _, _, _, _, _, _, _, _, _, _, _, rfl, ?_, s23.trans (s24.trans s25)⟩
      rw [List.length_map, List.take_length] at eag
      rw [eag, eag0, tkf, List.all_append]
      show _ = (_ && (_ && true))
      rw [Bool.and_true]
  rintro σ H23 ⟨ag, y10, y11, y12, y13, y14, y16, y17, y18, y19, y20, y21, y22, y23, y24, rfl, eag, s23⟩
  rw [lf3, List.take_length] at eag
  replace lm := lm.mono s23
  refine ⟨_, rfl, _, rfl, _, rfl, p0, C1, C2, us1, us2, b0, cs0, cs1, cs2, rfl, lm.k0, lm.l1, lm.g1, lm.l2, lm.g2, I0, by omega, fun H' k x1 x2 s' J1 J2 hk => ⟨_, rfl, rfl, ?_⟩⟩
  have okk : ∀ c ∈ cs0 ++ (cs1 ++ cs2), okC c := fun c hc => by
    rcases List.mem_append.mp hc with z | z
    · exact ok0 c z
    · rcases List.mem_append.mp z with z | z
      · exact chgs_ok lm.g1 c z
      · exact chgs_ok lm.g2 c z
  have okk2 : ∀ c ∈ cs0 ++ (cs2 ++ cs1), okC c := fun c hc => by
    rcases List.mem_append.mp hc with z | z
    · exact ok0 c z
    · rcases List.mem_append.mp z with z | z
      · exact chgs_ok lm.g2 c z
      · exact chgs_ok lm.g1 c z
  have fin : k = ag := by
    rw [Bool.eq_iff_iff, hk, agree_iff J1 J2 okk okk2, eag]
  rw [dbl, fin]
  have e : (ag == ag) = true := beq_self_eq_true ag
  rw [e]
  exact q H'
end
end Yj
set_option Elab.async false
set_option linter.all false
set_option maxRecDepth 100000
set_option maxHeartbeats 4000000
set_option pp.maxSteps 1500
namespace Yj
open PySem PySem.Spec PyProof.Rows L2
theorem no_exc {P : Program} {w : World} {outer : List Env} {H : Hp} {s s' : Shared} {e : Value} (h : L2N.CX P w outer H s (fun _ _ _ => False) e s') : False := by
  obtain ⟨_, _, _, _, _, _, _, _, _, _, _, _, z⟩ := h
  exact z
theorem dict_of {K : PySem.W.Frag} {C : Addr} (h : PySem.W.hasDictIn K C = true) : ∃ cd, PySem.W.clsIn K C = some cd ∧ cd.hasDict = true := by
  unfold PySem.W.hasDictIn at h
  cases e : PySem.W.clsIn K C with
  | none =>
    rw [e] at h
    cases h
  | some cd =>
    rw [e] at h
    exact ⟨cd, rfl, h⟩
/-- an error of the class at S is what «except S» names -/
theorem exm_own {K : PySem.W.Frag} {S : Addr} (h1 : PySem.W.subIn K (.ref S) (.type "BaseException") = some true) (h2 : PySem.W.isClsIn K S = true) (h3 : PySem.W.typeIn K (.ref S) = some (.type "type")) (h4 : PySem.W.subIn K (.ref S) (.ref S) = some true) : PySem.W.exmOne K (.ref S) (.ref S) = some true := by
  have e1 : (PySem.W.subIn K (.ref S) (.type "BaseException") == some true) = true := by rw [h1]; rfl
  have h2' : (PySem.W.clsIn K S).isSome = true := h2
  have e2 : ((PySem.W.clsIn K S).isSome && PySem.W.typeIn K (.ref S) == some (.type "type")) = true := by rw [h2', h3]; rfl
  unfold PySem.W.exmOne
  rw [if_pos e1]
  unfold PySem.W.kitCls
  dsimp only
  rw [if_pos e2]
  exact h4
theorem kit_self {K : PySem.W.Frag} {C : Addr} : PySem.W.kitOne K (.ref C) (.ref C) = some true := by
  unfold PySem.W.kitOne
  rw [if_pos (by simp)]
theorem kit_not {K : PySem.W.Frag} {C : Addr} (h2 : PySem.W.isClsIn K C = true) (h3 : PySem.W.typeIn K (.ref C) = some (.type "type")) (h4 : PySem.W.subIn K (.type "dict") (.ref C) = some false) : PySem.W.kitOne K (.type "dict") (.ref C) = some false := by
  have h2' : (PySem.W.clsIn K C).isSome = true := h2
  have e2 : ((PySem.W.clsIn K C).isSome && PySem.W.typeIn K (.ref C) == some (.type "type")) = true := by rw [h2', h3]; rfl
  unfold PySem.W.kitOne
  rw [if_neg (by simp)]
  unfold PySem.W.kitCls
  dsimp only
  rw [if_pos e2]
  exact h4
set_option maxHeartbeats 16000000 in
theorem all_mk {l : PySem.W.OpenLaw} {w : World} {K : PySem.W.Frag} {h : Heap} {mg : Str → Option Value} {fa : Addr} (X : K.In h) (G : h.Ns mainGlobals mg) (hfa : mg "law" = some (.ref fa))
    {f13 f14 f15 f16 f17 f18 f20 f21 f22 f23 f24 f25 f26 f27 f28 f29 f34 f35 f36 f38 f39 f41 f42 f43 f44 f45 f46 f48 f49 f50 f51 f52 f53 f54 f55 f56 f58 f38999 f38000 f38001 f38002 f38003 f38010 f4999 f4000 f5999 f5000 f6999 f6000 f7999 f7000 : Addr} {od13 an13 od14 an14 od15 an15 od16 an16 od17 an17 od18 an18 od20 an20 od21 an21 od22 an22 od23 an23 od24 an24 od25 an25 od26 an26 od27 an27 od28 an28 od29 an29 od34 an34 od35 an35 od36 an36 od38 an38 od39 an39 od41 an41 od42 an42 od43 an43 od44 an44 od45 an45 od46 an46 od48 an48 od49 an49 od50 an50 od51 an51 od52 an52 od53 an53 od54 an54 od55 an55 od56 an56 od58 an58 od38000 an38000 od38001 an38001 od38002 an38002 od38003 an38003 od38010 an38010 od4000 an4000 od5000 an5000 od6000 an6000 od7000 an7000 : Option Addr} {sl13 sl14 sl15 sl16 sl17 sl18 sl20 sl21 sl22 sl23 sl24 sl25 sl26 sl27 sl28 sl29 sl34 sl35 sl36 sl38 sl39 sl41 sl42 sl43 sl44 sl45 sl46 sl48 sl49 sl50 sl51 sl52 sl53 sl54 sl55 sl56 sl58 sl38000 sl38001 sl38002 sl38003 sl38010 sl4000 sl5000 sl6000 sl7000 : Array (Option Value)} {oc13 kV13 dc13 pm13 cd13 ct13 oc14 kV14 dc14 pm14 cd14 ct14 oc15 kV15 dc15 pm15 cd15 ct15 oc16 kV16 dc16 pm16 cd16 ct16 oc17 kV17 dc17 pm17 cd17 ct17 oc18 kV18 dc18 pm18 cd18 ct18 oc20 kV20 dc20 pm20 cd20 ct20 oc21 kV21 dc21 pm21 cd21 ct21 oc22 kV22 dc22 pm22 cd22 ct22 oc23 kV23 dc23 pm23 cd23 ct23 oc24 kV24 dc24 pm24 cd24 ct24 oc25 kV25 dc25 pm25 cd25 ct25 oc26 kV26 dc26 pm26 cd26 ct26 oc27 kV27 dc27 pm27 cd27 ct27 oc28 kV28 dc28 pm28 cd28 ct28 oc29 kV29 dc29 pm29 cd29 ct29 oc34 kV34 dc34 pm34 cd34 ct34 oc35 kV35 dc35 pm35 cd35 ct35 oc36 kV36 dc36 pm36 cd36 ct36 oc38 kV38 dc38 pm38 cd38 ct38 oc39 kV39 dc39 pm39 cd39 ct39 oc41 kV41 dc41 pm41 cd41 ct41 oc42 kV42 dc42 pm42 cd42 ct42 oc43 kV43 dc43 pm43 cd43 ct43 oc44 kV44 dc44 pm44 cd44 ct44 oc45 kV45 dc45 pm45 cd45 ct45 oc46 kV46 dc46 pm46 cd46 ct46 oc48 kV48 dc48 pm48 cd48 ct48 oc49 kV49 dc49 pm49 cd49 ct49 oc50 kV50 dc50 pm50 cd50 ct50 oc51 kV51 dc51 pm51 cd51 ct51 oc52 kV52 dc52 pm52 cd52 ct52 oc53 kV53 dc53 pm53 cd53 ct53 oc54 kV54 dc54 pm54 cd54 ct54 oc55 kV55 dc55 pm55 cd55 ct55 oc56 kV56 dc56 pm56 cd56 ct56 oc58 kV58 dc58 pm58 cd58 ct58 oc38000 kV38000 dc38000 pm38000 cd38000 ct38000 oc38001 kV38001 dc38001 pm38001 cd38001 ct38001 oc38002 kV38002 dc38002 pm38002 cd38002 ct38002 oc38003 kV38003 dc38003 pm38003 cd38003 ct38003 oc38010 kV38010 dc38010 pm38010 cd38010 ct38010 oc4000 kV4000 dc4000 pm4000 cd4000 ct4000 oc5000 kV5000 dc5000 pm5000 cd5000 ct5000 oc6000 kV6000 dc6000 pm6000 cd6000 ct6000 oc7000 kV7000 dc7000 pm7000 cd7000 ct7000 : Value} {tk8 tk9 tk10 tk11 tk12 tk32 tk33 : Tok}
    (a13 : PySem.W.nsIn K mainGlobals "is_integer" = some (some (.ref f13)))
    (l13 : K.lookup f13 = some ⟨oc13, od13, .func (PySem.W.fnOf "is_integer" "is_integer" (defArgs s_is_integer) (defBody s_is_integer) (defScope s_is_integer) .none kV13 dc13 pm13 an13 cd13 ct13), sl13⟩)
    (c13 : PySem.W.codeIn K cd13 "is_integer" = true)
    (k13 : PySem.W.keepIn K (.ref f13) = true)
    (a14 : PySem.W.nsIn K mainGlobals "is_name" = some (some (.ref f14)))
    (l14 : K.lookup f14 = some ⟨oc14, od14, .func (PySem.W.fnOf "is_name" "is_name" (defArgs s_is_name) (defBody s_is_name) (defScope s_is_name) .none kV14 dc14 pm14 an14 cd14 ct14), sl14⟩)
    (c14 : PySem.W.codeIn K cd14 "is_name" = true)
    (k14 : PySem.W.keepIn K (.ref f14) = true)
    (a15 : PySem.W.nsIn K mainGlobals "is_day" = some (some (.ref f15)))
    (l15 : K.lookup f15 = some ⟨oc15, od15, .func (PySem.W.fnOf "is_day" "is_day" (defArgs s_is_day) (defBody s_is_day) (defScope s_is_day) .none kV15 dc15 pm15 an15 cd15 ct15), sl15⟩)
    (c15 : PySem.W.codeIn K cd15 "is_day" = true)
    (k15 : PySem.W.keepIn K (.ref f15) = true)
    (a16 : PySem.W.nsIn K mainGlobals "are_names" = some (some (.ref f16)))
    (l16 : K.lookup f16 = some ⟨oc16, od16, .func (PySem.W.fnOf "are_names" "are_names" (defArgs s_are_names) (defBody s_are_names) (defScope s_are_names) .none kV16 dc16 pm16 an16 cd16 ct16), sl16⟩)
    (c16 : PySem.W.codeIn K cd16 "are_names" = true)
    (k16 : PySem.W.keepIn K (.ref f16) = true)
    (a17 : PySem.W.nsIn K mainGlobals "is_fact" = some (some (.ref f17)))
    (l17 : K.lookup f17 = some ⟨oc17, od17, .func (PySem.W.fnOf "is_fact" "is_fact" (defArgs s_is_fact) (defBody s_is_fact) (defScope s_is_fact) .none kV17 dc17 pm17 an17 cd17 ct17), sl17⟩)
    (c17 : PySem.W.codeIn K cd17 "is_fact" = true)
    (k17 : PySem.W.keepIn K (.ref f17) = true)
    (a18 : PySem.W.nsIn K mainGlobals "checked_relations" = some (some (.ref f18)))
    (l18 : K.lookup f18 = some ⟨oc18, od18, .func (PySem.W.fnOf "checked_relations" "checked_relations" (defArgs s_checked_relations) (defBody s_checked_relations) (defScope s_checked_relations) .none kV18 dc18 pm18 an18 cd18 ct18), sl18⟩)
    (c18 : PySem.W.codeIn K cd18 "checked_relations" = true)
    (k18 : PySem.W.keepIn K (.ref f18) = true)
    (a20 : PySem.W.nsIn K mainGlobals "is_span" = some (some (.ref f20)))
    (l20 : K.lookup f20 = some ⟨oc20, od20, .func (PySem.W.fnOf "is_span" "is_span" (defArgs s_is_span) (defBody s_is_span) (defScope s_is_span) .none kV20 dc20 pm20 an20 cd20 ct20), sl20⟩)
    (c20 : PySem.W.codeIn K cd20 "is_span" = true)
    (k20 : PySem.W.keepIn K (.ref f20) = true)
    (a21 : PySem.W.nsIn K mainGlobals "normal" = some (some (.ref f21)))
    (l21 : K.lookup f21 = some ⟨oc21, od21, .func (PySem.W.fnOf "normal" "normal" (defArgs s_normal) (defBody s_normal) (defScope s_normal) .none kV21 dc21 pm21 an21 cd21 ct21), sl21⟩)
    (c21 : PySem.W.codeIn K cd21 "normal" = true)
    (k21 : PySem.W.keepIn K (.ref f21) = true)
    (a22 : PySem.W.nsIn K mainGlobals "_melted" = some (some (.ref f22)))
    (l22 : K.lookup f22 = some ⟨oc22, od22, .func (PySem.W.fnOf "_melted" "_melted" (defArgs s__melted) (defBody s__melted) (defScope s__melted) .none kV22 dc22 pm22 an22 cd22 ct22), sl22⟩)
    (c22 : PySem.W.codeIn K cd22 "_melted" = true)
    (k22 : PySem.W.keepIn K (.ref f22) = true)
    (a23 : PySem.W.nsIn K mainGlobals "union" = some (some (.ref f23)))
    (l23 : K.lookup f23 = some ⟨oc23, od23, .func (PySem.W.fnOf "union" "union" (defArgs s_union) (defBody s_union) (defScope s_union) .none kV23 dc23 pm23 an23 cd23 ct23), sl23⟩)
    (c23 : PySem.W.codeIn K cd23 "union" = true)
    (k23 : PySem.W.keepIn K (.ref f23) = true)
    (a24 : PySem.W.nsIn K mainGlobals "meet" = some (some (.ref f24)))
    (l24 : K.lookup f24 = some ⟨oc24, od24, .func (PySem.W.fnOf "meet" "meet" (defArgs s_meet) (defBody s_meet) (defScope s_meet) .none kV24 dc24 pm24 an24 cd24 ct24), sl24⟩)
    (c24 : PySem.W.codeIn K cd24 "meet" = true)
    (k24 : PySem.W.keepIn K (.ref f24) = true)
    (a25 : PySem.W.nsIn K mainGlobals "others" = some (some (.ref f25)))
    (l25 : K.lookup f25 = some ⟨oc25, od25, .func (PySem.W.fnOf "others" "others" (defArgs s_others) (defBody s_others) (defScope s_others) .none kV25 dc25 pm25 an25 cd25 ct25), sl25⟩)
    (c25 : PySem.W.codeIn K cd25 "others" = true)
    (k25 : PySem.W.keepIn K (.ref f25) = true)
    (a26 : PySem.W.nsIn K mainGlobals "less" = some (some (.ref f26)))
    (l26 : K.lookup f26 = some ⟨oc26, od26, .func (PySem.W.fnOf "less" "less" (defArgs s_less) (defBody s_less) (defScope s_less) .none kV26 dc26 pm26 an26 cd26 ct26), sl26⟩)
    (c26 : PySem.W.codeIn K cd26 "less" = true)
    (k26 : PySem.W.keepIn K (.ref f26) = true)
    (a27 : PySem.W.nsIn K mainGlobals "unlike" = some (some (.ref f27)))
    (l27 : K.lookup f27 = some ⟨oc27, od27, .func (PySem.W.fnOf "unlike" "unlike" (defArgs s_unlike) (defBody s_unlike) (defScope s_unlike) .none kV27 dc27 pm27 an27 cd27 ct27), sl27⟩)
    (c27 : PySem.W.codeIn K cd27 "unlike" = true)
    (k27 : PySem.W.keepIn K (.ref f27) = true)
    (a28 : PySem.W.nsIn K mainGlobals "_ended_ahead" = some (some (.ref f28)))
    (l28 : K.lookup f28 = some ⟨oc28, od28, .func (PySem.W.fnOf "_ended_ahead" "_ended_ahead" (defArgs s__ended_ahead) (defBody s__ended_ahead) (defScope s__ended_ahead) .none kV28 dc28 pm28 an28 cd28 ct28), sl28⟩)
    (c28 : PySem.W.codeIn K cd28 "_ended_ahead" = true)
    (k28 : PySem.W.keepIn K (.ref f28) = true)
    (a29 : PySem.W.nsIn K mainGlobals "has" = some (some (.ref f29)))
    (l29 : K.lookup f29 = some ⟨oc29, od29, .func (PySem.W.fnOf "has" "has" (defArgs s_has) (defBody s_has) (defScope s_has) .none kV29 dc29 pm29 an29 cd29 ct29), sl29⟩)
    (c29 : PySem.W.codeIn K cd29 "has" = true)
    (k29 : PySem.W.keepIn K (.ref f29) = true)
    (a34 : PySem.W.nsIn K mainGlobals "change_fault" = some (some (.ref f34)))
    (l34 : K.lookup f34 = some ⟨oc34, od34, .func (PySem.W.fnOf "change_fault" "change_fault" (defArgs s_change_fault) (defBody s_change_fault) (defScope s_change_fault) .none kV34 dc34 pm34 an34 cd34 ct34), sl34⟩)
    (c34 : PySem.W.codeIn K cd34 "change_fault" = true)
    (k34 : PySem.W.keepIn K (.ref f34) = true)
    (a35 : PySem.W.nsIn K mainGlobals "check_change" = some (some (.ref f35)))
    (l35 : K.lookup f35 = some ⟨oc35, od35, .func (PySem.W.fnOf "check_change" "check_change" (defArgs s_check_change) (defBody s_check_change) (defScope s_check_change) .none kV35 dc35 pm35 an35 cd35 ct35), sl35⟩)
    (c35 : PySem.W.codeIn K cd35 "check_change" = true)
    (k35 : PySem.W.keepIn K (.ref f35) = true)
    (a36 : PySem.W.nsIn K mainGlobals "row_behind" = some (some (.ref f36)))
    (l36 : K.lookup f36 = some ⟨oc36, od36, .func (PySem.W.fnOf "row_behind" "row_behind" (defArgs s_row_behind) (defBody s_row_behind) (defScope s_row_behind) .none kV36 dc36 pm36 an36 cd36 ct36), sl36⟩)
    (c36 : PySem.W.codeIn K cd36 "row_behind" = true)
    (k36 : PySem.W.keepIn K (.ref f36) = true)
    (a38 : PySem.W.nsIn K mainGlobals "_book_of" = some (some (.ref f38)))
    (l38 : K.lookup f38 = some ⟨oc38, od38, .func (PySem.W.fnOf "_book_of" "_book_of" (defArgs s__book_of) (defBody s__book_of) (defScope s__book_of) .none kV38 dc38 pm38 an38 cd38 ct38), sl38⟩)
    (c38 : PySem.W.codeIn K cd38 "_book_of" = true)
    (k38 : PySem.W.keepIn K (.ref f38) = true)
    (a39 : PySem.W.nsIn K mainGlobals "empty_book" = some (some (.ref f39)))
    (l39 : K.lookup f39 = some ⟨oc39, od39, .func (PySem.W.fnOf "empty_book" "empty_book" (defArgs s_empty_book) (defBody s_empty_book) (defScope s_empty_book) .none kV39 dc39 pm39 an39 cd39 ct39), sl39⟩)
    (c39 : PySem.W.codeIn K cd39 "empty_book" = true)
    (k39 : PySem.W.keepIn K (.ref f39) = true)
    (a41 : PySem.W.nsIn K mainGlobals "merged" = some (some (.ref f41)))
    (l41 : K.lookup f41 = some ⟨oc41, od41, .func (PySem.W.fnOf "merged" "merged" (defArgs s_merged) (defBody s_merged) (defScope s_merged) .none kV41 dc41 pm41 an41 cd41 ct41), sl41⟩)
    (c41 : PySem.W.codeIn K cd41 "merged" = true)
    (k41 : PySem.W.keepIn K (.ref f41) = true)
    (a42 : PySem.W.nsIn K mainGlobals "_facts_of" = some (some (.ref f42)))
    (l42 : K.lookup f42 = some ⟨oc42, od42, .func (PySem.W.fnOf "_facts_of" "_facts_of" (defArgs s__facts_of) (defBody s__facts_of) (defScope s__facts_of) .none kV42 dc42 pm42 an42 cd42 ct42), sl42⟩)
    (c42 : PySem.W.codeIn K cd42 "_facts_of" = true)
    (k42 : PySem.W.keepIn K (.ref f42) = true)
    (a43 : PySem.W.nsIn K mainGlobals "touched" = some (some (.ref f43)))
    (l43 : K.lookup f43 = some ⟨oc43, od43, .func (PySem.W.fnOf "touched" "touched" (defArgs s_touched) (defBody s_touched) (defScope s_touched) .none kV43 dc43 pm43 an43 cd43 ct43), sl43⟩)
    (c43 : PySem.W.codeIn K cd43 "touched" = true)
    (k43 : PySem.W.keepIn K (.ref f43) = true)
    (a44 : PySem.W.nsIn K mainGlobals "both_touched" = some (some (.ref f44)))
    (l44 : K.lookup f44 = some ⟨oc44, od44, .func (PySem.W.fnOf "both_touched" "both_touched" (defArgs s_both_touched) (defBody s_both_touched) (defScope s_both_touched) .none kV44 dc44 pm44 an44 cd44 ct44), sl44⟩)
    (c44 : PySem.W.codeIn K cd44 "both_touched" = true)
    (k44 : PySem.W.keepIn K (.ref f44) = true)
    (a45 : PySem.W.nsIn K mainGlobals "replayed" = some (some (.ref f45)))
    (l45 : K.lookup f45 = some ⟨oc45, od45, .func (PySem.W.fnOf "replayed" "replayed" (defArgs s_replayed) (defBody s_replayed) (defScope s_replayed) .none kV45 dc45 pm45 an45 cd45 ct45), sl45⟩)
    (c45 : PySem.W.codeIn K cd45 "replayed" = true)
    (k45 : PySem.W.keepIn K (.ref f45) = true)
    (a46 : PySem.W.nsIn K mainGlobals "do_agree" = some (some (.ref f46)))
    (l46 : K.lookup f46 = some ⟨oc46, od46, .func (PySem.W.fnOf "do_agree" "do_agree" (defArgs s_do_agree) (defBody s_do_agree) (defScope s_do_agree) .none kV46 dc46 pm46 an46 cd46 ct46), sl46⟩)
    (c46 : PySem.W.codeIn K cd46 "do_agree" = true)
    (k46 : PySem.W.keepIn K (.ref f46) = true)
    (a48 : PySem.W.nsIn K mainGlobals "_law_number" = some (some (.ref f48)))
    (l48 : K.lookup f48 = some ⟨oc48, od48, .func (PySem.W.fnOf "_law_number" "_law_number" (defArgs s__law_number) (defBody s__law_number) (defScope s__law_number) .none kV48 dc48 pm48 an48 cd48 ct48), sl48⟩)
    (c48 : PySem.W.codeIn K cd48 "_law_number" = true)
    (k48 : PySem.W.keepIn K (.ref f48) = true)
    (a49 : PySem.W.nsIn K mainGlobals "_law_take" = some (some (.ref f49)))
    (l49 : K.lookup f49 = some ⟨oc49, od49, .func (PySem.W.fnOf "_law_take" "_law_take" (defArgs s__law_take) (defBody s__law_take) (defScope s__law_take) .none kV49 dc49 pm49 an49 cd49 ct49), sl49⟩)
    (c49 : PySem.W.codeIn K cd49 "_law_take" = true)
    (k49 : PySem.W.keepIn K (.ref f49) = true)
    (a50 : PySem.W.nsIn K mainGlobals "_law_pick" = some (some (.ref f50)))
    (l50 : K.lookup f50 = some ⟨oc50, od50, .func (PySem.W.fnOf "_law_pick" "_law_pick" (defArgs s__law_pick) (defBody s__law_pick) (defScope s__law_pick) .none kV50 dc50 pm50 an50 cd50 ct50), sl50⟩)
    (c50 : PySem.W.codeIn K cd50 "_law_pick" = true)
    (k50 : PySem.W.keepIn K (.ref f50) = true)
    (a51 : PySem.W.nsIn K mainGlobals "_law_relations" = some (some (.ref f51)))
    (l51 : K.lookup f51 = some ⟨oc51, od51, .func (PySem.W.fnOf "_law_relations" "_law_relations" (defArgs s__law_relations) (defBody s__law_relations) (defScope s__law_relations) .none kV51 dc51 pm51 an51 cd51 ct51), sl51⟩)
    (c51 : PySem.W.codeIn K cd51 "_law_relations" = true)
    (k51 : PySem.W.keepIn K (.ref f51) = true)
    (a52 : PySem.W.nsIn K mainGlobals "_law_day" = some (some (.ref f52)))
    (l52 : K.lookup f52 = some ⟨oc52, od52, .func (PySem.W.fnOf "_law_day" "_law_day" (defArgs s__law_day) (defBody s__law_day) (defScope s__law_day) .none kV52 dc52 pm52 an52 cd52 ct52), sl52⟩)
    (c52 : PySem.W.codeIn K cd52 "_law_day" = true)
    (k52 : PySem.W.keepIn K (.ref f52) = true)
    (a53 : PySem.W.nsIn K mainGlobals "_law_change" = some (some (.ref f53)))
    (l53 : K.lookup f53 = some ⟨oc53, od53, .func (PySem.W.fnOf "_law_change" "_law_change" (defArgs s__law_change) (defBody s__law_change) (defScope s__law_change) .none kV53 dc53 pm53 an53 cd53 ct53), sl53⟩)
    (c53 : PySem.W.codeIn K cd53 "_law_change" = true)
    (k53 : PySem.W.keepIn K (.ref f53) = true)
    (a54 : PySem.W.nsIn K mainGlobals "_law_changes" = some (some (.ref f54)))
    (l54 : K.lookup f54 = some ⟨oc54, od54, .func (PySem.W.fnOf "_law_changes" "_law_changes" (defArgs s__law_changes) (defBody s__law_changes) (defScope s__law_changes) .none kV54 dc54 pm54 an54 cd54 ct54), sl54⟩)
    (c54 : PySem.W.codeIn K cd54 "_law_changes" = true)
    (k54 : PySem.W.keepIn K (.ref f54) = true)
    (a55 : PySem.W.nsIn K mainGlobals "_law_facts" = some (some (.ref f55)))
    (l55 : K.lookup f55 = some ⟨oc55, od55, .func (PySem.W.fnOf "_law_facts" "_law_facts" (defArgs s__law_facts) (defBody s__law_facts) (defScope s__law_facts) .none kV55 dc55 pm55 an55 cd55 ct55), sl55⟩)
    (c55 : PySem.W.codeIn K cd55 "_law_facts" = true)
    (k55 : PySem.W.keepIn K (.ref f55) = true)
    (a56 : PySem.W.nsIn K mainGlobals "_law_days" = some (some (.ref f56)))
    (l56 : K.lookup f56 = some ⟨oc56, od56, .func (PySem.W.fnOf "_law_days" "_law_days" (defArgs s__law_days) (defBody s__law_days) (defScope s__law_days) .none kV56 dc56 pm56 an56 cd56 ct56), sl56⟩)
    (c56 : PySem.W.codeIn K cd56 "_law_days" = true)
    (k56 : PySem.W.keepIn K (.ref f56) = true)
    (a58 : PySem.W.nsIn K mainGlobals "law" = some (some (.ref f58)))
    (l58 : K.lookup f58 = some ⟨oc58, od58, .func (PySem.W.fnOf "law" "law" (defArgs s_law) (defBody s_law) (defScope s_law) .none kV58 dc58 pm58 an58 cd58 ct58), sl58⟩)
    (c58 : PySem.W.codeIn K cd58 "law" = true)
    (k58 : PySem.W.keepIn K (.ref f58) = true)
    (b_has_spans : PySem.W.nsIn K mainGlobals "has_spans" = some (some (.ref f29)))
    (C38999 : PySem.W.nsIn K mainGlobals "Book" = some (some (.ref f38999)))
    (Cpg38999 : PySem.W.plainGet K f38999 Str.empty = true)
    (Chd38999 : PySem.W.hasDictIn K f38999 = true)
    (Cpo38999 : PySem.W.plainOver K f38999 = true)
    (Csa38999 : PySem.W.findIn K (.ref f38999) "__setattr__" = some (some (.builtin "object.__setattr__")))
    (Cmk38999 : PySem.W.makesIn K f38999 = true)
    (Ckp38999 : PySem.W.keepIn K (.ref f38999) = true)
    (m38000 : PySem.W.findIn K (.ref f38999) "__init__" = some (some (.ref f38000)))
    (n38000 : PySem.W.isFn K (.ref f38000) = true)
    (l38000 : K.lookup f38000 = some ⟨oc38000, od38000, .func (PySem.W.fnOf "__init__" "Book.__init__" (defArgs s_Book___init__) (defBody s_Book___init__) (defScope s_Book___init__) .none kV38000 dc38000 pm38000 an38000 cd38000 ct38000), sl38000⟩)
    (c38000 : PySem.W.codeIn K cd38000 "Book.__init__" = true)
    (k38000 : PySem.W.keepIn K (.ref f38000) = true)
    (m38001 : PySem.W.findIn K (.ref f38999) "__eq__" = some (some (.ref f38001)))
    (n38001 : PySem.W.isFn K (.ref f38001) = true)
    (l38001 : K.lookup f38001 = some ⟨oc38001, od38001, .func (PySem.W.fnOf "__eq__" "Book.__eq__" (defArgs s_Book___eq__) (defBody s_Book___eq__) (defScope s_Book___eq__) .none kV38001 dc38001 pm38001 an38001 cd38001 ct38001), sl38001⟩)
    (c38001 : PySem.W.codeIn K cd38001 "Book.__eq__" = true)
    (k38001 : PySem.W.keepIn K (.ref f38001) = true)
    (m38002 : PySem.W.findIn K (.ref f38999) "spans_of" = some (some (.ref f38002)))
    (n38002 : PySem.W.isFn K (.ref f38002) = true)
    (l38002 : K.lookup f38002 = some ⟨oc38002, od38002, .func (PySem.W.fnOf "spans_of" "Book.spans_of" (defArgs s_Book_spans_of) (defBody s_Book_spans_of) (defScope s_Book_spans_of) .none kV38002 dc38002 pm38002 an38002 cd38002 ct38002), sl38002⟩)
    (c38002 : PySem.W.codeIn K cd38002 "Book.spans_of" = true)
    (k38002 : PySem.W.keepIn K (.ref f38002) = true)
    (m38003 : PySem.W.findIn K (.ref f38999) "has" = some (some (.ref f38003)))
    (n38003 : PySem.W.isFn K (.ref f38003) = true)
    (l38003 : K.lookup f38003 = some ⟨oc38003, od38003, .func (PySem.W.fnOf "has" "Book.has" (defArgs s_Book_has) (defBody s_Book_has) (defScope s_Book_has) .none kV38003 dc38003 pm38003 an38003 cd38003 ct38003), sl38003⟩)
    (c38003 : PySem.W.codeIn K cd38003 "Book.has" = true)
    (k38003 : PySem.W.keepIn K (.ref f38003) = true)
    (m38010 : PySem.W.findIn K (.ref f38999) "changed" = some (some (.ref f38010)))
    (n38010 : PySem.W.isFn K (.ref f38010) = true)
    (l38010 : K.lookup f38010 = some ⟨oc38010, od38010, .func (PySem.W.fnOf "changed" "Book.changed" (defArgs s_Book_changed) (defBody s_Book_changed) (defScope s_Book_changed) .none kV38010 dc38010 pm38010 an38010 cd38010 ct38010), sl38010⟩)
    (c38010 : PySem.W.codeIn K cd38010 "Book.changed" = true)
    (k38010 : PySem.W.keepIn K (.ref f38010) = true)
    (na38999_relations : PySem.W.findIn K (.ref f38999) "relations" = some none)
    (na38999_rows : PySem.W.findIn K (.ref f38999) "rows" = some none)
    (Cnd38999 : PySem.W.notFirst K f38999 (.type "dict") = true)
    (Cne38999 : PySem.W.findIn K (.ref f38999) "__ne__" = some (some (.builtin "object.__ne__")))
    (Cob38999 : PySem.W.mroIn K f38999 (.type "object") = some true)
    (Ica38999 : PySem.W.findIn K (.ref f38999) "__class__" = some (some (.builtin "object.__class__")))
    (Icn38999 : PySem.W.specialIn K (.builtin "object.__class__") "__get__" = some (some (.builtin "getset_descriptor.__get__")))
    (Ict38999 : PySem.W.takesIn K (.builtin "object.__class__") = some true)
    (Icm38999 : PySem.W.mroIn K f38999 (.type "object") = some true)
    (Iic38999 : PySem.W.isClsIn K f38999 = true)
    (Itc38999 : PySem.W.typeIn K (.ref f38999) = some (.type "type"))
    (Isd38999 : PySem.W.subIn K (.type "dict") (.ref f38999) = some false)
    (x4999a : PySem.W.nsIn K mainGlobals "BadSpans" = some (some (.ref f4999)))
    (x4999i : PySem.W.excInitIn K f4999 PySem.YjX_BadSpans.exTail "Exception.__new__" = true)
    (x4999o : PySem.W.excOver K f4999 PySem.YjX_BadSpans.exTail = true)
    (x4999t : PySem.W.takerIn K f4999 "number" = some none)
    (x4999s : PySem.W.findIn K (.ref f4999) "__setattr__" = some (some (.builtin "object.__setattr__")))
    (x4999g : PySem.W.findIn K (.ref f4999) "__getattribute__" = some (some (.builtin "BaseException.__getattribute__")))
    (x4999gg : PySem.W.findIn K (.ref f4999) "__getattr__" = some none)
    (x4999n : PySem.W.findIn K (.ref f4999) "number" = some none)
    (x4999in : PySem.W.findIn K (.ref f4999) "__init__" = some (some (.ref f4000)))
    (x4999ti : PySem.W.typeIn K (.ref f4000) = some (.type "function"))
    (x4999k : PySem.W.keepIn K (.ref f4999) = true)
    (x4999b : PySem.W.subIn K (.ref f4999) (.type "BaseException") = some true)
    (x4999tc : PySem.W.typeIn K (.ref f4999) = some (.type "type"))
    (x4999hd : PySem.W.hasDictIn K f4999 = true)
    (x4999ic : PySem.W.isClsIn K f4999 = true)
    (x4999sc : PySem.W.subIn K (.ref f4999) (.ref f4999) = some true)
    (x4999l : K.lookup f4000 = some ⟨oc4000, od4000, .func (PySem.W.fnOf "__init__" "BadSpans.__init__" (PySem.YjX_BadSpans.nArgs ⟨9, 17, 9, 21⟩ ⟨9, 23, 9, 29⟩) (PySem.YjX_BadSpans.nBody ⟨10, 8, 10, 12⟩ ⟨10, 8, 10, 19⟩ ⟨10, 22, 10, 28⟩ ⟨10, 8, 10, 28⟩) (PySem.YjX_BadSpans.nScope []) .none kV4000 dc4000 pm4000 an4000 cd4000 ct4000), sl4000⟩)
    (x4999c : PySem.W.codeIn K cd4000 "BadSpans.__init__" = true)
    (x5999a : PySem.W.nsIn K mainGlobals "BadRelations" = some (some (.ref f5999)))
    (x5999i : PySem.W.excInitIn K f5999 PySem.YjX_BadRelations.exTail "Exception.__new__" = true)
    (x5999o : PySem.W.excOver K f5999 PySem.YjX_BadRelations.exTail = true)
    (x5999t : PySem.W.takerIn K f5999 "name" = some none)
    (x5999s : PySem.W.findIn K (.ref f5999) "__setattr__" = some (some (.builtin "object.__setattr__")))
    (x5999g : PySem.W.findIn K (.ref f5999) "__getattribute__" = some (some (.builtin "BaseException.__getattribute__")))
    (x5999gg : PySem.W.findIn K (.ref f5999) "__getattr__" = some none)
    (x5999n : PySem.W.findIn K (.ref f5999) "name" = some none)
    (x5999in : PySem.W.findIn K (.ref f5999) "__init__" = some (some (.ref f5000)))
    (x5999ti : PySem.W.typeIn K (.ref f5000) = some (.type "function"))
    (x5999k : PySem.W.keepIn K (.ref f5999) = true)
    (x5999b : PySem.W.subIn K (.ref f5999) (.type "BaseException") = some true)
    (x5999tc : PySem.W.typeIn K (.ref f5999) = some (.type "type"))
    (x5999hd : PySem.W.hasDictIn K f5999 = true)
    (x5999ic : PySem.W.isClsIn K f5999 = true)
    (x5999sc : PySem.W.subIn K (.ref f5999) (.ref f5999) = some true)
    (x5999l : K.lookup f5000 = some ⟨oc5000, od5000, .func (PySem.W.fnOf "__init__" "BadRelations.__init__" (PySem.YjX_BadRelations.nArgs ⟨13, 17, 13, 21⟩ ⟨13, 23, 13, 27⟩) (PySem.YjX_BadRelations.nBody ⟨14, 8, 14, 12⟩ ⟨14, 8, 14, 17⟩ ⟨14, 20, 14, 24⟩ ⟨14, 8, 14, 24⟩) (PySem.YjX_BadRelations.nScope []) .none kV5000 dc5000 pm5000 an5000 cd5000 ct5000), sl5000⟩)
    (x5999c : PySem.W.codeIn K cd5000 "BadRelations.__init__" = true)
    (x6999a : PySem.W.nsIn K mainGlobals "BadFact" = some (some (.ref f6999)))
    (x6999i : PySem.W.excInitIn K f6999 PySem.YjX_BadFact.exTail "Exception.__new__" = true)
    (x6999o : PySem.W.excOver K f6999 PySem.YjX_BadFact.exTail = true)
    (x6999t : PySem.W.takerIn K f6999 "fact" = some none)
    (x6999s : PySem.W.findIn K (.ref f6999) "__setattr__" = some (some (.builtin "object.__setattr__")))
    (x6999g : PySem.W.findIn K (.ref f6999) "__getattribute__" = some (some (.builtin "BaseException.__getattribute__")))
    (x6999gg : PySem.W.findIn K (.ref f6999) "__getattr__" = some none)
    (x6999n : PySem.W.findIn K (.ref f6999) "fact" = some none)
    (x6999in : PySem.W.findIn K (.ref f6999) "__init__" = some (some (.ref f6000)))
    (x6999ti : PySem.W.typeIn K (.ref f6000) = some (.type "function"))
    (x6999k : PySem.W.keepIn K (.ref f6999) = true)
    (x6999b : PySem.W.subIn K (.ref f6999) (.type "BaseException") = some true)
    (x6999tc : PySem.W.typeIn K (.ref f6999) = some (.type "type"))
    (x6999hd : PySem.W.hasDictIn K f6999 = true)
    (x6999ic : PySem.W.isClsIn K f6999 = true)
    (x6999sc : PySem.W.subIn K (.ref f6999) (.ref f6999) = some true)
    (x6999l : K.lookup f6000 = some ⟨oc6000, od6000, .func (PySem.W.fnOf "__init__" "BadFact.__init__" (PySem.YjX_BadFact.nArgs ⟨17, 17, 17, 21⟩ ⟨17, 23, 17, 27⟩) (PySem.YjX_BadFact.nBody ⟨18, 8, 18, 12⟩ ⟨18, 8, 18, 17⟩ ⟨18, 20, 18, 24⟩ ⟨18, 8, 18, 24⟩) (PySem.YjX_BadFact.nScope []) .none kV6000 dc6000 pm6000 an6000 cd6000 ct6000), sl6000⟩)
    (x6999c : PySem.W.codeIn K cd6000 "BadFact.__init__" = true)
    (x7999a : PySem.W.nsIn K mainGlobals "BadChange" = some (some (.ref f7999)))
    (x7999i : PySem.W.excInitIn K f7999 PySem.YjX_BadChange.exTail "Exception.__new__" = true)
    (x7999o : PySem.W.excOver K f7999 PySem.YjX_BadChange.exTail = true)
    (x7999t : PySem.W.takerIn K f7999 "word" = some none)
    (x7999s : PySem.W.findIn K (.ref f7999) "__setattr__" = some (some (.builtin "object.__setattr__")))
    (x7999g : PySem.W.findIn K (.ref f7999) "__getattribute__" = some (some (.builtin "BaseException.__getattribute__")))
    (x7999gg : PySem.W.findIn K (.ref f7999) "__getattr__" = some none)
    (x7999n : PySem.W.findIn K (.ref f7999) "word" = some none)
    (x7999in : PySem.W.findIn K (.ref f7999) "__init__" = some (some (.ref f7000)))
    (x7999ti : PySem.W.typeIn K (.ref f7000) = some (.type "function"))
    (x7999k : PySem.W.keepIn K (.ref f7999) = true)
    (x7999b : PySem.W.subIn K (.ref f7999) (.type "BaseException") = some true)
    (x7999tc : PySem.W.typeIn K (.ref f7999) = some (.type "type"))
    (x7999hd : PySem.W.hasDictIn K f7999 = true)
    (x7999ic : PySem.W.isClsIn K f7999 = true)
    (x7999sc : PySem.W.subIn K (.ref f7999) (.ref f7999) = some true)
    (x7999l : K.lookup f7000 = some ⟨oc7000, od7000, .func (PySem.W.fnOf "__init__" "BadChange.__init__" (PySem.YjX_BadChange.nArgs ⟨21, 17, 21, 21⟩ ⟨21, 23, 21, 27⟩) (PySem.YjX_BadChange.nBody ⟨22, 8, 22, 12⟩ ⟨22, 8, 22, 17⟩ ⟨22, 20, 22, 24⟩ ⟨22, 8, 22, 24⟩) (PySem.YjX_BadChange.nScope []) .none kV7000 dc7000 pm7000 an7000 cd7000 ct7000), sl7000⟩)
    (x7999c : PySem.W.codeIn K cd7000 "BadChange.__init__" = true)
    (z_isinstance : PySem.W.nsIn K mainGlobals "isinstance" = some none)
    (z_len : PySem.W.nsIn K mainGlobals "len" = some none)
    (z_all : PySem.W.nsIn K mainGlobals "all" = some none)
    (z_any : PySem.W.nsIn K mainGlobals "any" = some none)
    (z_sum : PySem.W.nsIn K mainGlobals "sum" = some none)
    (z_sorted : PySem.W.nsIn K mainGlobals "sorted" = some none)
    (z_max : PySem.W.nsIn K mainGlobals "max" = some none)
    (z_min : PySem.W.nsIn K mainGlobals "min" = some none)
    (z_tuple : PySem.W.nsIn K mainGlobals "tuple" = some none)
    (z_list : PySem.W.nsIn K mainGlobals "list" = some none)
    (z_int : PySem.W.nsIn K mainGlobals "int" = some none)
    (z_bool : PySem.W.nsIn K mainGlobals "bool" = some none)
    (z_str : PySem.W.nsIn K mainGlobals "str" = some none)
    (z_enumerate : PySem.W.nsIn K mainGlobals "enumerate" = some none)
    (z_range : PySem.W.nsIn K mainGlobals "range" = some none)
    (z_set : PySem.W.nsIn K mainGlobals "set" = some none)
    (z_abs : PySem.W.nsIn K mainGlobals "abs" = some none)
    (v8 : PySem.W.nsIn K mainGlobals "LETTERS" = some (some (Value.str "abcdefghijklmnopqrstuvwxyz" tk8)))
    (v9 : PySem.W.nsIn K mainGlobals "FIGURES" = some (some (Value.str "0123456789" tk9)))
    (v10 : PySem.W.nsIn K mainGlobals "LONGEST_NAME" = some (some (Value.int 8 tk10)))
    (v11 : PySem.W.nsIn K mainGlobals "LAST_DAY" = some (some (Value.int 999999 tk11)))
    (v12 : PySem.W.nsIn K mainGlobals "MOST_NAMES" = some (some (Value.int 4 tk12)))
    (v32 : PySem.W.nsIn K mainGlobals "SET" = some (some (Value.str "set" tk32)))
    (v33 : PySem.W.nsIn K mainGlobals "CLEAR" = some (some (Value.str "clear" tk33))) :
    ∃ fd : FuncData, (∀ (s : Shared) (v : Value), BindsTo s fd ⟨[v], []⟩ [("script", v)]) ∧ ∀ base : Heap, K.In base → base.Ns mainGlobals mg → FnOk l.prog w K mg base (L2N.CX l.prog w) 12 fa fd ["script"] (spLaw K) := by
  have e := hfa.symm.trans (PySem.W.mg_of X G a58)
  cases e
  have T : Txt K mg (fun i => match i with | 13 => f13 | 14 => f14 | 15 => f15 | 16 => f16 | 17 => f17 | 18 => f18 | 20 => f20 | 21 => f21 | 22 => f22 | 23 => f23 | 24 => f24 | 25 => f25 | 26 => f26 | 27 => f27 | 28 => f28 | 29 => f29 | 34 => f34 | 35 => f35 | 36 => f36 | 38 => f38 | 39 => f39 | 41 => f41 | 42 => f42 | 43 => f43 | 44 => f44 | 45 => f45 | 46 => f46 | 48 => f48 | 49 => f49 | 50 => f50 | 51 => f51 | 52 => f52 | 53 => f53 | 54 => f54 | 55 => f55 | 56 => f56 | 58 => fa | 38999 => f38999 | 38000 => f38000 | 38001 => f38001 | 38002 => f38002 | 38003 => f38003 | 38010 => f38010 | 4999 => f4999 | 4000 => f4000 | 5999 => f5999 | 5000 => f5000 | 6999 => f6999 | 6000 => f6000 | 7999 => f7999 | 7000 => f7000 | _ => 0) (fun i => match i with | 13 => PySem.W.fnOf "is_integer" "is_integer" (defArgs s_is_integer) (defBody s_is_integer) (defScope s_is_integer) .none kV13 dc13 pm13 an13 cd13 ct13 | 14 => PySem.W.fnOf "is_name" "is_name" (defArgs s_is_name) (defBody s_is_name) (defScope s_is_name) .none kV14 dc14 pm14 an14 cd14 ct14 | 15 => PySem.W.fnOf "is_day" "is_day" (defArgs s_is_day) (defBody s_is_day) (defScope s_is_day) .none kV15 dc15 pm15 an15 cd15 ct15 | 16 => PySem.W.fnOf "are_names" "are_names" (defArgs s_are_names) (defBody s_are_names) (defScope s_are_names) .none kV16 dc16 pm16 an16 cd16 ct16 | 17 => PySem.W.fnOf "is_fact" "is_fact" (defArgs s_is_fact) (defBody s_is_fact) (defScope s_is_fact) .none kV17 dc17 pm17 an17 cd17 ct17 | 18 => PySem.W.fnOf "checked_relations" "checked_relations" (defArgs s_checked_relations) (defBody s_checked_relations) (defScope s_checked_relations) .none kV18 dc18 pm18 an18 cd18 ct18 | 20 => PySem.W.fnOf "is_span" "is_span" (defArgs s_is_span) (defBody s_is_span) (defScope s_is_span) .none kV20 dc20 pm20 an20 cd20 ct20 | 21 => PySem.W.fnOf "normal" "normal" (defArgs s_normal) (defBody s_normal) (defScope s_normal) .none kV21 dc21 pm21 an21 cd21 ct21 | 22 => PySem.W.fnOf "_melted" "_melted" (defArgs s__melted) (defBody s__melted) (defScope s__melted) .none kV22 dc22 pm22 an22 cd22 ct22 | 23 => PySem.W.fnOf "union" "union" (defArgs s_union) (defBody s_union) (defScope s_union) .none kV23 dc23 pm23 an23 cd23 ct23 | 24 => PySem.W.fnOf "meet" "meet" (defArgs s_meet) (defBody s_meet) (defScope s_meet) .none kV24 dc24 pm24 an24 cd24 ct24 | 25 => PySem.W.fnOf "others" "others" (defArgs s_others) (defBody s_others) (defScope s_others) .none kV25 dc25 pm25 an25 cd25 ct25 | 26 => PySem.W.fnOf "less" "less" (defArgs s_less) (defBody s_less) (defScope s_less) .none kV26 dc26 pm26 an26 cd26 ct26 | 27 => PySem.W.fnOf "unlike" "unlike" (defArgs s_unlike) (defBody s_unlike) (defScope s_unlike) .none kV27 dc27 pm27 an27 cd27 ct27 | 28 => PySem.W.fnOf "_ended_ahead" "_ended_ahead" (defArgs s__ended_ahead) (defBody s__ended_ahead) (defScope s__ended_ahead) .none kV28 dc28 pm28 an28 cd28 ct28 | 29 => PySem.W.fnOf "has" "has" (defArgs s_has) (defBody s_has) (defScope s_has) .none kV29 dc29 pm29 an29 cd29 ct29 | 34 => PySem.W.fnOf "change_fault" "change_fault" (defArgs s_change_fault) (defBody s_change_fault) (defScope s_change_fault) .none kV34 dc34 pm34 an34 cd34 ct34 | 35 => PySem.W.fnOf "check_change" "check_change" (defArgs s_check_change) (defBody s_check_change) (defScope s_check_change) .none kV35 dc35 pm35 an35 cd35 ct35 | 36 => PySem.W.fnOf "row_behind" "row_behind" (defArgs s_row_behind) (defBody s_row_behind) (defScope s_row_behind) .none kV36 dc36 pm36 an36 cd36 ct36 | 38 => PySem.W.fnOf "_book_of" "_book_of" (defArgs s__book_of) (defBody s__book_of) (defScope s__book_of) .none kV38 dc38 pm38 an38 cd38 ct38 | 39 => PySem.W.fnOf "empty_book" "empty_book" (defArgs s_empty_book) (defBody s_empty_book) (defScope s_empty_book) .none kV39 dc39 pm39 an39 cd39 ct39 | 41 => PySem.W.fnOf "merged" "merged" (defArgs s_merged) (defBody s_merged) (defScope s_merged) .none kV41 dc41 pm41 an41 cd41 ct41 | 42 => PySem.W.fnOf "_facts_of" "_facts_of" (defArgs s__facts_of) (defBody s__facts_of) (defScope s__facts_of) .none kV42 dc42 pm42 an42 cd42 ct42 | 43 => PySem.W.fnOf "touched" "touched" (defArgs s_touched) (defBody s_touched) (defScope s_touched) .none kV43 dc43 pm43 an43 cd43 ct43 | 44 => PySem.W.fnOf "both_touched" "both_touched" (defArgs s_both_touched) (defBody s_both_touched) (defScope s_both_touched) .none kV44 dc44 pm44 an44 cd44 ct44 | 45 => PySem.W.fnOf "replayed" "replayed" (defArgs s_replayed) (defBody s_replayed) (defScope s_replayed) .none kV45 dc45 pm45 an45 cd45 ct45 | 46 => PySem.W.fnOf "do_agree" "do_agree" (defArgs s_do_agree) (defBody s_do_agree) (defScope s_do_agree) .none kV46 dc46 pm46 an46 cd46 ct46 | 48 => PySem.W.fnOf "_law_number" "_law_number" (defArgs s__law_number) (defBody s__law_number) (defScope s__law_number) .none kV48 dc48 pm48 an48 cd48 ct48 | 49 => PySem.W.fnOf "_law_take" "_law_take" (defArgs s__law_take) (defBody s__law_take) (defScope s__law_take) .none kV49 dc49 pm49 an49 cd49 ct49 | 50 => PySem.W.fnOf "_law_pick" "_law_pick" (defArgs s__law_pick) (defBody s__law_pick) (defScope s__law_pick) .none kV50 dc50 pm50 an50 cd50 ct50 | 51 => PySem.W.fnOf "_law_relations" "_law_relations" (defArgs s__law_relations) (defBody s__law_relations) (defScope s__law_relations) .none kV51 dc51 pm51 an51 cd51 ct51 | 52 => PySem.W.fnOf "_law_day" "_law_day" (defArgs s__law_day) (defBody s__law_day) (defScope s__law_day) .none kV52 dc52 pm52 an52 cd52 ct52 | 53 => PySem.W.fnOf "_law_change" "_law_change" (defArgs s__law_change) (defBody s__law_change) (defScope s__law_change) .none kV53 dc53 pm53 an53 cd53 ct53 | 54 => PySem.W.fnOf "_law_changes" "_law_changes" (defArgs s__law_changes) (defBody s__law_changes) (defScope s__law_changes) .none kV54 dc54 pm54 an54 cd54 ct54 | 55 => PySem.W.fnOf "_law_facts" "_law_facts" (defArgs s__law_facts) (defBody s__law_facts) (defScope s__law_facts) .none kV55 dc55 pm55 an55 cd55 ct55 | 56 => PySem.W.fnOf "_law_days" "_law_days" (defArgs s__law_days) (defBody s__law_days) (defScope s__law_days) .none kV56 dc56 pm56 an56 cd56 ct56 | 58 => PySem.W.fnOf "law" "law" (defArgs s_law) (defBody s_law) (defScope s_law) .none kV58 dc58 pm58 an58 cd58 ct58 | 38000 => PySem.W.fnOf "__init__" "Book.__init__" (defArgs s_Book___init__) (defBody s_Book___init__) (defScope s_Book___init__) .none kV38000 dc38000 pm38000 an38000 cd38000 ct38000 | 38001 => PySem.W.fnOf "__eq__" "Book.__eq__" (defArgs s_Book___eq__) (defBody s_Book___eq__) (defScope s_Book___eq__) .none kV38001 dc38001 pm38001 an38001 cd38001 ct38001 | 38002 => PySem.W.fnOf "spans_of" "Book.spans_of" (defArgs s_Book_spans_of) (defBody s_Book_spans_of) (defScope s_Book_spans_of) .none kV38002 dc38002 pm38002 an38002 cd38002 ct38002 | 38003 => PySem.W.fnOf "has" "Book.has" (defArgs s_Book_has) (defBody s_Book_has) (defScope s_Book_has) .none kV38003 dc38003 pm38003 an38003 cd38003 ct38003 | 38010 => PySem.W.fnOf "changed" "Book.changed" (defArgs s_Book_changed) (defBody s_Book_changed) (defScope s_Book_changed) .none kV38010 dc38010 pm38010 an38010 cd38010 ct38010 | _ => PySem.W.fnOf "law" "law" (defArgs s_law) (defBody s_law) (defScope s_law) .none kV58 dc58 pm58 an58 cd58 ct58) (fun i => match i with | 8 => Value.str "abcdefghijklmnopqrstuvwxyz" tk8 | 9 => Value.str "0123456789" tk9 | 10 => Value.int 8 tk10 | 11 => Value.int 999999 tk11 | 12 => Value.int 4 tk12 | 32 => Value.str "set" tk32 | 33 => Value.str "clear" tk33 | _ => Value.none) := { g_is_integer := PySem.W.mg_of X G a13, F_is_integer := fun_mk (st := s_is_integer) l13 c13 k13, g_is_name := PySem.W.mg_of X G a14, F_is_name := fun_mk (st := s_is_name) l14 c14 k14, g_is_day := PySem.W.mg_of X G a15, F_is_day := fun_mk (st := s_is_day) l15 c15 k15, g_are_names := PySem.W.mg_of X G a16, F_are_names := fun_mk (st := s_are_names) l16 c16 k16, g_is_fact := PySem.W.mg_of X G a17, F_is_fact := fun_mk (st := s_is_fact) l17 c17 k17, g_checked_relations := PySem.W.mg_of X G a18, F_checked_relations := fun_mk (st := s_checked_relations) l18 c18 k18, g_is_span := PySem.W.mg_of X G a20, F_is_span := fun_mk (st := s_is_span) l20 c20 k20, g_normal := PySem.W.mg_of X G a21, F_normal := fun_mk (st := s_normal) l21 c21 k21, g__melted := PySem.W.mg_of X G a22, F__melted := fun_mk (st := s__melted) l22 c22 k22, g_union := PySem.W.mg_of X G a23, F_union := fun_mk (st := s_union) l23 c23 k23, g_meet := PySem.W.mg_of X G a24, F_meet := fun_mk (st := s_meet) l24 c24 k24, g_others := PySem.W.mg_of X G a25, F_others := fun_mk (st := s_others) l25 c25 k25, g_less := PySem.W.mg_of X G a26, F_less := fun_mk (st := s_less) l26 c26 k26, g_unlike := PySem.W.mg_of X G a27, F_unlike := fun_mk (st := s_unlike) l27 c27 k27, g__ended_ahead := PySem.W.mg_of X G a28, F__ended_ahead := fun_mk (st := s__ended_ahead) l28 c28 k28, g_has := PySem.W.mg_of X G a29, F_has := fun_mk (st := s_has) l29 c29 k29, g_change_fault := PySem.W.mg_of X G a34, F_change_fault := fun_mk (st := s_change_fault) l34 c34 k34, g_check_change := PySem.W.mg_of X G a35, F_check_change := fun_mk (st := s_check_change) l35 c35 k35, g_row_behind := PySem.W.mg_of X G a36, F_row_behind := fun_mk (st := s_row_behind) l36 c36 k36, g__book_of := PySem.W.mg_of X G a38, F__book_of := fun_mk (st := s__book_of) l38 c38 k38, g_empty_book := PySem.W.mg_of X G a39, F_empty_book := fun_mk (st := s_empty_book) l39 c39 k39, g_merged := PySem.W.mg_of X G a41, F_merged := fun_mk (st := s_merged) l41 c41 k41, g__facts_of := PySem.W.mg_of X G a42, F__facts_of := fun_mk (st := s__facts_of) l42 c42 k42, g_touched := PySem.W.mg_of X G a43, F_touched := fun_mk (st := s_touched) l43 c43 k43, g_both_touched := PySem.W.mg_of X G a44, F_both_touched := fun_mk (st := s_both_touched) l44 c44 k44, g_replayed := PySem.W.mg_of X G a45, F_replayed := fun_mk (st := s_replayed) l45 c45 k45, g_do_agree := PySem.W.mg_of X G a46, F_do_agree := fun_mk (st := s_do_agree) l46 c46 k46, g__law_number := PySem.W.mg_of X G a48, F__law_number := fun_mk (st := s__law_number) l48 c48 k48, g__law_take := PySem.W.mg_of X G a49, F__law_take := fun_mk (st := s__law_take) l49 c49 k49, g__law_pick := PySem.W.mg_of X G a50, F__law_pick := fun_mk (st := s__law_pick) l50 c50 k50, g__law_relations := PySem.W.mg_of X G a51, F__law_relations := fun_mk (st := s__law_relations) l51 c51 k51, g__law_day := PySem.W.mg_of X G a52, F__law_day := fun_mk (st := s__law_day) l52 c52 k52, g__law_change := PySem.W.mg_of X G a53, F__law_change := fun_mk (st := s__law_change) l53 c53 k53, g__law_changes := PySem.W.mg_of X G a54, F__law_changes := fun_mk (st := s__law_changes) l54 c54 k54, g__law_facts := PySem.W.mg_of X G a55, F__law_facts := fun_mk (st := s__law_facts) l55 c55 k55, g__law_days := PySem.W.mg_of X G a56, F__law_days := fun_mk (st := s__law_days) l56 c56 k56, g_law := PySem.W.mg_of X G a58, F_law := fun_mk (st := s_law) l58 c58 k58, g_has_spans := PySem.W.mg_of X G b_has_spans, g_Book := PySem.W.mg_of X G C38999, cl_Book := ⟨Cpg38999, Chd38999, Cpo38999, Csa38999⟩, F_Book___init__ := fun_mk (st := s_Book___init__) l38000 c38000 k38000, mk_Book := ⟨Cmk38999, m38000, n38000, Ckp38999⟩, F_Book___eq__ := fun_mk (st := s_Book___eq__) l38001 c38001 k38001, F_Book_spans_of := fun_mk (st := s_Book_spans_of) l38002 c38002 k38002, m_Book_spans_of := ⟨m38002, n38002, k38002⟩, F_Book_has := fun_mk (st := s_Book_has) l38003 c38003 k38003, m_Book_has := ⟨m38003, n38003, k38003⟩, F_Book_changed := fun_mk (st := s_Book_changed) l38010 c38010 k38010, m_Book_changed := ⟨m38010, n38010, k38010⟩, na_Book_relations := na38999_relations, na_Book_rows := na38999_rows, eq_Book := ⟨m38001, n38001, by simp [PySem.W.notFirst], Cnd38999, Cne38999, Cob38999⟩, is_Book := ⟨Ica38999, Icn38999, Ict38999, Icm38999, kit_self, kit_not Iic38999 Itc38999 Isd38999⟩, x_BadSpans := ⟨PySem.W.mg_of X G x4999a, x4999i, x4999o, x4999t, dict_of x4999hd, x4999s, x4999g, x4999gg, x4999n, x4999in, x4999ti, x4999k, x4999b, x4999tc, x4999hd, exm_own x4999b x4999ic x4999tc x4999sc, ⟨_, _, _, _, _, _, _, _, _, _, _, _, _, _, _, _, x4999l, x4999c⟩⟩, x_BadRelations := ⟨PySem.W.mg_of X G x5999a, x5999i, x5999o, x5999t, dict_of x5999hd, x5999s, x5999g, x5999gg, x5999n, x5999in, x5999ti, x5999k, x5999b, x5999tc, x5999hd, exm_own x5999b x5999ic x5999tc x5999sc, ⟨_, _, _, _, _, _, _, _, _, _, _, _, _, _, _, _, x5999l, x5999c⟩⟩, x_BadFact := ⟨PySem.W.mg_of X G x6999a, x6999i, x6999o, x6999t, dict_of x6999hd, x6999s, x6999g, x6999gg, x6999n, x6999in, x6999ti, x6999k, x6999b, x6999tc, x6999hd, exm_own x6999b x6999ic x6999tc x6999sc, ⟨_, _, _, _, _, _, _, _, _, _, _, _, _, _, _, _, x6999l, x6999c⟩⟩, x_BadChange := ⟨PySem.W.mg_of X G x7999a, x7999i, x7999o, x7999t, dict_of x7999hd, x7999s, x7999g, x7999gg, x7999n, x7999in, x7999ti, x7999k, x7999b, x7999tc, x7999hd, exm_own x7999b x7999ic x7999tc x7999sc, ⟨_, _, _, _, _, _, _, _, _, _, _, _, _, _, _, _, x7999l, x7999c⟩⟩, z_isinstance := PySem.W.mg_none_of X G z_isinstance, z_len := PySem.W.mg_none_of X G z_len, z_all := PySem.W.mg_none_of X G z_all, z_any := PySem.W.mg_none_of X G z_any, z_sum := PySem.W.mg_none_of X G z_sum, z_sorted := PySem.W.mg_none_of X G z_sorted, z_max := PySem.W.mg_none_of X G z_max, z_min := PySem.W.mg_none_of X G z_min, z_tuple := PySem.W.mg_none_of X G z_tuple, z_list := PySem.W.mg_none_of X G z_list, z_int := PySem.W.mg_none_of X G z_int, z_bool := PySem.W.mg_none_of X G z_bool, z_str := PySem.W.mg_none_of X G z_str, z_enumerate := PySem.W.mg_none_of X G z_enumerate, z_range := PySem.W.mg_none_of X G z_range, z_set := PySem.W.mg_none_of X G z_set, z_abs := PySem.W.mg_none_of X G z_abs, c_LETTERS := PySem.W.mg_of X G v8, r_LETTERS := ⟨tk8, rfl⟩, c_FIGURES := PySem.W.mg_of X G v9, r_FIGURES := ⟨tk9, rfl⟩, c_LONGEST_NAME := PySem.W.mg_of X G v10, r_LONGEST_NAME := ⟨tk10, rfl⟩, c_LAST_DAY := PySem.W.mg_of X G v11, r_LAST_DAY := ⟨tk11, rfl⟩, c_MOST_NAMES := PySem.W.mg_of X G v12, r_MOST_NAMES := ⟨tk12, rfl⟩, c_SET := PySem.W.mg_of X G v32, r_SET := ⟨tk32, rfl⟩, c_CLEAR := PySem.W.mg_of X G v33, r_CLEAR := ⟨tk33, rfl⟩ }
  exact ⟨PySem.W.fnOf "law" "law" (defArgs s_law) (defBody s_law) (defScope s_law) .none kV58 dc58 pm58 an58 cd58 ct58, fun s v => .of_eq rfl, fun base _ _ => ok_law T⟩
end Yj
set_option Elab.async false
set_option linter.all false
open PySem PySem.W PyProof.Rows
set_option maxRecDepth 100000 in
set_option maxHeartbeats 0 in
theorem PySem.Challenge.cw_twicedated_k61_whole_merging_holds : PySem.Challenge.rw_twicedated_k61_whole_merging.Holds := by
  w_on; o_law; k_head; (case hw => w_witness2)
  k_fill
  refine L2.walk_of (l := PySem.Challenge.rw_twicedated_k61_whole_merging) (n := 63) (k := 12) (x := "script") (CX := fun w => L2N.CX PySem.Challenge.rw_twicedated_k61_whole_merging.prog w) (sp := fun w => Yj.spLaw _) rfl (by decide) rfl ⟨rfl, by decide, by decide⟩ (fun w h Y => PySem.W.kIn_of Y) ?F (fun _ _ a ns hl _ hS => ⟨a, ns, rfl, hS, hl, fun _ => rfl⟩) (fun _ _ _ _ _ h => Yj.no_exc h)
  case F =>
    intro w mg fa h KX G hmg
    refine' Yj.all_mk KX G hmg ?a13 ?l13 ?c13 ?k13 ?a14 ?l14 ?c14 ?k14 ?a15 ?l15 ?c15 ?k15 ?a16 ?l16 ?c16 ?k16 ?a17 ?l17 ?c17 ?k17 ?a18 ?l18 ?c18 ?k18 ?a20 ?l20 ?c20 ?k20 ?a21 ?l21 ?c21 ?k21 ?a22 ?l22 ?c22 ?k22 ?a23 ?l23 ?c23 ?k23 ?a24 ?l24 ?c24 ?k24 ?a25 ?l25 ?c25 ?k25 ?a26 ?l26 ?c26 ?k26 ?a27 ?l27 ?c27 ?k27 ?a28 ?l28 ?c28 ?k28 ?a29 ?l29 ?c29 ?k29 ?a34 ?l34 ?c34 ?k34 ?a35 ?l35 ?c35 ?k35 ?a36 ?l36 ?c36 ?k36 ?a38 ?l38 ?c38 ?k38 ?a39 ?l39 ?c39 ?k39 ?a41 ?l41 ?c41 ?k41 ?a42 ?l42 ?c42 ?k42 ?a43 ?l43 ?c43 ?k43 ?a44 ?l44 ?c44 ?k44 ?a45 ?l45 ?c45 ?k45 ?a46 ?l46 ?c46 ?k46 ?a48 ?l48 ?c48 ?k48 ?a49 ?l49 ?c49 ?k49 ?a50 ?l50 ?c50 ?k50 ?a51 ?l51 ?c51 ?k51 ?a52 ?l52 ?c52 ?k52 ?a53 ?l53 ?c53 ?k53 ?a54 ?l54 ?c54 ?k54 ?a55 ?l55 ?c55 ?k55 ?a56 ?l56 ?c56 ?k56 ?a58 ?l58 ?c58 ?k58 ?b_has_spans ?C38999 ?Cpg38999 ?Chd38999 ?Cpo38999 ?Csa38999 ?Cmk38999 ?Ckp38999 ?m38000 ?n38000 ?l38000 ?c38000 ?k38000 ?m38001 ?n38001 ?l38001 ?c38001 ?k38001 ?m38002 ?n38002 ?l38002 ?c38002 ?k38002 ?m38003 ?n38003 ?l38003 ?c38003 ?k38003 ?m38010 ?n38010 ?l38010 ?c38010 ?k38010 ?na38999_relations ?na38999_rows ?Cnd38999 ?Cne38999 ?Cob38999 ?Ica38999 ?Icn38999 ?Ict38999 ?Icm38999 ?Iic38999 ?Itc38999 ?Isd38999 ?x4999a ?x4999i ?x4999o ?x4999t ?x4999s ?x4999g ?x4999gg ?x4999n ?x4999in ?x4999ti ?x4999k ?x4999b ?x4999tc ?x4999hd ?x4999ic ?x4999sc ?x4999l ?x4999c ?x5999a ?x5999i ?x5999o ?x5999t ?x5999s ?x5999g ?x5999gg ?x5999n ?x5999in ?x5999ti ?x5999k ?x5999b ?x5999tc ?x5999hd ?x5999ic ?x5999sc ?x5999l ?x5999c ?x6999a ?x6999i ?x6999o ?x6999t ?x6999s ?x6999g ?x6999gg ?x6999n ?x6999in ?x6999ti ?x6999k ?x6999b ?x6999tc ?x6999hd ?x6999ic ?x6999sc ?x6999l ?x6999c ?x7999a ?x7999i ?x7999o ?x7999t ?x7999s ?x7999g ?x7999gg ?x7999n ?x7999in ?x7999ti ?x7999k ?x7999b ?x7999tc ?x7999hd ?x7999ic ?x7999sc ?x7999l ?x7999c ?z_isinstance ?z_len ?z_all ?z_any ?z_sum ?z_sorted ?z_max ?z_min ?z_tuple ?z_list ?z_int ?z_bool ?z_str ?z_enumerate ?z_range ?z_set ?z_abs ?v8 ?v9 ?v10 ?v11 ?v12 ?v32 ?v33
    (case a13 => k_is); (case l13 => k_is); (case c13 => k_is); (case k13 => k_is); (case a14 => k_is); (case l14 => k_is); (case c14 => k_is); (case k14 => k_is)
    (case a15 => k_is); (case l15 => k_is); (case c15 => k_is); (case k15 => k_is); (case a16 => k_is); (case l16 => k_is); (case c16 => k_is); (case k16 => k_is)
    (case a17 => k_is); (case l17 => k_is); (case c17 => k_is); (case k17 => k_is); (case a18 => k_is); (case l18 => k_is); (case c18 => k_is); (case k18 => k_is)
    (case a20 => k_is); (case l20 => k_is); (case c20 => k_is); (case k20 => k_is); (case a21 => k_is); (case l21 => k_is); (case c21 => k_is); (case k21 => k_is)
    (case a22 => k_is); (case l22 => k_is); (case c22 => k_is); (case k22 => k_is); (case a23 => k_is); (case l23 => k_is); (case c23 => k_is); (case k23 => k_is)
    (case a24 => k_is); (case l24 => k_is); (case c24 => k_is); (case k24 => k_is); (case a25 => k_is); (case l25 => k_is); (case c25 => k_is); (case k25 => k_is)
    (case a26 => k_is); (case l26 => k_is); (case c26 => k_is); (case k26 => k_is); (case a27 => k_is); (case l27 => k_is); (case c27 => k_is); (case k27 => k_is)
    (case a28 => k_is); (case l28 => k_is); (case c28 => k_is); (case k28 => k_is); (case a29 => k_is); (case l29 => k_is); (case c29 => k_is); (case k29 => k_is)
    (case a34 => k_is); (case l34 => k_is); (case c34 => k_is); (case k34 => k_is); (case a35 => k_is); (case l35 => k_is); (case c35 => k_is); (case k35 => k_is)
    (case a36 => k_is); (case l36 => k_is); (case c36 => k_is); (case k36 => k_is); (case a38 => k_is); (case l38 => k_is); (case c38 => k_is); (case k38 => k_is)
    (case a39 => k_is); (case l39 => k_is); (case c39 => k_is); (case k39 => k_is); (case a41 => k_is); (case l41 => k_is); (case c41 => k_is); (case k41 => k_is)
    (case a42 => k_is); (case l42 => k_is); (case c42 => k_is); (case k42 => k_is); (case a43 => k_is); (case l43 => k_is); (case c43 => k_is); (case k43 => k_is)
    (case a44 => k_is); (case l44 => k_is); (case c44 => k_is); (case k44 => k_is); (case a45 => k_is); (case l45 => k_is); (case c45 => k_is); (case k45 => k_is)
    (case a46 => k_is); (case l46 => k_is); (case c46 => k_is); (case k46 => k_is); (case a48 => k_is); (case l48 => k_is); (case c48 => k_is); (case k48 => k_is)
    (case a49 => k_is); (case l49 => k_is); (case c49 => k_is); (case k49 => k_is); (case a50 => k_is); (case l50 => k_is); (case c50 => k_is); (case k50 => k_is)
    (case a51 => k_is); (case l51 => k_is); (case c51 => k_is); (case k51 => k_is); (case a52 => k_is); (case l52 => k_is); (case c52 => k_is); (case k52 => k_is)
    (case a53 => k_is); (case l53 => k_is); (case c53 => k_is); (case k53 => k_is); (case a54 => k_is); (case l54 => k_is); (case c54 => k_is); (case k54 => k_is)
    (case a55 => k_is); (case l55 => k_is); (case c55 => k_is); (case k55 => k_is); (case a56 => k_is); (case l56 => k_is); (case c56 => k_is); (case k56 => k_is)
    (case a58 => k_is); (case l58 => k_is); (case c58 => k_is); (case k58 => k_is); (case b_has_spans => k_is); (case C38999 => k_is); (case Cpg38999 => k_is); (case Chd38999 => k_is)
    (case Cpo38999 => k_is); (case Csa38999 => k_is); (case Cmk38999 => k_is); (case Ckp38999 => k_is); (case m38000 => k_is); (case n38000 => k_is); (case l38000 => k_is); (case c38000 => k_is)
    (case k38000 => k_is); (case m38001 => k_is); (case n38001 => k_is); (case l38001 => k_is); (case c38001 => k_is); (case k38001 => k_is); (case m38002 => k_is); (case n38002 => k_is)
    (case l38002 => k_is); (case c38002 => k_is); (case k38002 => k_is); (case m38003 => k_is); (case n38003 => k_is); (case l38003 => k_is); (case c38003 => k_is); (case k38003 => k_is)
    (case m38010 => k_is); (case n38010 => k_is); (case l38010 => k_is); (case c38010 => k_is); (case k38010 => k_is); (case na38999_relations => k_is); (case na38999_rows => k_is); (case Cnd38999 => k_is)
    (case Cne38999 => k_is); (case Cob38999 => k_is); (case Ica38999 => k_is); (case Icn38999 => k_is); (case Ict38999 => k_is); (case Icm38999 => k_is); (case Iic38999 => k_is); (case Itc38999 => k_is)
    (case Isd38999 => k_is); (case x4999a => k_is); (case x4999i => kx_is); (case x4999o => kx_is); (case x4999t => k_is); (case x4999s => k_is); (case x4999g => k_is); (case x4999gg => k_is)
    (case x4999n => k_is); (case x4999in => k_is); (case x4999ti => k_is); (case x4999k => k_is); (case x4999b => k_is); (case x4999tc => k_is); (case x4999hd => k_is); (case x4999ic => k_is)
    (case x4999sc => k_is); (case x4999l => k_is); (case x4999c => k_is); (case x5999a => k_is); (case x5999i => kx_is); (case x5999o => kx_is); (case x5999t => k_is); (case x5999s => k_is)
    (case x5999g => k_is); (case x5999gg => k_is); (case x5999n => k_is); (case x5999in => k_is); (case x5999ti => k_is); (case x5999k => k_is); (case x5999b => k_is); (case x5999tc => k_is)
    (case x5999hd => k_is); (case x5999ic => k_is); (case x5999sc => k_is); (case x5999l => k_is); (case x5999c => k_is); (case x6999a => k_is); (case x6999i => kx_is); (case x6999o => kx_is)
    (case x6999t => k_is); (case x6999s => k_is); (case x6999g => k_is); (case x6999gg => k_is); (case x6999n => k_is); (case x6999in => k_is); (case x6999ti => k_is); (case x6999k => k_is)
    (case x6999b => k_is); (case x6999tc => k_is); (case x6999hd => k_is); (case x6999ic => k_is); (case x6999sc => k_is); (case x6999l => k_is); (case x6999c => k_is); (case x7999a => k_is)
    (case x7999i => kx_is); (case x7999o => kx_is); (case x7999t => k_is); (case x7999s => k_is); (case x7999g => k_is); (case x7999gg => k_is); (case x7999n => k_is); (case x7999in => k_is)
    (case x7999ti => k_is); (case x7999k => k_is); (case x7999b => k_is); (case x7999tc => k_is); (case x7999hd => k_is); (case x7999ic => k_is); (case x7999sc => k_is); (case x7999l => k_is)
    (case x7999c => k_is); (case z_isinstance => k_is); (case z_len => k_is); (case z_all => k_is); (case z_any => k_is); (case z_sum => k_is); (case z_sorted => k_is); (case z_max => k_is)
    (case z_min => k_is); (case z_tuple => k_is); (case z_list => k_is); (case z_int => k_is); (case z_bool => k_is); (case z_str => k_is); (case z_enumerate => k_is); (case z_range => k_is)
    (case z_set => k_is); (case z_abs => k_is); (case v8 => k_is); (case v9 => k_is); (case v10 => k_is); (case v11 => k_is); (case v12 => k_is); (case v32 => k_is)
    (case v33 => k_is)
