import PyProof.Rows.All
import Wide.All
import OpenK.AllK
import Wide.FinOn
import PySem.Challenge.RW_touchpasses_k07_passes_put_taken_moved_c
import HandS.List
import HandS.Comp
import HandS.Words
import HandS.Defaults
import HandS.OwnEq
import PyProof.ReprRoads
import PyProof.InstNe
import PyProof.StrLawsRepr
import HandS.Ends
import HandS.EndBits
import HandS.Property
import HandS.ForMost
import HandS.IsInst
import HandS.TupAny
import HandS.Walk
import HandS.Conv
import HandS.WrittenGet
import KE.GoesMore
import PyProof.ReprBulk
import PyProof.Rows.ReprShort
import HandS.MakeKw
import HandS.MakeKwOnly
set_option Elab.async false
set_option linter.all false
set_option maxRecDepth 100000
namespace L2
open PySem PySem.Spec PyProof.Rows

/-! ### heaps that grow, but for the one object p -/
/-- all that was tracked is as it was, but what stands at p -/
def Sm (p : Addr) (H H' : Hp) : Prop := ∀ b o, b ≠ p → H b = some o → H' b = some o
theorem Sm.refl (p : Addr) (H : Hp) : Sm p H H := fun _ _ _ h => h
theorem Sm.trans {p : Addr} {H H1 H2 : Hp} (a : Sm p H H1) (b : Sm p H1 H2) : Sm p H H2 := fun c o n h => b c o n (a c o n h)
theorem Sm.of_same {p : Addr} {H H' : Hp} (h : Same H H') : Sm p H H' := fun b o _ e => h b o e
theorem Sm.new {p q : Addr} {H : Hp} {o : HO} (h : H q = none) : Sm p H (upd H q o) := fun b u _ e => by
  rw [upd_ne (ne_of_none e h)]; exact e
theorem Sm.at {p : Addr} {H : Hp} {o : HO} : Sm p H (upd H p o) := fun b u n e => by
  rw [upd_ne n]; exact e
theorem Sm.free {p : Addr} {H H' : Hp} {o : HO} (e : Sm p H H') (hp : H' p = some o) {l : Addr} (h : H' l = Option.none) : H l = Option.none := by
  by_cases q : l = p
  · subst q; rw [hp] at h; cases h
  · cases z : H l with
    | none => rfl
    | some o' => rw [e l o' q z] at h; cases h
theorem same_new {H : Hp} {p : Addr} {o : HO} (h : H p = none) : Same H (upd H p o) := fun b x e => by
  rw [upd_ne (ne_of_none e h)]; exact e
theorem Same.new {H H1 : Hp} {p : Addr} {o : HO} (x : Same H H1) (h : H1 p = none) : Same H (upd H1 p o) := x.trans (same_new h)
theorem Same.seqT {K : PySem.W.Frag} {H H' : Hp} {a : Addr} {xs : List V} (e : Same H H') (h : SqT K H a xs) : SqT K H' a xs := by
  rcases h with (h | ⟨o, h⟩) | h
  · exact .inl (.inl (e _ _ h))
  · exact .inl (.inr ⟨o, e _ _ h⟩)
  · exact .inr h
theorem Sm.seq {K : PySem.W.Frag} {p : Addr} {H H' : Hp} {a : Addr} {xs : List V} (e : Sm p H H') (n : a ≠ p) (h : SqL K H a xs) : SqL K H' a xs := by
  rcases h with (h | ⟨o, h⟩) | h
  · exact .inl (.inl (e _ _ n h))
  · exact .inl (.inr ⟨o, e _ _ n h⟩)
  · exact .inr h
theorem Sm.seqT {K : PySem.W.Frag} {p : Addr} {H H' : Hp} {a : Addr} {xs : List V} (e : Sm p H H') (n : a ≠ p) (h : SqT K H a xs) : SqT K H' a xs := by
  rcases h with (h | ⟨o, h⟩) | h
  · exact .inl (.inl (e _ _ n h))
  · exact .inl (.inr ⟨o, e _ _ n h⟩)
  · exact .inr h

/-- a text that data may hold -/
abbrev Sok (x : Str) : Prop := x.length ≤ 100000 ∧ PyData.strOk x = true
/-! ### data (apart from the object p): None, bools, ints, texts, lists, tuples, dicts with int and text keys -/
mutual
inductive Dn (K : PySem.W.Frag) (p : Addr) (H : Hp) : V → PyData → Prop
  | non : Dn K p H .non .none
  | bl (b : Bool) : Dn K p H (.bl b) (.bool b)
  | int (i : Int) : Dn K p H (.int i) (.int i)
  | str (x : Str) : Sok x → Dn K p H (.str x) (.str x)
  | lst {a : Addr} {xs : List V} {ds : List PyData} : a ≠ p → SqL K H a xs → DnAll K p H xs ds → Dn K p H (.ref a) (.list ds)
  | tup {a : Addr} {xs : List V} {ds : List PyData} : SqT K H a xs → DnAll K p H xs ds → Dn K p H (.ref a) (.tuple ds)
  | dic {a : Addr} {kvs : List (Key × V)} {ks vs : List PyData} : H a = some (.dK kvs) → DnAll K p H (kvs.map fun q => kV q.1) ks → DnAll K p H (kvs.map (·.2)) vs → Dn K p H (.ref a) (.dict (ks.zip vs))
inductive DnAll (K : PySem.W.Frag) (p : Addr) (H : Hp) : List V → List PyData → Prop
  | nil : DnAll K p H [] []
  | cons {v : V} {vs : List V} {d : PyData} {ds : List PyData} : Dn K p H v d → DnAll K p H vs ds → DnAll K p H (v :: vs) (d :: ds)
end
section
variable {K : PySem.W.Frag} {p : Addr} {H H' : Hp}
theorem DnAll.length : ∀ {vs : List V} {ds : List PyData}, DnAll K p H vs ds → vs.length = ds.length
  | _, _, .nil => rfl
  | _, _, .cons _ t => by rw [List.length_cons, List.length_cons, DnAll.length t]
theorem DnAll.get : ∀ {vs : List V} {ds : List PyData} {i : Nat} {v : V}, DnAll K p H vs ds → vs[i]? = some v → ∃ d, ds[i]? = some d ∧ Dn K p H v d
  | _, _, _, _, .nil, e => by simp at e
  | _, _, 0, _, .cons r _, e => by simp at e; subst e; exact ⟨_, rfl, r⟩
  | _, _, i + 1, v, .cons _ t, e => by
    obtain ⟨u, h1, h2⟩ := DnAll.get (i := i) (v := v) t (by simpa using e)
    exact ⟨u, by simpa using h1, h2⟩
theorem DnAll.getD : ∀ {vs : List V} {ds : List PyData} {i : Nat} {d : PyData}, DnAll K p H vs ds → ds[i]? = some d → ∃ v, vs[i]? = some v ∧ Dn K p H v d
  | _, _, _, _, .nil, e => by simp at e
  | _, _, 0, _, .cons r _, e => by simp at e; subst e; exact ⟨_, rfl, r⟩
  | _, _, i + 1, v, .cons _ t, e => by
    obtain ⟨u, h1, h2⟩ := DnAll.getD (i := i) (d := v) t (by simpa using e)
    exact ⟨u, by simpa using h1, h2⟩
theorem DnAll.append : ∀ {vs us : List V} {ds es : List PyData}, DnAll K p H vs ds → DnAll K p H us es → DnAll K p H (vs ++ us) (ds ++ es)
  | _, _, _, _, .nil, s => s
  | _, _, _, _, .cons r t, s => .cons r (DnAll.append t s)
theorem DnAll.take : ∀ {vs : List V} {ds : List PyData} (n : Nat), DnAll K p H vs ds → DnAll K p H (vs.take n) (ds.take n)
  | _, _, 0, _ => .nil
  | _, _, _ + 1, .nil => .nil
  | _, _, n + 1, .cons r t => .cons r (DnAll.take n t)
theorem DnAll.drop : ∀ {vs : List V} {ds : List PyData} (n : Nat), DnAll K p H vs ds → DnAll K p H (vs.drop n) (ds.drop n)
  | _, _, 0, r => r
  | _, _, _ + 1, .nil => .nil
  | _, _, n + 1, .cons _ t => DnAll.drop n t
/-- p is a list -/
def Pl (H : Hp) (p : Addr) : Prop := ∃ l, H p = some (.lst l)
theorem Pl.same {H H' : Hp} {p : Addr} (h : Pl H p) (e : Same H H') : Pl H' p := h.elim fun l q => ⟨l, e _ _ q⟩
theorem Sm.tup {K : PySem.W.Frag} {p : Addr} {H H' : Hp} {a : Addr} {xs : List V} (e : Sm p H H') (hp : Pl H p) (h : SqT K H a xs) : SqT K H' a xs := by
  obtain ⟨l, hp⟩ := hp
  rcases h with (h | ⟨o, h⟩) | h
  · exact .inl (.inl (e _ _ (by rintro rfl; rw [hp] at h; cases h) h))
  · exact .inl (.inr ⟨o, e _ _ (by rintro rfl; rw [hp] at h; cases h) h⟩)
  · exact .inr h
theorem Sm.dic {p : Addr} {H H' : Hp} {a : Addr} {kvs : List (Key × V)} (e : Sm p H H') (hp : Pl H p) (h : H a = some (.dK kvs)) : H' a = some (.dK kvs) := by
  obtain ⟨l, hp⟩ := hp
  exact e _ _ (by rintro rfl; rw [hp] at h; cases h) h
mutual
theorem Dn.sm (e : Sm p H H') (hp : Pl H p) : ∀ {v : V} {d : PyData}, Dn K p H v d → Dn K p H' v d
  | _, _, .non => .non
  | _, _, .bl b => .bl b
  | _, _, .int i => .int i
  | _, _, .str x h => .str x h
  | _, _, .lst n h a => .lst n (e.seq n h) (DnAll.sm e hp a)
  | _, _, .tup h a => .tup (e.tup hp h) (DnAll.sm e hp a)
  | _, _, .dic h a b => .dic (e.dic hp h) (DnAll.sm e hp a) (DnAll.sm e hp b)
theorem DnAll.sm (e : Sm p H H') (hp : Pl H p) : ∀ {vs : List V} {ds : List PyData}, DnAll K p H vs ds → DnAll K p H' vs ds
  | _, _, .nil => .nil
  | _, _, .cons r t => .cons (Dn.sm e hp r) (DnAll.sm e hp t)
end
mutual
theorem Dn.same (e : Same H H') : ∀ {v : V} {d : PyData}, Dn K p H v d → Dn K p H' v d
  | _, _, .non => .non
  | _, _, .bl b => .bl b
  | _, _, .int i => .int i
  | _, _, .str x h => .str x h
  | _, _, .lst n h a => .lst n (e.seq h) (DnAll.same e a)
  | _, _, .tup h a => .tup (e.seqT h) (DnAll.same e a)
  | _, _, .dic h a b => .dic (e _ _ h) (DnAll.same e a) (DnAll.same e b)
theorem DnAll.same (e : Same H H') : ∀ {vs : List V} {ds : List PyData}, DnAll K p H vs ds → DnAll K p H' vs ds
  | _, _, .nil => .nil
  | _, _, .cons r t => .cons (Dn.same e r) (DnAll.same e t)
end
theorem Dn.of_int {v : V} {i : Int} (h : Dn K p H v (.int i)) : v = .int i := by cases h; rfl
theorem Dn.of_str {v : V} {x : Str} (h : Dn K p H v (.str x)) : v = .str x := by cases h; rfl
theorem Dn.of_tup {v : V} {ds : List PyData} (h : Dn K p H v (.tuple ds)) : ∃ a xs, v = .ref a ∧ SqT K H a xs ∧ DnAll K p H xs ds := by
  cases h with
  | tup h a => exact ⟨_, _, rfl, h, a⟩
end
section
variable {X : Cx} {pins : List (Addr × Obj)} {σ : St} {H : Hp} {s : Shared} {p : Addr}
mutual
/-- data without dicts is read -/
theorem Dn.reads (I : Inv X pins σ H s) : ∀ (d : PyData) (v : V) (u : Value), d.hasDict = false → Dn X.K p H v d → RelV v u → ∃ as, Reads s.heap u d as
  | .none, _, _, _, h, r => by
    cases h
    cases r
    exact ⟨_, Reads.none⟩
  | .bool b, _, _, _, h, r => by
    cases h
    cases r
    exact ⟨_, Reads.bool b⟩
  | .int i, _, _, _, h, r => by
    cases h
    obtain ⟨t, rfl⟩ := r
    exact ⟨_, Reads.int i t⟩
  | .str x, _, _, _, h, r => by
    cases h
    obtain ⟨t, rfl⟩ := r
    exact ⟨_, Reads.str x t⟩
  | .list ds, _, _, z, h, r => by
    cases h with
    | lst _ hs ha =>
      cases r
      obtain ⟨its, rv, ⟨o, n, ho, hc, _, hd⟩, _⟩ := I.list hs
      obtain ⟨as, hr⟩ := Dn.readsAll I ds _ its (by simpa only [PyData.hasDict] using z) ha rv
      exact ⟨_, Reads.list ho hc hd hr⟩
  | .tuple ds, _, _, z, h, r => by
    cases h with
    | tup hs ha =>
      cases r
      obtain ⟨its, rv, ⟨o, ho, hc, n, hd⟩, _⟩ := I.tuple hs
      obtain ⟨as, hr⟩ := Dn.readsAll I ds _ its (by simpa only [PyData.hasDict] using z) ha rv
      exact ⟨_, Reads.tuple ho hc hd hr⟩
  | .dict _, _, _, z, h, _ => by simp [PyData.hasDict] at z
theorem Dn.readsAll (I : Inv X pins σ H s) : ∀ (ds : List PyData) (vs : List V) (us : List Value), PyData.hasDictAll ds = false → DnAll X.K p H vs ds → Vals vs us → ∃ as, ReadsAll s.heap us ds as
  | [], _, _, _, h, r => by
    cases h
    cases r
    exact ⟨_, ReadsAll.nil⟩
  | d :: ds, _, _, z, h, r => by
    have z' : d.hasDict = false ∧ PyData.hasDictAll ds = false := by simpa [PyData.hasDictAll] using z
    cases h with
    | cons h1 h2 =>
      cases r with
      | cons r1 r2 =>
        obtain ⟨as, q1⟩ := Dn.reads I d _ _ z'.1 h1 r1
        obtain ⟨bs, q2⟩ := Dn.readsAll I ds _ _ z'.2 h2 r2
        exact ⟨_, ReadsAll.cons q1 q2⟩
end
/-- repr(x) of data in a list or a tuple -/
def rRepr (K : PySem.W.Frag) : List V → Hp → VK → Prop := fun xs H Q => ∃ (a p : Addr) (d : PyData), xs = [.ref a] ∧ Dn K p H (.ref a) d ∧ d.hasDict = false ∧ d.showable = true ∧ d.depth ≤ 60 ∧ d.shown.length ≤ sizeLine ∧ Q (.str d.shown) H
theorem call_repr (hg : X.A.guards = some []) (hu : X.A.units + 64 < cLine) : CallR X (.builtin "repr") (rRepr X.K) := by
  intro pins s σ H xs us Q I r h
  obtain ⟨a, p, d, rfl, hd, hn, hs, hdp, hl, q⟩ := h
  obtain ⟨u, rfl, r1⟩ := vals1 r
  cases r1
  obtain ⟨as, hr⟩ := Dn.reads I d _ _ hn hd rfl
  refine repr_of_reads' (h₀ := s.heap) hr hs (PyData.noDict_hsm hn) hg (by omega) (fun b o e => e) (fun h' u tk k => ?_) hl
  exact ⟨.str d.shown, H, I.kept (t' := tk) k, ⟨u, rfl⟩, q⟩
/-- == and != of data -/
def rEqN (K : PySem.W.Frag) : R2 := fun x y H Q => ∃ p d e, Dn K p H x d ∧ Dn K p H y e ∧ SeqAt.shaped d = true ∧ SeqAt.shaped e = true ∧ Q (.bl (PyData.eqv d e)) H
def rNeN (K : PySem.W.Frag) : R2 := fun x y H Q => ∃ p d e, Dn K p H x d ∧ Dn K p H y e ∧ SeqAt.shaped d = true ∧ SeqAt.shaped e = true ∧ Q (.bl (!PyData.eqv d e)) H
theorem nodict_of_shaped {d : PyData} (h : SeqAt.shaped d = true) : d.hasDict = false := PyData.hasDict_of_canLay d (SeqAt.canLay_of_shaped h)
theorem op_eqN (hu : X.A.units + 64 < cLine) : OpR X (compareOp .Eq) (rEqN X.K) := by
  intro pins s σ H x y v u Q I rx ry h
  obtain ⟨p, d, e, hd, he, sd, se, q⟩ := h
  obtain ⟨as, r1⟩ := Dn.reads I d x v (nodict_of_shaped sd) hd rx
  obtain ⟨bs, r2⟩ := Dn.reads I e y u (nodict_of_shaped se) he ry
  exact SeqAt.compareEq_shaped r1 r2 sd se hu ⟨.bl _, H, I, rfl, q⟩
theorem op_neN (hu : X.A.units + 64 < cLine) : OpR X (compareOp .NotEq) (rNeN X.K) := by
  intro pins s σ H x y v u Q I rx ry h
  obtain ⟨p, d, e, hd, he, sd, se, q⟩ := h
  obtain ⟨as, r1⟩ := Dn.reads I d x v (nodict_of_shaped sd) hd rx
  obtain ⟨bs, r2⟩ := Dn.reads I e y u (nodict_of_shaped se) he ry
  exact SeqAt.compareNe_shaped r1 r2 sd se hu ⟨.bl _, H, I, rfl, q⟩
/-- * of two ints that are not too big together -/
def CMulX (i j : Int) : Prop := Builtin.Int.intBits i + Builtin.Int.intBits j ≤ 100000000
theorem CMulX.ok {i j : Int} (h : CMulX i j) : IntMulOk i j := by
  have h3 : Builtin.Int.intBits i + Builtin.Int.intBits j ≤ 100000000 := h
  have e : bitsLine = 134217728 := by decide
  unfold IntMulOk
  intro z
  rw [Bool.and_eq_true] at z
  have z2 := z.2
  unfold Builtin.Int.intTooBig at z2
  have z3 := of_decide_eq_true z2
  rw [e] at z3
  omega
theorem op_mulX : OpR X (binaryOp .Mult) (rI CMulX fun i j => .int (i * j)) := opI fun _ _ _ _ _ _ _ hc q => mul_int q hc.ok
end
theorem bits_small {i : Int} {n : Nat} (h : i.natAbs < 2 ^ n) : Builtin.Int.intBits i ≤ n + 1 := by
  unfold Builtin.Int.intBits
  split
  · omega
  · rename_i z
    have hz : i.natAbs ≠ 0 := by
      intro e
      apply z
      have : i = 0 := by omega
      simp [this]
    have := (Nat.log2_lt hz).mpr h
    omega
theorem CMulX.small {i j : Int} (h : i.natAbs < 2 ^ 64) (h' : j.natAbs < 2 ^ 64) : CMulX i j := by
  have a := bits_small h
  have b := bits_small h'
  unfold CMulX
  omega
theorem CMulX.left {i j : Int} (h : Builtin.Int.intBits i ≤ 1048576) (h' : j.natAbs < 2 ^ 64) : CMulX i j := by
  have b := bits_small h'
  unfold CMulX
  omega
/-! ### method calls with keywords -/
/-- o.m(e, .., k = v, ..) -/
def tMethN (C : Addr) (m : Str) (n nk : Nat) (sp : Sp) (gV : List V → List V → List V) (E : XK) (ta : TE) (t tk : TA) : TE := fun σ H Q => ta σ H fun x H1 => ∃ a dx fs, x = .ref a ∧ H1 a = some (.ins C dx fs) ∧ fs.lookup m = none ∧
  t σ H1 fun vs H2 => tk σ H2 fun zs H3 => vs.length = n ∧ zs.length = nk ∧ sp (gV (.ref a :: vs) zs) H3 Q E
section
variable {X : Cx} {CX : CXT} {k n : Nat} {f C : Addr} {fd : FuncData} {ps ks : List Str} {sp : Sp} {E : XK} {m : Str} {p pos apos : Pos} {o e : Expr} {es : List Expr} {kws : List Keyword} {ta : TE} {t tk : TA} {g : List Value → List Value → List Value} {gV : List V → List V → List V} {pl : Sem Bool}
theorem pe_methK0 (he : PE X o ta) (c : Cls X.K C) (hm : Meth X.K C m f) (F : FnOk X.prog X.w X.K X.mg X.base CX k f fd ps sp) (hr : Room k X.A) (hb : KBn X.K fd ps 1 ks g gV) (hx : Passes CX X E) (hkw : PK X kws tk)
    (hall : (backToKw pos (keywordEach kws X.env)).all (·.1.isSome) = true := by rfl) (hks : (backToKw pos (keywordEach kws X.env)).filterMap (·.1) = ks := by rfl)
    (hpl : ((backTo pos (starEach [] X.env)).any (·.1) || (backToKw pos (keywordEach kws X.env)).any (·.1.isNone)) = false := by rfl)
    (ht : eval (.Call (.Attribute o m apos) [] kws pos) X.env = (do
      let ov ← eval o X.env
      standAt apos.atName
      let (f, first) ← holding [ov] (getMethod ov m pl)
      callWith pos f first (backTo pos (starEach [] X.env)) (backToKw pos (keywordEach kws X.env))) := by rfl) :
    PE X (.Call (.Attribute o m apos) [] kws pos) (tMethN C m 0 ks.length sp gV E ta tNil tk) := by
  refine ⟨fun pins s σ H Q I h => ?_⟩
  refine PySem.W.methodCall_KW (pl := pl) (thn (he.run pins s σ H _ I h) fun u s1 ⟨x, H1, I1, rx, a, dx, fs, ex, ea, l, q⟩ => ?_) ht
  subst ex
  obtain rfl : u = Value.ref a := rx
  refine getmeth_ok I1 ea c hm l ?_
  refine PySem.W.callWith_KW0 (first := [.ref a]) (h₀ := X.base) I.ok.mod.kin hm.kp hall ?_ hpl
  refine thn (hkw.run pos pins s1 σ H1 _ I1 q) fun ws s2 ⟨zs, H2, I2, rz, l1, l2, q2⟩ => ⟨I2.kIn, ?_⟩
  rw [hks]
  exact run_fnN (us := [.ref a]) (vs := [.ref a]) F hr hb hx I2 (.cons rfl .nil) rz rfl l2 q2
theorem pe_methK (he : PE X o ta) (c : Cls X.K C) (hm : Meth X.K C m f) (F : FnOk X.prog X.w X.K X.mg X.base CX k f fd ps sp) (hr : Room k X.A) (hb : KBn X.K fd ps (n + 1) ks g gV) (hx : Passes CX X E) (ha : PA X (e :: es) t) (hkw : PK X kws tk)
    (hall : (backToKw pos (keywordEach kws X.env)).all (·.1.isSome) = true := by rfl) (hks : (backToKw pos (keywordEach kws X.env)).filterMap (·.1) = ks := by rfl)
    (he' : starEach (e :: es) X.env = (false, eval e X.env) :: starEach es X.env := by rfl)
    (hpl : ((backTo pos (starEach (e :: es) X.env)).any (·.1) || (backToKw pos (keywordEach kws X.env)).any (·.1.isNone)) = false := by rfl)
    (ht : eval (.Call (.Attribute o m apos) (e :: es) kws pos) X.env = (do
      let ov ← eval o X.env
      standAt apos.atName
      let (f, first) ← holding [ov] (getMethod ov m pl)
      callWith pos f first (backTo pos (starEach (e :: es) X.env)) (backToKw pos (keywordEach kws X.env))) := by rfl) :
    PE X (.Call (.Attribute o m apos) (e :: es) kws pos) (tMethN C m n ks.length sp gV E ta t tk) := by
  refine ⟨fun pins s σ H Q I h => ?_⟩
  refine PySem.W.methodCall_KW (pl := pl) (thn (he.run pins s σ H _ I h) fun u s1 ⟨x, H1, I1, rx, a, dx, fs, ex, ea, l, q⟩ => ?_) ht
  subst ex
  obtain rfl : u = Value.ref a := rx
  refine getmeth_ok I1 ea c hm l ?_
  refine PySem.W.callWith_KW (first := [.ref a]) (h₀ := X.base) I.ok.mod.kin hm.kp hall (thn (ha.run pos pins s1 σ H1 _ I1 q) fun us s2 ⟨vs, H2, I2, r, q2⟩ => ?_) hpl he'
  refine thn (hkw.run pos pins s2 σ H2 _ I2 q2) fun ws s3 ⟨zs, H3, I3, rz, l1, l2, q3⟩ => ⟨I3.kIn, ?_⟩
  rw [hks]
  exact run_fnN (us := .ref a :: us) (vs := .ref a :: vs) F hr hb hx I3 (.cons rfl r) rz (congrArg Nat.succ l1) l2 q3
end
end L2

namespace L2
open PySem PySem.Spec PyProof.Rows
/-! ### promises that hold where no repr is under way -/
structure FnG (P : Program) (w : World) (K : PySem.W.Frag) (mg : Str → Option Value) (base : Heap) (CX : CXT) (k : Nat) (f : Addr) (fd : FuncData) (ps : List Str) (sp : Sp) : Prop where
  size : ∀ vs H Q E, sp vs H Q E → vs.length = ps.length
  runs : ∀ (A : Around) (outer : List Env) (s : Shared) (H : Hp) (args : Args) (us : List Value) (vs : List V) (Q : VK) (E : XK),
    A.guards = some [] → Room k A → Env0 P w K mg base A outer s H → BindsTo s fd args (ps.zip us) → Vals vs us → sp vs H Q E →
    codeAny (model P w) A (.call (.ref f) args) (CR CX outer P w H s Q E) s
section
variable {P : Program} {w : World} {K : PySem.W.Frag} {mg : Str → Option Value} {base : Heap} {CX : CXT}
theorem FnG.more {j k : Nat} {f : Addr} {fd : FuncData} {ps : List Str} {sp : Sp} (F : FnG P w K mg base CX j f fd ps sp) (h : j ≤ k) : FnG P w K mg base CX k f fd ps sp :=
  ⟨F.size, fun A o s H args us vs Q E g r => F.runs A o s H args us vs Q E g (r.mono h)⟩
theorem FnG.of {k : Nat} {f : Addr} {fd : FuncData} {ps : List Str} {sp : Sp} (F : FnOk P w K mg base CX k f fd ps sp) : FnG P w K mg base CX k f fd ps sp :=
  ⟨F.len, fun A o s H args us vs Q E _ r => F.run A o s H args us vs Q E r⟩
/-- a def's body keeps it; in the body guards are known -/
theorem Fun.okG {x qual : Str} {st : Stmt} {f : Addr} {fd : FuncData} {N ps : List Str} {k : Nat} {sp : Sp} (F : Fun K x qual st f fd) (S : FnScope N ps (defScope st)) (len : ∀ vs H Q E, sp vs H Q E → vs.length = ps.length)
    (body : ∀ (cdv : Value) (A : Around) (outer : List Env) (s : Shared) (H : Hp) (vs : List V) (Q : VK) (E : XK), A.guards = some [] → Room k (A.deeper (envOfC qual (defScope st) s.heap.objs.size f cdv)) → sp vs H Q E →
      ∃ t, PSs (cxOf CX P w K mg base N qual (defScope st) f cdv A outer s H E) (defBody st) t ∧ t { nx := fun _ H' => Q .non H', rt := Q } (start N vs) H) : FnG P w K mg base CX (k + 1) f fd ps sp := by
  obtain ⟨oc, od, kV, doc, pm, an, cdv, ct, osl, rfl, lk, hcd⟩ := F.ex
  refine ⟨len, fun A outer s H args us vs Q E hg hr e0 hb r hsp => ?_⟩
  have KX : K.In s.heap := e0.mod.kin.keeps fun b o e => (e0.bs b o e).1
  have lim : s.heap.NoLimit := e0.mod.nolimit.keeps fun b o e => (e0.bs b o e).1
  have hk : ∀ y ∈ ps.zip us, (defScope st).names.lookup y.1 = some .local ∨ ((defScope st).names.lookup y.1 = some .cell ∧ ((cellsFrom (s.heap.objs.size + 1) (defScope st).names []).lookup y.1).isSome = true) := by
    rintro ⟨n, v⟩ hy
    exact (S.par n (List.of_mem_zip hy).1).elim .inl fun q => .inr ⟨q, PySem.W.cellsFrom_some _ _ _ (.inl q)⟩
  refine codeAny_call_function hr.depth (KX _ _ lk) rfl S.co S.gen rfl (PySem.W.codeRec_of KX hcd) (hb _ _ _ _ (wpAny_newFunctionEnv_cells S.kind hk fun env he s1 x => ?_))
  subst he
  obtain ⟨t, ht, hq⟩ := body cdv A outer s H vs Q E hg (hr.deeper _) hsp
  have I := inv_start (CX := CX) (E := E) S hr.hd e0 (len _ _ _ _ hsp) r x
  refine ⟨lim.keeps x.toInCall.keep, codeAny_func (wpAny_mono (ht.run [] s1 (start N vs) H _ I hq) (fun fl s' hs => ?_) fun e s' hs => hs)⟩
  cases fl
  case ret u =>
    obtain ⟨v, σ', H', J, rv, q⟩ := hs
    exact ⟨v, H', J.os, J.bare, J.base, J.hok, rv, q⟩
  case next =>
    obtain ⟨σ', H', J, q⟩ := hs
    exact ⟨V.non, H', J.os, J.bare, J.base, J.hok, rfl, q⟩
  case brk => exact hs.elim fun _ z => z.elim fun _ z => z.2.elim
  case cont => exact hs.elim fun _ z => z.elim fun _ z => z.2.elim
end
section
variable {X : Cx} {CX : CXT} {k : Nat} {f : Addr} {fd : FuncData} {ps : List Str} {sp : Sp} {dvs : List V} {ds : List Value} {E : XK} {x : Str} {p pos : Pos} {e : Expr} {es : List Expr} {t : TA}
theorem pe_callG (hgd : X.A.guards = some []) (F : FnG X.prog X.w X.K X.mg X.base CX k f fd ps sp) (hr : Room k X.A) (hg : Gl X x) (hm : X.mg x = some (.ref f)) (hk : PySem.W.keepIn X.K (.ref f) = true) (hb : Binds X.K fd ps ds) (hd : Vals dvs ds) (hx : Passes CX X E)
    (ha : PA X (e :: es) t) (hdb : (x == ("__debug__" : Str)) = false := by decide) (he : starEach (e :: es) X.env = (false, eval e X.env) :: starEach es X.env := by rfl)
    (hpl : (backTo pos (starEach es X.env)).any (·.1) = false := by rfl) : PE X (.Call (.Name x p) (e :: es) [] pos) (tCall sp dvs E t) := by
  refine ⟨fun pins s σ H Q I h => wpAny_Call_Name_kw (ld_glob I hg hm ?_ hdb)⟩
  refine PySem.W.callWith_K (h₀ := X.base) I.ok.mod.kin hk (thn (ha.run pos pins s σ H _ I h) fun us s1 ⟨vs, H1, I1, r, q⟩ => ⟨I1.kIn, ?_⟩) he hpl
  have r2 := r.append hd
  have hl : (us ++ ds).length = ps.length := r2.length.symm.trans (F.size _ _ _ _ q)
  refine wpAny_call (codeAny_mono (F.runs X.A X.stack s1 H1 ⟨us, []⟩ _ _ Q E hgd hr I1.env0 (hb s1 us I1.kIn hl) r2 q) fun r s' hq => ?_)
  cases r
  case error e => exact hx pins σ H1 s1 e s' I1 hq
  case ok fl =>
    cases fl
    case ret u => exact I1.after hq
    all_goals exact hq.elim
end
/-! ### the end -/
theorem law_callG {P : Program} {w : World} {K : PySem.W.Frag} {mg mb : Str → Option Value} {CX : CXT} {k : Nat} {fa a : Addr} {fd : FuncData} {x : Str} {sp : Sp} {s₁ : Shared} {vs : List Value} {ns : List Int}
    (KX : K.In s₁.heap) (hns : s₁.heap.Ns mainGlobals mg) (hb : s₁.heap.Ns builtinsNs mb) (hbb : ∀ x : Str, x ≠ "__name__" → mb x = bootBuiltins x) (hlim : s₁.heap.NoLimit) (hg : s₁.gens = #[])
    (ha : s₁.heap.get? a = some { cls := .type "list", data := .seq vs.toArray }) (hi : IntsAre vs ns) (hl : ns.length ≤ sizeLine) (hr : Room k callerA)
    (F : ∀ base : Heap, K.In base → base.Ns mainGlobals mg → FnG P w K mg base CX k fa fd [x] sp) (hbind : ∀ (s : Shared) (u : Value), BindsTo s fd ⟨[u], []⟩ [(x, u)])
    (hsp : ∀ H : Hp, Only H → SqL K H a (ns.map V.int) → sp [.ref a] H (fun v _ => v = .bl true) fun _ _ _ => False)
    (hCX : ∀ H e s', CX [] H s₁ (fun _ _ _ => False) e s' → False) :
    codeAny (model P w) callerA (.call (.ref fa) ⟨[.ref a], []⟩) (fun r s' => r = .ok (.ret (.bool true)) ∧ OldK s₁.heap s'.heap ∧ s'.os = s₁.os ∧ AllBare s'.gens) s₁ := by
  have rv := vals_ints hi
  have lenV := hi.length
  -- H tracks nothing, or the script alone
  have core : ∀ H : Hp, Only H → SqL K H a (ns.map V.int) → HOk P w H s₁.heap → (∀ b, H b ≠ none → b = a ∧ K.lookup a = none) →
      codeAny (model P w) callerA (.call (.ref fa) ⟨[.ref a], []⟩) (fun r s' => r = .ok (.ret (.bool true)) ∧ OldK s₁.heap s'.heap ∧ s'.os = s₁.os ∧ AllBare s'.gens) s₁ := by
    intro H hO hS hok hA
    have free : ∀ {b : Addr} {o : Obj}, s₁.heap.get? b = some o → (∀ l, o.data ≠ .seq vs.toArray l) → H b = none := fun {b o} e d => by
      cases q : H b with
      | none => rfl
      | some u =>
        obtain ⟨rfl, _⟩ := hA b (by rw [q]; exact Option.some_ne_none _)
        rw [ha] at e
        cases e
        exact absurd rfl (d _)
    have nsK : ∀ {b : Addr} {m : Str → Option Value}, s₁.heap.Ns b m → (hidT s₁.heap H).Ns b m := fun ⟨o, es, ep, e, d, r⟩ => ⟨o, es, ep, hidT_get e (free e fun l z => by rw [d] at z; cases z), d, r⟩
    have hKb : K.In (hidT s₁.heap H) := fun b o e => hidT_get (KX b o e) (by
      cases q : H b with
      | none => rfl
      | some u =>
        obtain ⟨rfl, z⟩ := hA b (by rw [q]; exact Option.some_ne_none _)
        rw [z] at e
        cases e)
    have hM : Mod K mg (hidT s₁.heap H) := ⟨hKb, nsK hns, ⟨mb, nsK hb, hbb⟩, hlim.elim fun mc h => ⟨mc, nsK h.1, h.2⟩⟩
    have e0 : Env0 P w K mg (hidT s₁.heap H) callerA [] s₁ H := ⟨rfl, hM, fun b o e => of_hidT e, Nat.le_of_eq (hidT_size _ _), trivial, fun b hb => absurd (show b ∈ ([] : List Addr) from hb) (by simp), hok, .of_eq hg⟩
    refine codeAny_mono ((F _ hKb (nsK hns)).runs callerA [] s₁ H ⟨[.ref a], []⟩ [.ref a] [.ref a] _ _ rfl hr e0 (hbind s₁ (.ref a)) (.cons rfl .nil) (hsp H hO hS)) fun r s' h => ?_
    cases r
    case error e => exact (hCX H e s' h).elim
    case ok fl =>
      cases fl
      case ret u =>
        obtain ⟨v, H', os, bare, un, hok', r', q⟩ := h
        obtain rfl : v = .bl true := q
        obtain rfl : u = Value.bool true := r'
        refine ⟨rfl, OldK.of_keep fun b o e => ?_, os, bare⟩
        rcases hO b with q | ⟨ob, xs, q⟩
        · exact un.keep b o e q (fun z => absurd (show b ∈ ([] : List Addr) from z) (by simp)) (by simp)
        · obtain ⟨e1, _⟩ := hok b _ q
          obtain ⟨e2, _⟩ := hok' b _ (un.frzs b ob _ q)
          rw [e] at e1
          cases e1
          exact e2
      all_goals exact h.elim
  cases hk : K.lookup a with
  | some o =>
    have e := KX a o hk
    rw [ha] at e
    cases e
    exact core (fun _ => none) (fun _ => .inl rfl) (.inr ⟨_, vs.toArray, _, hk, rfl, rfl, rfl, by rw [List.size_toArray, lenV]; exact hl, by simpa using rv⟩) (fun b u z => by cases (show (none : Option HO) = some u from z)) fun b z => absurd rfl z
  | none =>
    have at_ : ∀ b, (fun b => if b = a then some (HO.frz { cls := .type "list", data := .seq vs.toArray } (.lst (ns.map V.int))) else none) b ≠ none → b = a := fun b z => by
      by_cases q : b = a
      · exact q
      · exact absurd (if_neg q) z
    refine core (fun b => if b = a then some (.frz { cls := .type "list", data := .seq vs.toArray } (.lst (ns.map V.int))) else none) (fun b => ?_) (.inl (.inr ⟨{ cls := .type "list", data := .seq vs.toArray }, if_pos rfl⟩)) (fun b u z => ?_) fun b z => ⟨at_ b z, hk⟩
    · by_cases q : b = a
      · exact .inr ⟨_, _, if_pos q⟩
      · exact .inl (if_neg q)
    · have q : b = a := at_ b (by rw [z]; exact Option.some_ne_none _)
      subst q
      have z' := (if_pos rfl).symm.trans z
      cases z'
      exact ⟨ha, by rw [List.length_map]; exact hl, vs, _, rv, ha⟩
theorem walk_ofG {l : PySem.W.OpenLaw} {n k : Nat} {q : Program} {loose : List Str} {XP : (Str → Option Value) → Heap → Prop} {YP : World → Heap → Prop} {d : DefRec} {K : Params → PySem.W.Frag} {CX : World → CXT} {sp : World → Sp} {x : Str}
    (hn : l.most = some n) (hn2 : n ≤ sizeLine) (hdf : d.params.defaults = []) (hr : Room k callerA)
    (hY : ∀ (w : World) (h : Heap), YP w h → (K w.params).In h)
    (F : ∀ (w : World) (mg : Str → Option Value) (fa : Addr) (h : Heap), (K w.params).In h → h.Ns mainGlobals mg → mg d.name = some (.ref fa) →
      ∃ fd : FuncData, (∀ (s : Shared) (u : Value), BindsTo s fd ⟨[u], []⟩ [(x, u)]) ∧
        ∀ base : Heap, (K w.params).In base → base.Ns mainGlobals mg → FnG l.prog w (K w.params) mg base (CX w) k fa fd [x] (sp w))
    (hsp : ∀ (w : World) (H : Hp) (a : Addr) (ns : List Int), ns.length ≤ n → (∀ z ∈ ns, Builtin.Int.intBits z ≤ 1048576) → Only H → SqL (K w.params) H a (ns.map V.int) → sp w [.ref a] H (fun v _ => v = .bl true) fun _ _ _ => False)
    (hCX : ∀ (w : World) (H : Hp) (s : Shared) (e : Value) (s' : Shared), CX w [] H s (fun _ _ _ => False) e s' → False) :
    PySem.W.WalkO q loose XP YP l.row.toRowW d [] (fun f vs => PySem.call f vs) := by
  refine Att.attach_callB hn hdf fun w s₀ s₁ mg mb fa o pm cd doc a vs ns G Y ho hd hcd hmg hobj hints hlen hbits hg => ?_
  obtain ⟨fd, hb, hF⟩ := F w mg fa _ (hY w _ Y) G.T.g hmg
  exact law_callG (hY w _ Y) G.T.g G.T.b G.T.builtins G.T.nolimit hg hobj hints (Nat.le_trans hlen hn2) hr hF hb (fun H hO hS => hsp w H a ns hlen hbits hO hS) fun H e s' => hCX w H s₁ e s'
end L2
namespace L2
open PySem PySem.Spec PyProof.Rows
/-! ### what the top has left of one def -/
/-- a def of the module -/
structure Df (K : PySem.W.Frag) (mg : Str → Option Value) (x : Str) (st : Stmt) (ps : List Str) where
  f : Addr
  fd : FuncData
  F : Fun K x x st f fd
  g : mg x = some (.ref f)
  b : Binds K fd ps []
/-- a method without defaults -/
structure Dm (K : PySem.W.Frag) (C : Addr) (x qual : Str) (st : Stmt) (ps : List Str) where
  f : Addr
  fd : FuncData
  F : Fun K x qual st f fd
  m : Meth K C x f
  b : Binds K fd ps []
/-- a method whose last parameter has the default v -/
structure Dd (K : PySem.W.Frag) (C : Addr) (x qual : Str) (st : Stmt) (ps : List Str) (v : V) where
  f : Addr
  fd : FuncData
  F : FunD K x qual (defArgs st) (defBody st) (defScope st) [v] [] f fd
  m : Meth K C x f
  b : Binds K fd ps []
  b1 : ∃ ds, Vals [v] ds ∧ Binds K fd ps ds
/-- a property -/
structure Dp' (K : PySem.W.Frag) (C : Addr) (x qual : Str) (st : Stmt) where
  f : Addr
  fd : FuncData
  F : Fun K x qual st f fd
  p : Addr
  P : PropOf K C x p f
  b : Binds K fd ["self"] []
/-- a constant -/
structure Ci (mg : Str → Option Value) (x : Str) (n : Int) where
  t : Tok
  g : mg x = some (.int n t)
structure Cs (mg : Str → Option Value) (x : Str) (z : Str) where
  t : Tok
  g : mg x = some (.str z t)
structure Ct (K : PySem.W.Frag) (mg : Str → Option Value) (x : Str) (vs : List V) where
  a : Addr
  g : mg x = some (.ref a)
  q : ∀ H : Hp, SqT K H a vs
end L2

namespace L2
open PySem PySem.Spec PyProof.Rows
/-! ### a purse: three ints in a list -/
def Pu (m : Nat) (H : Hp) (p : Addr) : Prop := ∃ d s c : Int, H p = some (.lst [.int d, .int s, .int c]) ∧ Builtin.Int.intBits d ≤ 1048576 ∧ 0 ≤ s ∧ s < 2147483648 ∧ 0 ≤ c ∧ c + (m : Int) ≤ 1000000000
theorem Pu.mono {m n : Nat} {H : Hp} {p : Addr} (h : Pu m H p) (k : n ≤ m) : Pu n H p := by
  obtain ⟨d, s, c, e, a, b, f, g, i⟩ := h
  exact ⟨d, s, c, e, a, b, f, g, by omega⟩
theorem Pu.same {m : Nat} {H H' : Hp} {p : Addr} (h : Pu m H p) (e : Same H H') : Pu m H' p := by
  obtain ⟨d, s, c, q, r⟩ := h
  exact ⟨d, s, c, e _ _ q, r⟩
theorem Pu.ne {m : Nat} {H : Hp} {p q : Addr} (h : Pu m H p) (e : H q = none) : q ≠ p := by
  obtain ⟨d, s, c, z, _⟩ := h
  intro x; subst x; rw [z] at e; cases e
theorem Pu.free {m : Nat} {H H' : Hp} {p q : Addr} (h : Pu m H' p) (e : Sm p H H') (z : H' q = none) : H q = none := by
  obtain ⟨d, s, c, k, _⟩ := h
  exact e.free k z
theorem bits_mono {i j : Int} (h : i.natAbs ≤ j.natAbs) : Builtin.Int.intBits i ≤ Builtin.Int.intBits j := by
  unfold Builtin.Int.intBits
  by_cases hi : i = 0
  · simp [hi]
  · have hj : j ≠ 0 := by omega
    simp only [beq_iff_eq, hi, hj, if_false]
    have a : i.natAbs ≠ 0 := by omega
    have b : j.natAbs ≠ 0 := by omega
    have : 2 ^ i.natAbs.log2 ≤ j.natAbs := Nat.le_trans (Nat.log2_self_le a) h
    have := (Nat.le_log2 b).mpr this
    omega
theorem bits_div {d n : Int} (hd : 0 ≤ d) (hn : 0 < n) : Builtin.Int.intBits (d / n) ≤ Builtin.Int.intBits d := by
  refine bits_mono ?_
  have h1 : 0 ≤ d / n := Int.ediv_nonneg hd (by omega)
  have h2 : d / n ≤ d := Int.ediv_le_self n hd
  omega
def spDraw : Sp := fun vs H Q _ => ∃ (p : Addr) (n : Int) (m : Nat), vs = [.ref p, .int n] ∧ Pu (m + 1) H p ∧ 0 < n ∧ n < 1073741824 ∧ ∀ i H', 0 ≤ i → i < n → Sm p H H' → Pu m H' p → Q (.int i) H'
end L2

namespace PySem
open Sem (wp)
open AutoSeq1 (wpAny_loadPart')
/-! ### enumerate(t), t a tuple -/
theorem my_enum_meets (l : Addr) (items : Array Value) (n : Nat) (dct : Option Addr) (sl : Array (Option Value)) :
    Meets (Builtin.«enumerate.__new__» ⟨[.type "enumerate", .ref l], []⟩) (fun _ R s => s.heap.get? l = some { cls := .type "tuple", dict := dct, data := .seq items n, slots := sl } ∧
      R (.ok (.ret (.ref (s.heap.push { cls := .type "tuple_iterator", data := .fields #[.ref l, .int 0 0] }).objs.size)))
        { s with heap := (s.heap.push { cls := .type "tuple_iterator", data := .fields #[.ref l, .int 0 0] }).push { cls := .type "enumerate", data := .fields #[.none, .bool false, .ref s.heap.objs.size, rawInt 0, .none, .none] } }) := by
  refine .of_wp fun prog w A R s h => ?_
  obtain ⟨hp, g, d, tk, os⟩ := s
  obtain ⟨hl, h⟩ := h
  have hsub := sub_enumerate
  have hL : Heap.IsTuple (Shared.heap ⟨hp, g, d, tk, os⟩) l items := ⟨_, hl, rfl, n, rfl⟩
  wp_walk using wpAny_loadPart' hl
  refine wpAny_stack_any fun st => wpAny_pure ?_
  split
  · rename_i c _ _ _ _ _
    cases (c == Value.type "enumerate") <;> (wp_walk using wpAny_loadPart' hl, wpAny_pyIter_tuple hL; exact ⟨_, rfl, h⟩)
  · wp_walk using wpAny_loadPart' hl, wpAny_pyIter_tuple hL
    exact ⟨_, rfl, h⟩
theorem my_enum_tuple {prog : Program} {w : World} {A : Around} {E : Value → Shared → Prop} {s : Shared} {l : Addr} {items : Array Value} {Q : Value → Shared → Prop} (hL : s.heap.IsTuple l items)
    (h : ∀ h', IsEnum h' (s.heap.objs.size + 1) s.heap.objs.size 0 .none → h'.IsTupleIter s.heap.objs.size l 0 → h'.objs.size = s.heap.objs.size + 2 →
      (∀ b o, s.heap.get? b = some o → h'.get? b = some o) → Q (.ref (s.heap.objs.size + 1)) { s with heap := h' }) :
    wpAny (model prog w) A (call (.type "enumerate") [.ref l]) Q E s := by
  obtain ⟨⟨c, dct, dt, sl⟩, hl, hc, n, hd⟩ := hL
  obtain rfl : c = .type "tuple" := hc
  obtain rfl : dt = .seq items n := hd
  have z : (s.heap.push { cls := .type "tuple_iterator", data := .fields #[.ref l, .int 0 0] }).objs.size = s.heap.objs.size + 1 := Heap.size_push ..
  refine callType_new F.called_enumerate (by decide) (F.typeCall_enumerate_1 _) (F.newCall_enumerate_1 _) (fun obj => F.args_object_init_2 obj _) F.entry_enumerate_new (my_enum_meets l items n dct sl) ⟨hl, ?_⟩
  show _ ∧ _
  rw [z]
  have he : IsEnum ((s.heap.push { cls := .type "tuple_iterator", data := .fields #[.ref l, .int 0 0] }).push { cls := .type "enumerate", data := .fields #[.none, .bool false, .ref s.heap.objs.size, rawInt 0, .none, .none] }) (s.heap.objs.size + 1) s.heap.objs.size 0 .none := by
    have q := Heap.get?_push_size (s.heap.push { cls := .type "tuple_iterator", data := .fields #[.ref l, .int 0 0] }) (o := { cls := .type "enumerate", data := .fields #[.none, .bool false, .ref s.heap.objs.size, rawInt 0, .none, .none] }) rfl
    rw [z] at q
    exact q
  exact ⟨⟨_, he, rfl⟩, h _ he ⟨_, Heap.get?_push_of_some _ (Heap.get?_push_size _ rfl), rfl, rfl⟩ (by rw [Heap.size_push, z]) fun b o x => Heap.get?_push_of_some _ (Heap.get?_push_of_some _ x)⟩
end PySem
namespace L2
open PySem PySem.Spec PyProof.Rows
/-- the tuple at a, each item in a new pair with its place -/
def IteT (K : PySem.W.Frag) (a : Addr) : It :=
  ⟨fun i H => ∃ (xs : List V) (x : V), SqT K H a xs ∧ xs[i]? = some x, fun i H v H' => ∃ T x, v = .ref T ∧ H T = none ∧ H' = upd H T (.tup [.int (i : Nat), x]) ∧ ∀ xs, SqT K H a xs → xs[i]? = some x, fun i H => ∃ xs : List V, SqT K H a xs ∧ xs.length ≤ i⟩
theorem my_turn_enum {P : Program} {w : World} {K : PySem.W.Frag} {elts : List Expr} {kk : Nat} {tpos : Pos} (a e it : Addr) (hne : e ≠ it) :
    Turn P w K (.Tuple elts kk tpos) (IteT K a) [e, it] e (fun i h => (∃ old, IsEnum h e it ((i : Nat) : Int) old) ∧ h.IsTupleIter it a i) := by
  have two : ∀ {b : Addr}, b ∈ [e, it] → b = e ∨ b = it := fun hb => by simpa using hb
  constructor
  case mem => simp
  case obj =>
    rintro i h ⟨⟨old, he⟩, o, ho, hc, hd⟩ b hb
    rcases two hb with z | z
    · rw [z]; exact ⟨_, he, fun v q => nomatch q⟩
    · rw [z]; exact ⟨o, ho, fun v q => by rw [hd] at q; cases q⟩
  case keep => exact fun i h h' ⟨⟨old, he⟩, hi⟩ k => ⟨⟨old, k e (by simp) _ he⟩, hi.at fun o q => k it (by simp) o q⟩
  case self => exact fun A i s Q E ⟨⟨_, he⟩, _⟩ h => wpAny_pyIter_enum he h
  case item =>
    intro X hP hw hK hc i pins s σ H E I hf st hg
    subst hP hw hK
    obtain ⟨⟨old, he⟩, hit⟩ := st
    obtain ⟨xs, x, hq, hx⟩ := hg
    obtain ⟨its, rv, p, hz⟩ := I.tuple hq
    obtain ⟨u, hu, ru⟩ := rv.get hx
    have hel : e < s.heap.objs.size := Heap.lt_size he
    have hil : it < s.heap.objs.size := by obtain ⟨_, q, _⟩ := hit; exact Heap.lt_size q
    have tn : a ≠ it := by
      rintro rfl
      obtain ⟨o1, q1, c1, _⟩ := hit
      obtain ⟨o2, q2, c2, _⟩ := p
      rw [q1] at q2; cases q2; rw [c1] at c2; simp at c2
    have te : a ≠ e := by
      rintro rfl
      obtain ⟨o2, q2, c2, _⟩ := p
      rw [he] at q2; cases q2; simp at c2
    have nef : e ∉ [it, a] := fun z => by
      rcases (show e = it ∨ e = a by simpa using z) with z | z
      · exact hne z
      · exact te z.symm
    have hlt : i < its.toArray.size := by
      have := (List.getElem?_eq_some_iff.mp hu).1
      simpa using this
    refine wpAny_pyNext_enum_itemD (Draws.tuple (prog := X.prog) (w := X.w) (A := X.A.in1) (I.ok.hd hc) it a tn its.toArray) he ⟨hit, p⟩ hlt hne nef fun v h' tk hv ho hst hT hsz hk => ?_
    obtain rfl : v = u := by
      have hu' : its.toArray[i]? = some u := by simpa using hu
      rw [hu'] at hv
      exact (Option.some.inj hv).symm
    refine ⟨_, rfl, wpAny_letOwnedTupleGo_enum (s := { s with heap := h', toks := tk + 1 }) ho fun h'' he' sb => ?_⟩
    have hT2 : h''.get? s.heap.objs.size = some { cls := .type "tuple", data := .seq #[.int i tk, v] } := (sb.2 _ (Nat.ne_of_gt hel)).trans hT
    have new : ObjOk X.prog X.w (upd H s.heap.objs.size (.tup [.int (i : Nat), x])) h'' s.heap.objs.size (.tup [.int (i : Nat), x]) :=
      ⟨by show 2 ≤ sizeLine; decide, [.int i tk, v], .cons ⟨_, rfl⟩ (.cons ru .nil), ⟨_, hT2, rfl, _, rfl⟩⟩
    have I1 : Inv X pins σ (upd H s.heap.objs.size (.tup [.int (i : Nat), x])) { s with heap := h'', toks := tk + 1 } :=
      I.turnedNew (ch := [e, it]) (fun b ob hb q => (sb.2 b (fun z => hb (by simp [z]))).trans (hk b ob (fun z => hb (by simp [z])) (fun z => hb (by simp [z])) q)) hf (Nat.le_refl _) new
    refine ⟨.ref s.heap.objs.size, _, I1, rfl, ⟨_, x, rfl, I.hok.fresh (Nat.le_refl _), rfl, fun ys hy => by rw [I.tuple_inj hy hq]; exact hx⟩, ⟨⟨v, ?_⟩, hst.1.at fun o q => (sb.2 it (Ne.symm hne)).trans q⟩, fun b hb => ?_⟩
    · have e1 : ((i + 1 : Nat) : Int) = (i : Int) + 1 := by omega
      rw [e1]; exact he'
    · have hb' : b < s.heap.objs.size := by
        rcases two hb with z | z
        · rw [z]; exact hel
        · rw [z]; exact hil
      rw [upd_ne (Nat.ne_of_lt hb')]
      exact (hf b hb).1
  case done =>
    intro X hP hw hK hc i pins s σ H E I hf st hg
    subst hP hw hK
    obtain ⟨⟨old, he⟩, hit⟩ := st
    obtain ⟨xs, hq, hx⟩ := hg
    obtain ⟨its, rv, p, hz⟩ := I.tuple hq
    obtain ⟨f0, f1, f2, f3, f4, f5⟩ := hf it (by simp)
    have hl := rv.length
    have D : Draws X.prog X.w X.A.in1 it [it, a] 0 (fun _ _ => False) (fun _ h => h.IsTupleIter it a i ∧ h.IsTuple a its.toArray) :=
      { live := fun _ _ st => let ⟨o, ho, _⟩ := st.1; ⟨o, ho⟩
        frame := fun _ _ _ st hk => ⟨st.1.at fun o e => hk it (by simp) o e, st.2.at fun o e => hk a (by simp) o e⟩
        item := fun j s Q E hj => absurd hj (Nat.not_lt_zero _)
        done := fun s Q E st hE => wpAny_nextOf_tuple_end (I.ok.hd hc) st.1 st.2 (by simp; omega) hE }
    exact wpAny_pyNext_enum_endD D he ⟨hit, p⟩ fun h' eb => ⟨rfl, I.turned (t' := s.toks) (fun b o hb q => eb b o hb q) f0 f1 f3 f4 f5⟩
def iEnumT (K : PySem.W.Frag) (ta : TA) : TI := fun σ H R => ta σ H fun vs H1 => ∃ a xs, vs = [.ref a] ∧ SqT K H1 a xs ∧ R (IteT K a) H1
theorem pi_enumT {X : Cx} {e : Expr} {ta : TA} {p pos tpos : Pos} {elts : List Expr} {kk : Nat} (hg : Gl X "enumerate") (hm : X.mg "enumerate" = none) (ha : PA X [e] ta) (hs : starEach [e] X.env = [(false, eval e X.env)] := by rfl) :
    PI X (.Tuple elts kk tpos) (.Call (.Name "enumerate" p) [e] [] pos) (iEnumT X.K ta) := by
  constructor
  intro pins s σ H R I h
  refine Call_ (ld_blt I hg hm boot_enumerate (PyProof.Rows.callWith_type1 (thn (ha.run pos pins s σ H _ I h) fun us s1 ⟨vs, H1, I1, r1, a, xs, ex, hq, q⟩ => ?_) hs rfl))
  subst ex
  obtain ⟨u, rfl, r⟩ := vals1 r1
  cases r
  obtain ⟨its, rv, p', hz⟩ := I1.tuple hq
  refine my_enum_tuple p' fun h' he hit hsz hk => wpAny_pyIter_enum he ?_
  have I2 : Inv X pins σ H1 { s1 with heap := h' } := I1.kept (t' := s1.toks) hk
  refine ⟨s1.heap.objs.size + 1, [s1.heap.objs.size + 1, s1.heap.objs.size], _, _, H1, rfl, I2, my_turn_enum a _ _ (Nat.succ_ne_self _), ⟨⟨.none, he⟩, hit⟩, fun b hb => ?_, q⟩
  have hle : s1.heap.objs.size ≤ b := by
    rcases (show b = s1.heap.objs.size + 1 ∨ b = s1.heap.objs.size by simpa using hb) with z | z
    · rw [z]; exact Nat.le_add_right _ _
    · rw [z]; exact Nat.le_refl _
  exact I1.fpOk hle (I1.hok.fresh hle)
theorem walk_enumT {K : PySem.W.Frag} {a : Addr} {xs : List V} : Walk (IteT K a) xs.length (fun H => SqT K H a xs) (YPair (fun i => some (.int (i : Nat))) (fun i => xs[i]?)) :=
  ⟨fun i _ hi q => ⟨xs, xs[i], q, by simp [hi]⟩, fun _ q => ⟨xs, q, Nat.le_refl _⟩, fun i H v H' _ q ⟨T, x, h1, h2, h3, h4⟩ => ⟨T, .int (i : Nat), x, h1, h2, h3, rfl, h4 xs q⟩⟩
end L2

namespace L2
open PySem PySem.Spec PyProof.Rows
/-! ### types of data -/
def tyName : PyData → String
  | .none => "NoneType" | .bool _ => "bool" | .int _ => "int" | .str _ => "str" | .list _ => "list" | .tuple _ => "tuple" | .dict _ => "dict"
section
variable {K : PySem.W.Frag} {p : Addr} {H H' : Hp} {x : V} {d : PyData} {Q : VK}
theorem ty_list {a : Addr} {xs : List V} (h : SqL K H a xs) : TyX K H (.ref a) (.type "list") := by
  rcases h with (h | ⟨o, h⟩) | ⟨o, its, n, h, c, _⟩
  · exact .base (.lst h)
  · exact .base (.frz h)
  · exact .kList h c
theorem ty_tup {a : Addr} {xs : List V} (h : SqT K H a xs) : TyX K H (.ref a) (.type "tuple") := by
  rcases h with (h | ⟨o, h⟩) | ⟨o, its, n, h, c, _⟩
  · exact .base (.tup h)
  · exact .fTuple h
  · exact .kTuple h c
theorem Dn.ty (h : Dn K p H x d) : TyX K H x (.type (tyName d)) := by
  cases h with
  | non => exact .base .non
  | bl b => exact .base (.bl b)
  | int i => exact .base (.int i)
  | str y _ => exact .base (.str y)
  | lst _ h _ => exact ty_list h
  | tup h _ => exact ty_tup h
  | dic h _ _ => exact .base (.dK h)
def isI : PyData → Bool | .int _ => true | _ => false
def isB : PyData → Bool | .bool _ => true | _ => false
def isS : PyData → Bool | .str _ => true | _ => false
def isT : PyData → Bool | .tuple _ => true | _ => false
theorem kit_int (d : PyData) : kitB (tyName d) "int" = some (isI d || isB d) := by
  cases d
  · exact (by decide +kernel : kitB "NoneType" "int" = some false)
  · exact (by decide +kernel : kitB "bool" "int" = some true)
  · exact (by decide +kernel : kitB "int" "int" = some true)
  · exact (by decide +kernel : kitB "str" "int" = some false)
  · exact (by decide +kernel : kitB "list" "int" = some false)
  · exact (by decide +kernel : kitB "tuple" "int" = some false)
  · exact (by decide +kernel : kitB "dict" "int" = some false)
theorem kit_bool (d : PyData) : kitB (tyName d) "bool" = some (isB d) := by
  cases d
  · exact (by decide +kernel : kitB "NoneType" "bool" = some false)
  · exact (by decide +kernel : kitB "bool" "bool" = some true)
  · exact (by decide +kernel : kitB "int" "bool" = some false)
  · exact (by decide +kernel : kitB "str" "bool" = some false)
  · exact (by decide +kernel : kitB "list" "bool" = some false)
  · exact (by decide +kernel : kitB "tuple" "bool" = some false)
  · exact (by decide +kernel : kitB "dict" "bool" = some false)
theorem kit_str (d : PyData) : kitB (tyName d) "str" = some (isS d) := by
  cases d
  · exact (by decide +kernel : kitB "NoneType" "str" = some false)
  · exact (by decide +kernel : kitB "bool" "str" = some false)
  · exact (by decide +kernel : kitB "int" "str" = some false)
  · exact (by decide +kernel : kitB "str" "str" = some true)
  · exact (by decide +kernel : kitB "list" "str" = some false)
  · exact (by decide +kernel : kitB "tuple" "str" = some false)
  · exact (by decide +kernel : kitB "dict" "str" = some false)
theorem kit_tuple (d : PyData) : kitB (tyName d) "tuple" = some (isT d) := by
  cases d
  · exact (by decide +kernel : kitB "NoneType" "tuple" = some false)
  · exact (by decide +kernel : kitB "bool" "tuple" = some false)
  · exact (by decide +kernel : kitB "int" "tuple" = some false)
  · exact (by decide +kernel : kitB "str" "tuple" = some false)
  · exact (by decide +kernel : kitB "list" "tuple" = some false)
  · exact (by decide +kernel : kitB "tuple" "tuple" = some true)
  · exact (by decide +kernel : kitB "dict" "tuple" = some false)
theorem rd_isi {T : String} {b : Bool} (h : Dn K p H x d) (k : kitB (tyName d) T = some b) (q : Q (.bl b) H) : rIsi K [x, .ty T] H Q := ⟨x, .ty T, _, _, b, rfl, .ty T, h.ty, kit_ty k, q⟩
end
/-! ### mirrors over data -/
def getI : PyData → Int | .int i => i | _ => 0
def btw (d : PyData) (lo hi : Int) : Bool := match d with | .int i => decide (lo ≤ i ∧ i ≤ hi) | _ => false
def letters : Str := "abcdefghijklmnopqrstuvwxyz"
def alnums : Str := "abcdefghijklmnopqrstuvwxyz0123456789"
def headOk (x : Str) : Bool := match x.cps.toList with | c :: _ => decide (c ∈ letters.cps.toList) | [] => false
def nameOk (x : Str) : Bool := (decide (1 ≤ x.length) && decide (x.length ≤ 8)) && (headOk x && x.cps.toList.all fun c => decide (c ∈ alnums.cps.toList))
def isName : PyData → Bool | .str x => nameOk x | _ => false
def isWord (d : PyData) (ws : List Str) : Bool := match d with | .str x => ws.contains x | _ => false
def isStretch (d : PyData) (lo hi : Int) : Bool := match d with | .tuple [a, b] => btw a lo hi && btw b (getI a + 1) hi | _ => false
def sndI : PyData → Int | .tuple [_, b] => getI b | _ => 0
def touchesFrom (hi : Int) : List PyData → Int → Bool
  | [], _ => true
  | d :: r, lo => isStretch d lo hi && touchesFrom hi r (sndI d + 1)
def touchesOk (d : PyData) (lo hi : Int) : Bool := match d with | .tuple ds => decide (ds.length ≤ 6) && touchesFrom hi ds lo | _ => false
def modes : List Str := ["write", "latch", "touch", "trim"]
def tails : List Str := ["stop", "on"]
def isOld : PyData → Bool | .str x => decide (x = "old") | _ => false
def isPass (L : Int) (d : PyData) : Bool := match d with
  | .tuple [n, m, f, t, u, g, e] => (isName n && !isOld n) && ((isWord m modes && isWord e tails) && (isStretch (.tuple [f, t]) 0 L && (touchesOk u (getI f) (getI t) && btw g 0 100)))
  | _ => false
def nameOf : PyData → Str | .tuple (.str x :: _) => x | _ => ""
def firstWrong (L : Int) : List PyData → Nat → List Str → Option Nat
  | [], _, _ => none
  | d :: r, i, ns => if decide (8 ≤ i) || (!isPass L d || ns.contains (nameOf d)) then some i else firstWrong L r (i + 1) (ns ++ [nameOf d])
def plOf (x : Str) : List PyData → Nat → Option Nat
  | [], _ => none
  | d :: r, i => if nameOf d = x then some i else plOf x r (i + 1)
def sOf : PyData → Option Str | .str x => some x | _ => none
def optV : Option Nat → V | none => .non | some i => .int i
def Named (ds : List PyData) : Prop := ∀ d ∈ ds, ∃ x r, d = .tuple (.str x :: r)
theorem inV_strs (x : Str) : ∀ ws : List Str, inV (.str x) (ws.map V.str) = ws.contains x := by
  intro ws
  unfold inV
  induction ws with
  | nil => rfl
  | cons y r ih =>
    rw [List.map_cons, List.any_cons, ih, List.contains_cons]
    congr 1
    show decide _ = _
    by_cases e : y = x
    · subst e; simp
    · have e' : ¬ x = y := fun z => e z.symm
      simp [e, e']
theorem flat_strs : ∀ ws : List Str, (ws.map V.str).all flatV = true := by
  intro ws
  induction ws with
  | nil => rfl
  | cons y r ih => rw [List.map_cons, List.all_cons, ih]; rfl
/-! ### promises of what looks at one pass -/
def spIsInt (K : PySem.W.Frag) : Sp := fun vs H Q _ => ∃ (p : Addr) (x : V) (d : PyData), vs = [x] ∧ Dn K p H x d ∧ Q (.bl (isI d)) H
def spBtw (K : PySem.W.Frag) : Sp := fun vs H Q _ => ∃ (p : Addr) (x : V) (d : PyData) (lo hi : Int), vs = [x, .int lo, .int hi] ∧ Dn K p H x d ∧ Q (.bl (btw d lo hi)) H
def spName (K : PySem.W.Frag) : Sp := fun vs H Q _ => ∃ (p : Addr) (x : V) (d : PyData), vs = [x] ∧ Dn K p H x d ∧ ∀ H', Same H H' → Q (.bl (isName d)) H'
def spWord (K : PySem.W.Frag) : Sp := fun vs H Q _ => ∃ (p : Addr) (x : V) (d : PyData) (t : Addr) (ws : List Str), vs = [x, .ref t] ∧ Dn K p H x d ∧ SqT K H t (ws.map V.str) ∧ Q (.bl (isWord d ws)) H
/-- data whose outermost tuple may stand anywhere -/
def Dt (K : PySem.W.Frag) (p : Addr) (H : Hp) (x : V) (d : PyData) : Prop := Dn K p H x d ∨ ∃ a xs ds, x = .ref a ∧ d = .tuple ds ∧ SqT K H a xs ∧ DnAll K p H xs ds
theorem Dt.ty {K : PySem.W.Frag} {p : Addr} {H : Hp} {x : V} {d : PyData} (h : Dt K p H x d) : TyX K H x (.type (tyName d)) := by
  rcases h with h | ⟨a, xs, ds, rfl, rfl, h, _⟩
  · exact h.ty
  · exact ty_tup h
theorem Dt.of_tup {K : PySem.W.Frag} {p : Addr} {H : Hp} {v : V} {ds : List PyData} (h : Dt K p H v (.tuple ds)) : ∃ a xs, v = .ref a ∧ SqT K H a xs ∧ DnAll K p H xs ds := by
  rcases h with h | ⟨a, xs, es, rfl, e, h, r⟩
  · obtain ⟨a, xs, e, h1, h2⟩ := h.of_tup
    exact ⟨a, xs, e, h1, h2⟩
  · injection e with e
    subst e
    exact ⟨a, xs, rfl, h, r⟩
def spStretch (K : PySem.W.Frag) : Sp := fun vs H Q _ => ∃ (p : Addr) (x : V) (d : PyData) (lo hi : Int), vs = [x, .int lo, .int hi] ∧ Dt K p H x d ∧ Q (.bl (isStretch d lo hi)) H
def spLength (K : PySem.W.Frag) : Sp := fun vs H Q _ => ∃ (p : Addr) (x : V) (d : PyData), vs = [x] ∧ Dn K p H x d ∧ Q (.bl (btw d 1 1000000000000)) H
def spTouches (K : PySem.W.Frag) : Sp := fun vs H Q _ => ∃ (p : Addr) (x : V) (d : PyData) (lo hi : Int), vs = [x, .int lo, .int hi] ∧ Dn K p H x d ∧ Q (.bl (touchesOk d lo hi)) H
def spPass (K : PySem.W.Frag) : Sp := fun vs H Q _ => ∃ (p : Addr) (x : V) (d : PyData) (L : Int), vs = [x, .int L] ∧ Dn K p H x d ∧ ∀ H', Same H H' → Q (.bl (isPass L d)) H'
def spFirst (K : PySem.W.Frag) : Sp := fun vs H Q _ => ∃ (p : Addr) (x : V) (ds : List PyData) (L : Int), vs = [x, .int L] ∧ Dn K p H x (.tuple ds) ∧ ∀ H', Same H H' → Q (optV (firstWrong L ds 0 [])) H'
def spPlace (K : PySem.W.Frag) : Sp := fun vs H Q _ => ∃ (p p' : Addr) (x y : V) (ds : List PyData) (e : PyData), vs = [x, y] ∧ Dn K p H x (.tuple ds) ∧ Named ds ∧ Dn K p' H y e ∧ ∀ H', Same H H' → Q (optV ((sOf e).bind fun z => plOf z ds 0)) H'
end L2

namespace L2
open PySem PySem.Spec PyProof.Rows
theorem tYes_rd {σ : St} {H : Hp} {A B : Hp → Prop} (h : A H) : tYes σ H fun b H3 => if b = true then A H3 else B H3 := by
  show (if true = true then A H else B H)
  rw [if_pos rfl]
  exact h
theorem pe_ci {X : Cx} {x : Str} {n : Int} {pos : Pos} (c : Ci X.mg x n) (hg : Gl X x := by rfl) (hd : (x == ("__debug__" : Str)) = false := by decide) : PE X (.Name x pos) (tC (.int n)) := pe_glob hg c.g ⟨c.t, rfl⟩ hd
theorem pe_cs {X : Cx} {x z : Str} {pos : Pos} (c : Cs X.mg x z) (hg : Gl X x := by rfl) (hd : (x == ("__debug__" : Str)) = false := by decide) : PE X (.Name x pos) (tC (.str z)) := pe_glob hg c.g ⟨c.t, rfl⟩ hd
theorem pe_ct {X : Cx} {x : Str} {vs : List V} {pos : Pos} (c : Ct X.K X.mg x vs) (hg : Gl X x := by rfl) (hd : (x == ("__debug__" : Str)) = false := by decide) : PE X (.Name x pos) (tC (.ref c.a)) := pe_glob hg c.g rfl hd
theorem DnAll.c1 {K : PySem.W.Frag} {p : Addr} {H : Hp} {xs : List V} {d : PyData} {ds : List PyData} (h : DnAll K p H xs (d :: ds)) : ∃ v r, xs = v :: r ∧ Dn K p H v d ∧ DnAll K p H r ds := by
  cases h with
  | cons a b => exact ⟨_, _, rfl, a, b⟩
theorem DnAll.c0 {K : PySem.W.Frag} {p : Addr} {H : Hp} {xs : List V} (h : DnAll K p H xs []) : xs = [] := by
  cases h
  rfl
theorem DnAll.two {K : PySem.W.Frag} {p : Addr} {H : Hp} {xs : List V} {d e : PyData} (h : DnAll K p H xs [d, e]) : ∃ v u, xs = [v, u] ∧ Dn K p H v d ∧ Dn K p H u e := by
  obtain ⟨v, r, rfl, h1, h⟩ := h.c1
  obtain ⟨u, r, rfl, h2, h⟩ := h.c1
  obtain rfl := h.c0
  exact ⟨v, u, rfl, h1, h2⟩
theorem DnAll.seven {K : PySem.W.Frag} {p : Addr} {H : Hp} {xs : List V} {a b c d e f g : PyData} (h : DnAll K p H xs [a, b, c, d, e, f, g]) :
    ∃ x1 x2 x3 x4 x5 x6 x7, xs = [x1, x2, x3, x4, x5, x6, x7] ∧ Dn K p H x1 a ∧ Dn K p H x2 b ∧ Dn K p H x3 c ∧ Dn K p H x4 d ∧ Dn K p H x5 e ∧ Dn K p H x6 f ∧ Dn K p H x7 g := by
  obtain ⟨x1, r, rfl, h1, h⟩ := h.c1
  obtain ⟨x2, r, rfl, h2, h⟩ := h.c1
  obtain ⟨x3, r, rfl, h3, h⟩ := h.c1
  obtain ⟨x4, r, rfl, h4, h⟩ := h.c1
  obtain ⟨x5, r, rfl, h5, h⟩ := h.c1
  obtain ⟨x6, r, rfl, h6, h⟩ := h.c1
  obtain ⟨x7, r, rfl, h7, h⟩ := h.c1
  obtain rfl := h.c0
  exact ⟨x1, x2, x3, x4, x5, x6, x7, rfl, h1, h2, h3, h4, h5, h6, h7⟩
theorem stretch_inv {d : PyData} {lo hi : Int} (h : isStretch d lo hi = true) : ∃ i j, d = .tuple [.int i, .int j] ∧ lo ≤ i ∧ i < j ∧ j ≤ hi := by
  cases d with
  | tuple es =>
    match es, h with
    | [u, v], h =>
      have e : (btw u lo hi && btw v (getI u + 1) hi) = true := h
      obtain ⟨e1, e2⟩ := Bool.and_eq_true_iff.mp e
      cases u with
      | int i =>
        cases v with
        | int j =>
          have a : lo ≤ i ∧ i ≤ hi := of_decide_eq_true e1
          have b : i + 1 ≤ j ∧ j ≤ hi := of_decide_eq_true e2
          exact ⟨i, j, rfl, a.1, by omega, b.2⟩
        | _ => simp [btw] at e2
      | _ => simp [btw] at e1
  | _ => simp [isStretch] at h
theorem Dn.str_len {K : PySem.W.Frag} {p : Addr} {H : Hp} {x : V} {z : Str} (h : Dn K p H x (.str z)) : z.length ≤ sizeLine := by
  cases h with
  | str _ l => exact Nat.le_trans l.1 (by decide)
theorem Dn.str_ok {K : PySem.W.Frag} {p : Addr} {H : Hp} {x : V} {z : Str} (h : Dn K p H x (.str z)) : Sok z := by
  cases h with
  | str _ l => exact l
theorem take_map_succ {α β : Type} {l : List α} {i : Nat} {c : α} (f : α → β) (h : l[i]? = some c) : ((l.take (i + 1)).map f) = ((l.take i).map f) ++ [f c] := by
  rw [List.take_add_one, h, List.map_append]
  rfl
theorem len_take_lt {α β : Type} {l : List α} {i n : Nat} (f : α → β) (h : l.length ≤ n) (hn : n ≤ 1000000) (hi : i < l.length) : ((l.take i).map f).length < sizeLine := by
  rw [List.length_map, List.length_take]
  have : sizeLine = 16777216 := sizeLine_eq
  omega
theorem all_map_id {α : Type} (f : α → Bool) : ∀ l : List α, (l.map f).all id = l.all f
  | [] => rfl
  | c :: r => by rw [List.map_cons, List.all_cons, List.all_cons, all_map_id f r]; rfl
theorem name_split {x : Str} (h1 : 1 ≤ x.length) (h2 : x.length ≤ 8) : ∃ c r, x.cps.toList = c :: r := by
  cases e : x.cps.toList with
  | nil =>
    have : x.cps.size = 0 := by rw [← Array.length_toList, e]; rfl
    have l : x.length = x.cps.size := rfl
    omega
  | cons c r => exact ⟨c, r, rfl⟩
end L2
namespace L2
open PySem PySem.Spec PyProof.Rows
theorem seven_of {α : Type} {l : List α} (h : l.length = 7) : ∃ a b c d e f g, l = [a, b, c, d, e, f, g] := by
  match l, h with
  | [a, b, c, d, e, f, g], _ => exact ⟨a, b, c, d, e, f, g, rfl⟩
theorem isPass_eq (L : Int) (n m f t u g e : PyData) : isPass L (.tuple [n, m, f, t, u, g, e]) = ((isName n && !isOld n) && ((isWord m modes && isWord e tails) && (isStretch (.tuple [f, t]) 0 L && (touchesOk u (getI f) (getI t) && btw g 0 100)))) := rfl
theorem isPass_len {L : Int} {ds : List PyData} (h : ds.length ≠ 7) : isPass L (.tuple ds) = false := by
  match ds, h with
  | [], _ => rfl
  | [_], _ => rfl
  | [_, _], _ => rfl
  | [_, _, _], _ => rfl
  | [_, _, _, _], _ => rfl
  | [_, _, _, _, _], _ => rfl
  | [_, _, _, _, _, _], _ => rfl
  | [_, _, _, _, _, _, _], h => exact absurd rfl h
  | _ :: _ :: _ :: _ :: _ :: _ :: _ :: _ :: _, _ => rfl
theorem passable {L : Int} {d : PyData} (h : isPass L d = true) : ∃ x m f t u g e, d = .tuple [.str x, m, .int f, .int t, u, .int g, e] ∧ nameOk x = true ∧ isWord m modes = true ∧ isWord e tails = true ∧ 0 ≤ f ∧ f < t ∧ t ≤ L ∧ touchesOk u f t = true ∧ 0 ≤ g ∧ g ≤ 100 ∧ x ≠ "old" := by
  cases d with
  | tuple ds =>
    by_cases l : ds.length = 7
    · obtain ⟨n, m, f, t, u, g, e, rfl⟩ := seven_of l
      rw [isPass_eq] at h
      obtain ⟨k1, k2⟩ := Bool.and_eq_true_iff.mp h
      obtain ⟨a1, a2⟩ := Bool.and_eq_true_iff.mp k1
      obtain ⟨b1, b2⟩ := Bool.and_eq_true_iff.mp k2
      obtain ⟨c1, c2⟩ := Bool.and_eq_true_iff.mp b1
      obtain ⟨d1, d2⟩ := Bool.and_eq_true_iff.mp b2
      obtain ⟨e1, e2⟩ := Bool.and_eq_true_iff.mp d2
      obtain ⟨i, j, ed, y1, y2, y3⟩ := stretch_inv d1
      injection ed with ed
      injection ed with u1 u2
      injection u2 with u2
      subst u1 u2
      cases n with
      | str x =>
        cases g with
        | int g =>
          have b := of_decide_eq_true e2
          refine ⟨x, m, i, j, u, g, e, rfl, a1, c1, c2, y1, y2, y3, e1, b.1, b.2, fun z => ?_⟩
          subst z
          simp [isOld] at a2
        | _ => simp [btw] at e2
      | _ => simp [isName] at a1
    · rw [isPass_len l] at h
      cases h
  | _ => simp [isPass] at h
end L2

namespace L2
open PySem PySem.Spec PyProof.Rows
section
variable {K : PySem.W.Frag} {σ : St} {H : Hp} {te ta tb : TE} {xs ys : List V}
/-! ### expressions that give a tuple -/
def EvS (K : PySem.W.Frag) (te : TE) (σ : St) (H : Hp) (xs : List V) : Prop := ∀ Q : VK, (∀ r H', Same H H' → SqT K H' r xs → Q (.ref r) H') → te σ H Q
theorem evS_var {i : Nat} {a : Addr} (hv : σ[i]? = some (some (.ref a))) (h : SqT K H a xs) : EvS K (tVar i) σ H xs := fun Q q => ⟨_, hv, q a H (.refl H) h⟩
theorem evS_cat (ha : EvS K ta σ H xs) (hb : ∀ H', Same H H' → EvS K tb σ H' ys) (hl : xs.length + ys.length ≤ sizeLine) : EvS K (tOp (rCatA K) ta tb) σ H (xs ++ ys) := fun Q q =>
  ha _ fun a H1 s1 h1 => hb H1 s1 _ fun b H2 s2 h2 => ⟨a, b, xs, ys, rfl, rfl, s2.seqT h1, h2, hl,
    fun e => by subst e; exact q b H2 (s1.trans s2) h2,
    fun _ e => by subst e; rw [List.append_nil] at q; exact q a H2 (s1.trans s2) (s2.seqT h1),
    fun _ _ p hp => q p _ ((s1.trans s2).new hp) (.inl (.inl upd_same))⟩
theorem evS_sl {tl th : TO} {lo hi : Option Int} (ha : EvS K ta σ H xs) (h1 : ∀ H' R, R lo H' → tl σ H' R) (h2 : ∀ H' R, R hi H' → th σ H' R) : EvS K (tSl (rSlA K) ta tl th) σ H (cutV xs lo hi) := fun Q q =>
  ha _ fun a H1 s1 hs => h1 H1 _ (h2 H1 _ ⟨a, xs, rfl, hs,
    fun w => by
      have e : cutV xs lo hi = xs := by
        unfold cutV
        rw [w.1, w.2, Nat.sub_zero, List.drop_zero, List.take_length]
      rw [e] at q
      exact q a H1 s1 hs,
    fun _ p hp => q p _ (s1.new hp) (.inl (.inl upd_same))⟩)
theorem evS_tup1 {v : V} {te : TE} (h : ∀ R : VK, R v H → te σ H R) : EvS K (tTup (tCons te tNil)) σ H [v] := fun Q q => h _ ⟨by show 1 ≤ sizeLine; decide, fun p hp => q p _ (same_new hp) (.inl (.inl upd_same))⟩
theorem part_none {R : Option Int → Hp → Prop} (h : R none H) : tNoPart σ H R := h
theorem part_var {i : Nat} {n : Int} (hv : σ[i]? = some (some (.int n))) {R : Option Int → Hp → Prop} (h : R (some n) H) : tPart (tVar i) σ H R := ⟨_, hv, n, rfl, h⟩
theorem part_c {n : Int} {R : Option Int → Hp → Prop} (h : R (some n) H) : tPart (tC (.int n)) σ H R := ⟨n, rfl, h⟩
theorem part_succ {i : Nat} {n m : Int} (hv : σ[i]? = some (some (.int n))) {R : Option Int → Hp → Prop} (h : R (some (n + m)) H) : tPart (tOp (rI0 fun i j => .int (i + j)) (tVar i) (tC (.int m))) σ H R := ⟨_, hv, _, _, rfl, rfl, _, rfl, h⟩
end
theorem cut_to (xs : List V) (n : Nat) : cutV xs none (some (n : Int)) = xs.take n := by
  unfold cutV
  rw [HT.sIx_none, HT.sIx_nat, List.drop_zero, Nat.sub_zero]
  by_cases h : n ≤ xs.length
  · rw [Nat.min_eq_left h]
  · rw [Nat.min_eq_right (by omega), List.take_length, List.take_of_length_le (by omega)]
theorem cut_from (xs : List V) (n : Nat) : cutV xs (some (n : Int)) none = xs.drop n := by
  unfold cutV
  rw [HT.sIx_none, HT.sIx_nat]
  by_cases h : n ≤ xs.length
  · rw [Nat.min_eq_left h, List.take_of_length_le (by rw [List.length_drop]; exact Nat.le_refl _)]
  · rw [Nat.min_eq_right (by omega), Nat.sub_self, List.take_zero, List.drop_of_length_le (by omega)]
/-! ### promises of what builds rows of passes -/
def spPutIn (K : PySem.W.Frag) : Sp := fun vs H Q _ => ∃ (a : Addr) (xs : List V) (i : Nat) (x : V), vs = [.ref a, .int i, x] ∧ SqT K H a xs ∧ xs.length ≤ 1000 ∧ ∀ r H', Same H H' → SqT K H' r (xs.take i ++ x :: xs.drop i) → Q (.ref r) H'
def spTakenOut (K : PySem.W.Frag) : Sp := fun vs H Q _ => ∃ (a : Addr) (xs : List V) (i : Nat), vs = [.ref a, .int i] ∧ SqT K H a xs ∧ xs.length ≤ 1000 ∧ ∀ r H', Same H H' → SqT K H' r (xs.take i ++ xs.drop (i + 1)) → Q (.ref r) H'
def spReplaced (K : PySem.W.Frag) : Sp := fun vs H Q _ => ∃ (a : Addr) (xs : List V) (i : Nat) (x : V), vs = [.ref a, .int i, x] ∧ SqT K H a xs ∧ i < xs.length ∧ xs.length ≤ 900 ∧ ∀ r H', Same H H' → SqT K H' r (xs.set i x) → Q (.ref r) H'
theorem set_parts (xs : List V) (i : Nat) (x : V) (h : i < xs.length) : (xs.take i ++ xs.drop (i + 1)).take i ++ x :: (xs.take i ++ xs.drop (i + 1)).drop i = xs.set i x := by
  have l : (xs.take i).length = i := by rw [List.length_take]; omega
  rw [List.take_append_of_le_length (by omega), List.drop_append_of_le_length (by omega)]
  rw [List.take_of_length_le (by omega), List.drop_of_length_le (by omega), List.nil_append]
  rw [List.set_eq_take_append_cons_drop, if_pos h]
/-! ### a track -/
def Trk (K : PySem.W.Frag) (C p x : Addr) (H : Hp) (L : Int) (ds : List PyData) : Prop :=
  ∃ dx t, H x = some (.ins C dx [("_length", .int L), ("_passes", .ref t)]) ∧ Dn K p H (.ref t) (.tuple ds) ∧ (1 ≤ L ∧ L ≤ 1000000000000) ∧ firstWrong L ds 0 [] = none
theorem Trk.same {K : PySem.W.Frag} {C p x : Addr} {H H' : Hp} {L : Int} {ds : List PyData} (h : Trk K C p x H L ds) (e : Same H H') : Trk K C p x H' L ds :=
  let ⟨dx, t, h1, h2, h3⟩ := h; ⟨dx, t, e _ _ h1, h2.same e, h3⟩
theorem Trk.sm {K : PySem.W.Frag} {C p x : Addr} {H H' : Hp} {L : Int} {ds : List PyData} (h : Trk K C p x H L ds) (e : Sm p H H') (hp : Pl H p) : Trk K C p x H' L ds := by
  obtain ⟨dx, t, h1, h2, h3⟩ := h
  refine ⟨dx, t, e _ _ ?_ h1, h2.sm e hp, h3⟩
  rintro rfl
  obtain ⟨l, hp⟩ := hp
  rw [h1] at hp
  cases hp
theorem firstWrong_spec {L : Int} : ∀ {ds : List PyData} {i : Nat} {ns : List Str}, firstWrong L ds i ns = none → (∀ d ∈ ds, isPass L d = true) ∧ i + ds.length ≤ 8 ∨ ds = []
  | [], _, _, _ => .inr rfl
  | d :: r, i, ns, h => by
    unfold firstWrong at h
    split at h
    · cases h
    · rename_i c
      have c1 : ¬ 8 ≤ i := fun z => c (by rw [decide_eq_true z]; rfl)
      have c2 : isPass L d = true := by
        cases e : isPass L d
        · rw [e] at c; simp at c
        · rfl
      refine .inl ⟨fun e he => ?_, ?_⟩
      · rcases List.mem_cons.mp he with rfl | he
        · exact c2
        · rcases firstWrong_spec h with q | q
          · exact q.1 e he
          · subst q; cases he
      · rcases firstWrong_spec h with q | q
        · rw [List.length_cons]; omega
        · subst q; simp; omega
theorem Trk.facts {K : PySem.W.Frag} {C p x : Addr} {H : Hp} {L : Int} {ds : List PyData} (h : Trk K C p x H L ds) : (∀ d ∈ ds, isPass L d = true) ∧ ds.length ≤ 8 := by
  obtain ⟨_, _, _, _, _, h⟩ := h
  rcases firstWrong_spec h with q | q
  · exact ⟨q.1, by omega⟩
  · subst q; exact ⟨fun _ h => (by cases h), Nat.zero_le _⟩
theorem named_of {L : Int} {ds : List PyData} (h : ∀ d ∈ ds, isPass L d = true) : Named ds := fun d hd => by
  obtain ⟨x, m, f, t, u, g, e, rfl, _⟩ := passable (h d hd)
  exact ⟨x, _, rfl⟩
/-- Track(length, passes) of what is right -/
def spInit (K : PySem.W.Frag) (C : Addr) : Sp := fun vs H Q _ => ∃ (p x dx t : Addr) (L : Int) (ds : List PyData), vs = [.ref x, .int L, .ref t] ∧ H x = some (.ins C dx []) ∧ Dn K p H (.ref t) (.tuple ds) ∧ (1 ≤ L ∧ L ≤ 1000000000000) ∧ firstWrong L ds 0 [] = none ∧
  ∀ H', (∀ b o, b ≠ x → H b = some o → H' b = some o) → H' x = some (.ins C dx [("_length", .int L), ("_passes", .ref t)]) → Q .non H'
/-- a promise: a new track -/
def NewTrk (K : PySem.W.Frag) (C p : Addr) (H : Hp) (L : Int) (ds : List PyData) (Q : VK) : Prop := ∀ x H', Same H H' → Trk K C p x H' L ds → Q (.ref x) H'
def spPut (K : PySem.W.Frag) (C : Addr) : Sp := fun vs H Q _ => ∃ (p x : Addr) (L : Int) (ds : List PyData) (v w : V) (d : PyData) (i : Nat), vs = [.ref x, v, w] ∧ Trk K C p x H L ds ∧ Dn K p H v d ∧ i ≤ ds.length ∧ (w = .int i ∨ (w = .non ∧ i = ds.length)) ∧ ds.length < 8 ∧
  firstWrong L (ds.take i ++ d :: ds.drop i) 0 [] = none ∧ isPass L d = true ∧ plOf (nameOf d) ds 0 = none ∧ NewTrk K C p H L (ds.take i ++ d :: ds.drop i) Q
def spWithout (K : PySem.W.Frag) (C : Addr) : Sp := fun vs H Q _ => ∃ (p x : Addr) (L : Int) (ds : List PyData) (z : Str) (i : Nat), vs = [.ref x, .str z] ∧ Sok z ∧ Trk K C p x H L ds ∧ plOf z ds 0 = some i ∧ firstWrong L (ds.take i ++ ds.drop (i + 1)) 0 [] = none ∧ NewTrk K C p H L (ds.take i ++ ds.drop (i + 1)) Q
def spMoved (K : PySem.W.Frag) (C : Addr) : Sp := fun vs H Q _ => ∃ (p x : Addr) (L : Int) (ds : List PyData) (z : Str) (i j : Nat) (d : PyData), vs = [.ref x, .str z, .int j] ∧ Sok z ∧ Trk K C p x H L ds ∧ plOf z ds 0 = some i ∧ ds[i]? = some d ∧ j < ds.length ∧
  firstWrong L ((ds.take i ++ ds.drop (i + 1)).take j ++ d :: (ds.take i ++ ds.drop (i + 1)).drop j) 0 [] = none ∧ NewTrk K C p H L ((ds.take i ++ ds.drop (i + 1)).take j ++ d :: (ds.take i ++ ds.drop (i + 1)).drop j) Q
def spKnown (K : PySem.W.Frag) (C : Addr) : Sp := fun vs H Q _ => ∃ (p x : Addr) (L : Int) (ds : List PyData) (z : Str) (i : Nat), vs = [.ref x, .str z] ∧ Sok z ∧ Trk K C p x H L ds ∧ plOf z ds 0 = some i ∧ ∀ H', Same H H' → Q (.int i) H'
def partIx : Str → Option Nat := fun z => if z = "mode" then some 1 else if z = "from" then some 2 else if z = "to" then some 3 else if z = "touches" then some 4 else if z = "glide" then some 5 else if z = "tail" then some 6 else none
def parts : List Str := ["mode", "from", "to", "touches", "glide", "tail"]
def setPart (d : PyData) (j : Nat) (e : PyData) : PyData := match d with | .tuple es => .tuple (es.set j e) | d => d
theorem place_lt {z : Str} : ∀ {ds : List PyData} {i j : Nat}, plOf z ds i = some j → i ≤ j ∧ j < i + ds.length ∧ ∃ d, ds[j - i]? = some d ∧ nameOf d = z
  | [], _, _, h => by cases h
  | d :: r, i, j, h => by
    unfold plOf at h
    split at h
    · injection h with h
      subst h
      refine ⟨Nat.le_refl _, by rw [List.length_cons]; omega, d, ?_, ‹_›⟩
      rw [Nat.sub_self]; rfl
    · obtain ⟨a, b, e, he, hn⟩ := place_lt h
      refine ⟨by omega, by rw [List.length_cons]; omega, e, ?_, hn⟩
      rw [show j - i = (j - (i + 1)) + 1 by omega]
      exact he
end L2
namespace L2
open PySem PySem.Spec PyProof.Rows
/-- part in d, d a dict of the top -/
def myInKd (K : PySem.W.Frag) (w : World) : R2 := fun x y H Q => ∃ (a : Addr) (z : Str) (es : Array DictEntry) (n : Nat) (r : Option Value), x = .str z ∧ y = .ref a ∧ K.lookup a = some ⟨.type "dict", none, .dict es n, #[]⟩ ∧ PySem.W.KeysLit w.params es.toList ∧ PySem.W.nsIn K a z = some r ∧ (a == sysModules) = false ∧ Q (.bl r.isSome) H
theorem my_in_kd {X : Cx} : OpR X (compareOp .In) (myInKd X.K X.w) := by
  intro pins s σ H x y v u Q I rx ry h
  obtain ⟨a, z, es, n, r, rfl, rfl, hl, hk, e, lo, q⟩ := h
  obtain ⟨t, rfl⟩ := rx
  cases ry
  obtain ⟨m, F⟩ := I.fr
  exact PySem.W.topIn_K F I.ok.mod.kin hl hk e lo ⟨.bl r.isSome, H, I.tok _, rfl, q⟩
end L2
namespace L2
open PySem PySem.Spec PyProof.Rows
theorem partIx_cases {pt : Str} {j : Nat} (h : partIx pt = some j) : (pt = "mode" ∧ j = 1) ∨ (pt = "from" ∧ j = 2) ∨ (pt = "to" ∧ j = 3) ∨ (pt = "touches" ∧ j = 4) ∨ (pt = "glide" ∧ j = 5) ∨ (pt = "tail" ∧ j = 6) := by
  unfold partIx at h
  by_cases h1 : pt = "mode"
  · rw [if_pos h1] at h; injection h with h; exact .inl ⟨h1, h.symm⟩
  rw [if_neg h1] at h
  by_cases h2 : pt = "from"
  · rw [if_pos h2] at h; injection h with h; exact .inr (.inl ⟨h2, h.symm⟩)
  rw [if_neg h2] at h
  by_cases h3 : pt = "to"
  · rw [if_pos h3] at h; injection h with h; exact .inr (.inr (.inl ⟨h3, h.symm⟩))
  rw [if_neg h3] at h
  by_cases h4 : pt = "touches"
  · rw [if_pos h4] at h; injection h with h; exact .inr (.inr (.inr (.inl ⟨h4, h.symm⟩)))
  rw [if_neg h4] at h
  by_cases h5 : pt = "glide"
  · rw [if_pos h5] at h; injection h with h; exact .inr (.inr (.inr (.inr (.inl ⟨h5, h.symm⟩))))
  rw [if_neg h5] at h
  by_cases h6 : pt = "tail"
  · rw [if_pos h6] at h; injection h with h; exact .inr (.inr (.inr (.inr (.inr ⟨h6, h.symm⟩))))
  rw [if_neg h6] at h
  cases h
theorem partIx_le {pt : Str} {j : Nat} (h : partIx pt = some j) : 1 ≤ j ∧ j ≤ 6 := by
  rcases partIx_cases h with h | h | h | h | h | h <;> omega
/-- a change of a part that there is: (z, pt, e) at c; pass i of ds, its part j -/
structure Chg (K : PySem.W.Frag) (p c : Addr) (H : Hp) (ds : List PyData) (z pt : Str) (e : PyData) (i j : Nat) (es : List PyData) : Prop where
  at_ : ∃ v, SqT K H c [.str z, .str pt, v] ∧ Dn K p H v e
  lz : Sok z
  place : plOf z ds 0 = some i
  part : partIx pt = some j
  pass : ds[i]? = some (.tuple es)
  seven : es.length = 7
theorem Chg.same {K : PySem.W.Frag} {p c : Addr} {H H' : Hp} {ds : List PyData} {z pt : Str} {e : PyData} {i j : Nat} {es : List PyData} (h : Chg K p c H ds z pt e i j es) (s : Same H H') : Chg K p c H' ds z pt e i j es :=
  ⟨h.at_.elim fun v q => ⟨v, s.seqT q.1, q.2.same s⟩, h.lz, h.place, h.part, h.pass, h.seven⟩
def spIsChange (K : PySem.W.Frag) : Sp := fun vs H Q _ => ∃ (p c t : Addr) (ds : List PyData) (z pt : Str) (e : PyData) (i j : Nat) (es : List PyData), vs = [.ref c, .ref t] ∧ Dn K p H (.ref t) (.tuple ds) ∧ Named ds ∧ Chg K p c H ds z pt e i j es ∧ ∀ H', Same H H' → Q (.bl true) H'
def spBehind (K : PySem.W.Frag) : Sp := fun vs H Q _ => ∃ (p c t : Addr) (ds : List PyData) (z pt : Str) (e : PyData) (i j : Nat) (es : List PyData), vs = [.ref t, .ref c] ∧ Dn K p H (.ref t) (.tuple ds) ∧ Named ds ∧ ds.length ≤ 8 ∧ Chg K p c H ds z pt e i j es ∧
  ∀ r H', Same H H' → Dn K p H' (.ref r) (.tuple (ds.set i (.tuple (es.set j e)))) → Q (.ref r) H'
def spChanged (K : PySem.W.Frag) (C : Addr) : Sp := fun vs H Q _ => ∃ (p x c : Addr) (L : Int) (ds : List PyData) (z pt : Str) (e : PyData) (i j : Nat) (es : List PyData), vs = [.ref x, .ref c] ∧ Trk K C p x H L ds ∧ Chg K p c H ds z pt e i j es ∧
  firstWrong L (ds.set i (.tuple (es.set j e))) 0 [] = none ∧ NewTrk K C p H L (ds.set i (.tuple (es.set j e))) Q
theorem DnAll.set {K : PySem.W.Frag} {p : Addr} {H : Hp} {v : V} {d : PyData} (h : Dn K p H v d) : ∀ {xs : List V} {ds : List PyData} (i : Nat), DnAll K p H xs ds → DnAll K p H (xs.set i v) (ds.set i d)
  | _, _, _, .nil => .nil
  | _, _, 0, .cons _ t => .cons h t
  | _, _, i + 1, .cons q t => .cons q (DnAll.set h i t)
end L2

namespace L2
open PySem PySem.Spec PyProof.Rows
theorem Sm.same {p : Addr} {H H1 H2 : Hp} (a : Sm p H H1) (b : Same H1 H2) : Sm p H H2 := a.trans (.of_same b)
theorem Pu.ne_of {m : Nat} {H : Hp} {p q : Addr} {o : HO} (h : Pu m H p) (e : H q = some o) (n : ∀ l, o ≠ .lst l) : q ≠ p := by
  obtain ⟨d, s, c, z, _⟩ := h
  intro x; subst x; rw [z] at e; injection e with e; exact n _ e.symm
/-! ### promises of the drawing defs -/
def spPurse (K : PySem.W.Frag) : Sp := fun vs H Q _ => ∃ (s : Addr) (ns : List Int) (k : Nat), vs = [.ref s, .int k] ∧ SqL K H s (ns.map V.int) ∧ ns.length ≤ 63 ∧ (∀ z ∈ ns, Builtin.Int.intBits z ≤ 1048576) ∧ k ≤ 100 ∧
  ∀ p H', H p = none → Same H H' → Pu 900000000 H' p → Q (.ref p) H'
def spPick (K : PySem.W.Frag) : Sp := fun vs H Q _ => ∃ (p m : Addr) (xs : List V) (b : Nat), vs = [.ref p, .ref m] ∧ Pu (b + 1) H p ∧ SqL K H m xs ∧ m ≠ p ∧ 0 < xs.length ∧ xs.length < 1000 ∧ ∀ x H', x ∈ xs → Sm p H H' → Pu b H' p → Q x H'
def spWide : Sp := fun vs H Q _ => ∃ (p : Addr) (n : Int) (b : Nat), vs = [.ref p, .int n] ∧ Pu (b + 2) H p ∧ 0 < n ∧ ∀ i H', 0 ≤ i → i < n → Sm p H H' → Pu b H' p → Q (.int i) H'
def spMarks (K : PySem.W.Frag) : Sp := fun vs H Q _ => ∃ (p : Addr) (first last wide : Int) (many b : Nat), vs = [.ref p, .int first, .int last, .int many, .int wide] ∧ Pu (b + 4 * many) H p ∧ many ≤ 6 ∧ 0 ≤ first ∧ first ≤ 1000000000000 ∧ last ≤ 1000000000000 ∧ 1 ≤ wide ∧ wide ≤ 1000000000000 ∧
  ∀ r d H', Sm p H H' → Pu b H' p → Dn K p H' (.ref r) d → touchesOk d first last = true → Q (.ref r) H'
def words : List Str := ["a", "b", "olds", "z9", "write", "c", "on", "pass", "abcdefgh", "t0000001", "ol", "track", "ab", "aa"]
def turned (i : Nat) : List Str := (words.drop i ++ words.take i).take 8
def spWords (K : PySem.W.Frag) : Sp := fun vs H Q _ => ∃ (p : Addr) (b : Nat), vs = [.ref p] ∧ Pu (b + 1) H p ∧ ∀ r i H', i < 14 → r ≠ p → H r = none → Sm p H H' → Pu b H' p → H' r = some (.lst ((turned i).map V.str)) → Q (.ref r) H'
def spFader (K : PySem.W.Frag) : Sp := fun vs H Q _ => ∃ (p : Addr) (z : Str) (L : Int) (b : Nat), vs = [.ref p, .str z, .int L] ∧ Pu (b + 64) H p ∧ nameOk z = true ∧ z ≠ "old" ∧ 1 ≤ L ∧ L ≤ 1000000000000 ∧
  ∀ r d H', Sm p H H' → Pu b H' p → Dn K p H' (.ref r) d → isPass L d = true → nameOf d = z → Q (.ref r) H'
def Drawn (L : Int) (many i : Nat) (ds : List PyData) : Prop := i < 14 ∧ ds.length ≤ many ∧ (∀ d ∈ ds, isPass L d = true) ∧ ds.map nameOf = (turned i).take ds.length
def spFaders (K : PySem.W.Frag) : Sp := fun vs H Q _ => ∃ (p : Addr) (L : Int) (many b : Nat), vs = [.ref p, .int L, .int many] ∧ Pu (b + 600) H p ∧ many ≤ 8 ∧ 1 ≤ L ∧ L ≤ 1000000000000 ∧
  ∀ r ds i H', Sm p H H' → Pu b H' p → Dn K p H' (.ref r) (.tuple ds) → Drawn L many i ds → Q (.ref r) H'
def spLong : Sp := fun vs H Q _ => ∃ (p : Addr) (b : Nat), vs = [.ref p] ∧ Pu (b + 2) H p ∧ ∀ L H', 1 ≤ L → L ≤ 1000000000000 → Sm p H H' → Pu b H' p → Q (.int L) H'
theorem turned_ok : ∀ i < 14, (turned i).length = 8 ∧ (turned i).Nodup ∧ ∀ z ∈ turned i, nameOk z = true ∧ z ≠ "old" ∧ z.length ≤ 8 ∧ z ∈ words := by decide +kernel
theorem tend_append (hi : Int) (d : PyData) : ∀ (ds : List PyData) (lo at_ : Int), (∀ l, touchesFrom hi [] l = true) → (ds = [] → at_ = lo) → (∀ e, ds.getLast? = some e → at_ = sndI e + 1) → touchesFrom hi ds lo = true → isStretch d at_ hi = true → touchesFrom hi (ds ++ [d]) lo = true
  | [], lo, at_, _, h0, _, _, hd => by
    rw [h0 rfl] at hd
    show (isStretch d lo hi && true) = true
    rw [hd]; rfl
  | e :: r, lo, at_, hn, _, h1, ht, hd => by
    have ht' : (isStretch e lo hi && touchesFrom hi r (sndI e + 1)) = true := ht
    obtain ⟨a, c⟩ := Bool.and_eq_true_iff.mp ht'
    show (isStretch e lo hi && touchesFrom hi (r ++ [d]) (sndI e + 1)) = true
    rw [a, tend_append hi d r (sndI e + 1) at_ hn (fun z => by subst z; exact h1 e rfl) (fun f hf => h1 f (by
      cases r with
      | nil => cases hf
      | cons g s => rw [List.getLast?_cons_cons]; exact hf)) c hd]
    rfl
/-! ### promises of the law's own reading -/
def spReads (K : PySem.W.Frag) : Sp := fun vs H Q _ => ∃ (p : Addr) (x : V) (d : PyData) (L : Int) (o : Addr) (ns : List Str), vs = [x, .int L, .ref o] ∧ Dn K p H x d ∧ SqL K H o (ns.map V.str) ∧ ∀ H', Same H H' → Q (.bl (isPass L d && !ns.contains (nameOf d))) H'
end L2
namespace L2
open PySem PySem.Spec PyProof.Rows
/-- pairs of ints, each at its own place -/
inductive Cells (H : Hp) : List V → List PyData → Prop
  | nil : Cells H [] []
  | cons {t : Addr} {a b : Int} {vs : List V} {ds : List PyData} : H t = some (.tup [.int a, .int b]) → Cells H vs ds → Cells H (.ref t :: vs) (.tuple [.int a, .int b] :: ds)
theorem Cells.mono {H H' : Hp} (e : ∀ b xs, H b = some (.tup xs) → H' b = some (.tup xs)) : ∀ {vs : List V} {ds : List PyData}, Cells H vs ds → Cells H' vs ds
  | _, _, .nil => .nil
  | _, _, .cons h t => .cons (e _ _ h) (Cells.mono e t)
theorem Cells.snoc {H : Hp} {t : Addr} {a b : Int} (h : H t = some (.tup [.int a, .int b])) : ∀ {vs : List V} {ds : List PyData}, Cells H vs ds → Cells H (vs ++ [.ref t]) (ds ++ [.tuple [.int a, .int b]])
  | _, _, .nil => .cons h .nil
  | _, _, .cons q r => .cons q (Cells.snoc h r)
theorem Cells.all {K : PySem.W.Frag} {p : Addr} {H : Hp} : ∀ {vs : List V} {ds : List PyData}, Cells H vs ds → DnAll K p H vs ds
  | _, _, .nil => .nil
  | _, _, .cons h t => .cons (.tup (.inl (.inl h)) (.cons (.int _) (.cons (.int _) .nil))) (Cells.all t)
theorem Cells.length {H : Hp} : ∀ {vs : List V} {ds : List PyData}, Cells H vs ds → vs.length = ds.length
  | _, _, .nil => rfl
  | _, _, .cons _ t => congrArg Nat.succ (Cells.length t)
theorem Sm.tups {p : Addr} {H H' : Hp} (e : Sm p H H') (hp : Pl H p) : ∀ b xs, H b = some (.tup xs) → H' b = some (.tup xs) := fun b xs h => by
  obtain ⟨l, hp⟩ := hp
  exact e _ _ (by rintro rfl; rw [hp] at h; cases h) h
theorem put_tups {H : Hp} {o : Addr} {l l' : List V} (ho : H o = some (.lst l)) : ∀ b xs, H b = some (.tup xs) → (upd H o (.lst l')) b = some (.tup xs) := fun b xs h => by
  rw [upd_ne (by rintro rfl; rw [ho] at h; cases h)]
  exact h
end L2
namespace L2
open PySem PySem.Spec PyProof.Rows
theorem Pu.pl {m : Nat} {H : Hp} {p : Addr} (h : Pu m H p) : Pl H p := let ⟨_, _, _, e, _⟩ := h; ⟨_, e⟩
end L2

namespace L2
open PySem PySem.Spec PyProof.Rows
/-! ### data without lists and dicts -/
mutual
def flatD : PyData → Bool
  | .none | .bool _ | .int _ | .str _ => true
  | .tuple xs => flatA xs
  | .list _ | .dict _ => false
def flatA : List PyData → Bool
  | [] => true
  | x :: xs => flatD x && flatA xs
end
/-- tuples stay -/
def Tk (H H' : Hp) : Prop := ∀ b xs, (H b = some (.tup xs) → H' b = some (.tup xs)) ∧ ∀ o, H b = some (.frz o (.tup xs)) → H' b = some (.frz o (.tup xs))
theorem Tk.refl (H : Hp) : Tk H H := fun _ _ => ⟨id, fun _ => id⟩
theorem Tk.trans {H H1 H2 : Hp} (a : Tk H H1) (b : Tk H1 H2) : Tk H H2 := fun c xs => ⟨fun h => (b c xs).1 ((a c xs).1 h), fun o h => (b c xs).2 o ((a c xs).2 o h)⟩
theorem Tk.of_same {H H' : Hp} (e : Same H H') : Tk H H' := fun b xs => ⟨fun h => e _ _ h, fun o h => e _ _ h⟩
theorem Tk.of_sm {p : Addr} {H H' : Hp} (e : Sm p H H') (hp : Pl H p) : Tk H H' := by
  obtain ⟨l, hp⟩ := hp
  exact fun b xs => ⟨fun h => e _ _ (by rintro rfl; rw [hp] at h; cases h) h, fun o h => e _ _ (by rintro rfl; rw [hp] at h; cases h) h⟩
theorem Tk.put {H : Hp} {o : Addr} {l l' : List V} (ho : H o = some (.lst l)) : Tk H (upd H o (.lst l')) := fun b xs =>
  ⟨fun h => by rw [upd_ne (by rintro rfl; rw [ho] at h; cases h)]; exact h, fun q h => by rw [upd_ne (by rintro rfl; rw [ho] at h; cases h)]; exact h⟩
theorem Tk.sq {K : PySem.W.Frag} {H H' : Hp} {a : Addr} {xs : List V} (e : Tk H H') (h : SqT K H a xs) : SqT K H' a xs := by
  rcases h with (h | ⟨o, h⟩) | h
  · exact .inl (.inl ((e _ _).1 h))
  · exact .inl (.inr ⟨o, (e _ _).2 o h⟩)
  · exact .inr h
section
variable {K : PySem.W.Frag} {p p' : Addr} {H H' : Hp}
mutual
theorem Dn.tk (e : Tk H H') : ∀ {v : V} {d : PyData}, flatD d = true → Dn K p H v d → Dn K p' H' v d
  | _, _, _, .non => .non
  | _, _, _, .bl b => .bl b
  | _, _, _, .int i => .int i
  | _, _, _, .str x h => .str x h
  | _, _, f, .lst n h a => by simp [flatD] at f
  | _, _, f, .tup h a => .tup (e.sq h) (DnAll.tk e (by simpa [flatD] using f) a)
  | _, _, f, .dic h a b => by simp [flatD] at f
theorem DnAll.tk (e : Tk H H') : ∀ {vs : List V} {ds : List PyData}, flatA ds = true → DnAll K p H vs ds → DnAll K p' H' vs ds
  | _, _, _, .nil => .nil
  | _, _, f, .cons r t => by
    simp only [flatA, Bool.and_eq_true] at f
    exact .cons (Dn.tk e f.1 r) (DnAll.tk e f.2 t)
end
end
theorem flatA_all : ∀ {ds : List PyData}, (∀ d ∈ ds, flatD d = true) → flatA ds = true
  | [], _ => by simp [flatA]
  | d :: r, h => by
    simp only [flatA]
    rw [h d List.mem_cons_self, flatA_all fun e he => h e (List.mem_cons_of_mem _ he)]
    rfl
theorem touches_flat {hi : Int} : ∀ {ds : List PyData} {lo : Int}, touchesFrom hi ds lo = true → flatA ds = true
  | [], _, _ => by simp [flatA]
  | d :: r, lo, h => by
    have h' : (isStretch d lo hi && touchesFrom hi r (sndI d + 1)) = true := h
    obtain ⟨a, b⟩ := Bool.and_eq_true_iff.mp h'
    obtain ⟨i, j, rfl, _⟩ := stretch_inv a
    simp only [flatA, flatD, touches_flat b]
    rfl
theorem word_inv {d : PyData} {ws : List Str} (h : isWord d ws = true) : ∃ x, d = .str x ∧ x ∈ ws := by
  cases d with
  | str x => exact ⟨x, rfl, by simpa [isWord] using h⟩
  | _ => simp [isWord] at h
theorem pass_flat {L : Int} {d : PyData} (h : isPass L d = true) : flatD d = true := by
  obtain ⟨x, m, f, t, u, g, e, rfl, _, hm, he, _, _, _, hu, _⟩ := passable h
  obtain ⟨y, rfl, _⟩ := word_inv hm
  obtain ⟨z, rfl, _⟩ := word_inv he
  cases u with
  | tuple ds =>
    have h2 : (decide (ds.length ≤ 6) && touchesFrom t ds f) = true := hu
    simp only [flatD, flatA, touches_flat (Bool.and_eq_true_iff.mp h2).2]
    rfl
  | _ => simp [touchesOk] at hu
theorem passes_flat {L : Int} {ds : List PyData} (h : ∀ d ∈ ds, isPass L d = true) : flatD (.tuple ds) = true := by
  simp only [flatD]
  exact flatA_all fun d hd => pass_flat (h d hd)
theorem nameOk_len {z : Str} (h : nameOk z = true) : z.length ≤ 8 := by
  unfold nameOk at h
  exact of_decide_eq_true (Bool.and_eq_true_iff.mp (Bool.and_eq_true_iff.mp h).1).2
theorem alnum_small : ∀ c ∈ alnums.cps.toList, c < 0x110000 := by decide +kernel
theorem nameOk_ok {z : Str} (h : nameOk z = true) : Sok z := by
  refine ⟨Nat.le_trans (nameOk_len h) (by decide), ?_⟩
  unfold nameOk at h
  have h2 := (Bool.and_eq_true_iff.mp (Bool.and_eq_true_iff.mp h).2).2
  unfold PyData.strOk
  rw [Array.all_eq_true]
  intro i hi
  have h3 := List.all_eq_true.mp h2 z.cps[i] (by rw [Array.mem_toList_iff]; exact Array.getElem_mem hi)
  exact decide_eq_true (alnum_small _ (of_decide_eq_true h3))
theorem isPass_mk {L f t g : Int} {z : Str} {m u e : PyData} (h1 : nameOk z = true) (h2 : z ≠ "old") (h3 : isWord m modes = true) (h4 : isWord e tails = true) (h5 : 0 ≤ f ∧ f < t ∧ t ≤ L) (h6 : touchesOk u f t = true) (h7 : 0 ≤ g ∧ g ≤ 100) :
    isPass L (.tuple [.str z, m, .int f, .int t, u, .int g, e]) = true := by
  rw [isPass_eq]
  have a : isStretch (.tuple [.int f, .int t]) 0 L = true := by
    show (decide (0 ≤ f ∧ f ≤ L) && decide (f + 1 ≤ t ∧ t ≤ L)) = true
    rw [decide_eq_true (show 0 ≤ f ∧ f ≤ L by omega), decide_eq_true (show f + 1 ≤ t ∧ t ≤ L by omega)]
    rfl
  have b : isOld (.str z) = false := by simp [isOld, h2]
  have c : btw (.int g) 0 100 = true := decide_eq_true h7
  have d : isName (.str z) = true := h1
  rw [a, b, c, d, h3, h4, show getI (.int f) = f from rfl, show getI (.int t) = t from rfl, h6]
  rfl
end L2
namespace L2
open PySem PySem.Spec PyProof.Rows
theorem signs_dp {K : PySem.W.Frag} {H : Hp} : ∀ cs : List Nat, DpAll K H (cs.map fun c => V.str ⟨#[c]⟩) (cs.map fun c => PyData.str ⟨#[c]⟩)
  | [] => .nil
  | _ :: r => .cons (.str _) (signs_dp r)
theorem signs_can : ∀ cs : List Nat, (∀ c ∈ cs, c < 0x110000) → PyData.canLayAll0 (cs.map fun c => PyData.str ⟨#[c]⟩) = true
  | [], _ => by simp [PyData.canLayAll0]
  | c :: r, h => by
    simp only [List.map_cons, PyData.canLayAll0, PyData.canLay0]
    rw [signs_can r fun e he => h e (List.mem_cons_of_mem _ he)]
    simp [PyData.strOk, h c List.mem_cons_self]
theorem signs_depth : ∀ cs : List Nat, PyData.depthAll (cs.map fun c => PyData.str ⟨#[c]⟩) = 0
  | [] => by simp [PyData.depthAll]
  | c :: r => by
    simp only [List.map_cons, PyData.depthAll, PyData.depth, signs_depth r]
    rfl
theorem signs_shaped (cs : List Nat) (h : ∀ c ∈ cs, c < 0x110000) : SeqAt.shaped (.list (cs.map fun c => PyData.str ⟨#[c]⟩)) = true := by
  unfold SeqAt.shaped
  simp only [PyData.canLay0, PyData.depth, signs_can cs h, signs_depth]
  decide
theorem signs_eqv (cs : List Nat) : PyData.eqv (.list (cs.map fun c => PyData.str ⟨#[c]⟩)) (.list []) = cs.isEmpty := by
  cases cs with
  | nil => simp [PyData.eqv, PyData.eqvAll]
  | cons c r => simp [PyData.eqv, PyData.eqvAll]
theorem filter_none (f : Nat → Bool) : ∀ l : List Nat, (l.filter fun c => !f c).isEmpty = l.all f
  | [] => rfl
  | c :: r => by
    rw [List.filter_cons, List.all_cons]
    cases e : f c
    · simp
    · simp [filter_none f r]
end L2

namespace L2
open PySem PySem.Spec PyProof.Rows
/-! ### data that repr shows shortly -/
structure Sh (n k : Nat) (d : PyData) : Prop where
  nd : d.hasDict = false
  sh : d.showable = true
  lv : d.leavesShort 20 = true
  bk : d.bulk ≤ n
  dp : d.depth ≤ k
structure ShA (n k : Nat) (ds : List PyData) : Prop where
  nd : PyData.hasDictAll ds = false
  sh : PyData.showableAll ds = true
  lv : PyData.leavesShortAll 20 ds = true
  bk : PyData.bulkAll ds ≤ n
  dp : PyData.depthAll ds ≤ k
theorem Sh.int {i : Int} (h : i.natAbs < 10 ^ 15) : Sh 0 0 (.int i) := by
  refine ⟨by simp [PyData.hasDict], ?_, ?_, by simp [PyData.bulk], by simp [PyData.depth]⟩
  · simp only [PyData.showable]
    refine decide_eq_true ?_
    by_cases z : i.natAbs = 0
    · rw [z]; decide
    · have : i.natAbs < 2 ^ 60 := Nat.lt_trans h (by decide)
      have := (Nat.log2_lt z).mpr this
      omega
  · simp only [PyData.leavesShort]
    refine decide_eq_true ?_
    show (Str.ofString (toString i)).length ≤ 20
    rw [PySem.ofString_length]
    exact Nat.le_trans (int_text_length_le10 (k := 15) (by decide) h) (by decide)
theorem Sh.str {x : Str} (h : Sok x) : Sh x.length 0 (.str x) := by
  refine ⟨by simp [PyData.hasDict], by simp [PyData.showable], ?_, by simp only [PyData.bulk]; exact Nat.le_refl _, by simp [PyData.depth]⟩
  simp only [PyData.leavesShort]
  rw [List.all_eq_true]
  intro c hc
  have h2 := h.2
  unfold PyData.strOk at h2
  obtain ⟨i, hi, e⟩ := List.getElem_of_mem hc
  have h3 := Array.all_eq_true.mp h2 i (by simpa using hi)
  have h4 : c < 0x110000 := by rw [← e]; simpa using h3
  exact decide_eq_true (Nat.lt_trans h4 (by decide))
theorem ShA.nil : ShA 0 0 [] := ⟨by simp [PyData.hasDictAll], by simp [PyData.showableAll], by simp [PyData.leavesShortAll], by simp [PyData.bulkAll], by simp [PyData.depthAll]⟩
theorem ShA.cons {n m k l : Nat} {d : PyData} {ds : List PyData} (h : Sh n k d) (t : ShA m l ds) : ShA (n + 1 + m) (max k l) (d :: ds) := by
  refine ⟨?_, ?_, ?_, ?_, ?_⟩
  · simp only [PyData.hasDictAll, h.nd, t.nd]; rfl
  · simp only [PyData.showableAll, h.sh, t.sh]; rfl
  · simp only [PyData.leavesShortAll, h.lv, t.lv]; rfl
  · simp only [PyData.bulkAll]; have := h.bk; have := t.bk; omega
  · simp only [PyData.depthAll]; have := h.dp; have := t.dp; omega
theorem ShA.tup {n k : Nat} {ds : List PyData} (h : ShA n k ds) : Sh n (k + 1) (.tuple ds) := ⟨by simp only [PyData.hasDict]; exact h.nd, by simp only [PyData.showable]; exact h.sh, by simp only [PyData.leavesShort]; exact h.lv, by simp only [PyData.bulk]; exact h.bk, by simp only [PyData.depth]; have := h.dp; omega⟩
theorem ShA.lst {n k : Nat} {ds : List PyData} (h : ShA n k ds) : Sh n (k + 1) (.list ds) := ⟨by simp only [PyData.hasDict]; exact h.nd, by simp only [PyData.showable]; exact h.sh, by simp only [PyData.leavesShort]; exact h.lv, by simp only [PyData.bulk]; exact h.bk, by simp only [PyData.depth]; have := h.dp; omega⟩
theorem Sh.mono {n m k l : Nat} {d : PyData} (h : Sh n k d) (a : n ≤ m) (b : k ≤ l) : Sh m l d := ⟨h.nd, h.sh, h.lv, Nat.le_trans h.bk a, Nat.le_trans h.dp b⟩
theorem ShA.mono {n m k l : Nat} {ds : List PyData} (h : ShA n k ds) (a : n ≤ m) (b : k ≤ l) : ShA m l ds := ⟨h.nd, h.sh, h.lv, Nat.le_trans h.bk a, Nat.le_trans h.dp b⟩
theorem ShA.all {n k : Nat} : ∀ {ds : List PyData}, (∀ d ∈ ds, Sh n k d) → ShA (ds.length * (n + 1)) k ds
  | [], _ => ShA.nil.mono (Nat.zero_le _) (Nat.zero_le _)
  | d :: r, h => by
    have a := ShA.cons (h d List.mem_cons_self) (ShA.all (ds := r) fun e he => h e (List.mem_cons_of_mem _ he))
    refine a.mono ?_ (by omega)
    rw [List.length_cons, Nat.succ_mul]
    omega
theorem Sh.shown {n k : Nat} {d : PyData} (h : Sh n k d) (hn : n ≤ 700000) : d.shown.length ≤ sizeLine := by
  have a := PyData.shown_le_bulk 20 (by decide) d h.lv
  have b := h.bk
  rw [sizeLine_eq]
  omega
theorem touches_sh {lo hi : Int} (h0 : 0 ≤ lo) (h1 : hi ≤ 1000000000000) : ∀ {ds : List PyData} {l : Int}, lo ≤ l → touchesFrom hi ds l = true → ∀ d ∈ ds, Sh 2 1 d
  | d :: r, l, hl, h, e, he => by
    have h' : (isStretch d l hi && touchesFrom hi r (sndI d + 1)) = true := h
    obtain ⟨a, b⟩ := Bool.and_eq_true_iff.mp h'
    obtain ⟨i, j, rfl, c1, c2, c3⟩ := stretch_inv a
    rcases List.mem_cons.mp he with rfl | he
    · exact (ShA.tup (.cons (.int (by omega)) (.cons (.int (by omega)) .nil))).mono (by omega) (by omega)
    · exact touches_sh h0 h1 (show lo ≤ j + 1 by omega) b e he
theorem pass_sh {L : Int} {d : PyData} (hL : L ≤ 1000000000000) (h : isPass L d = true) : Sh 60 4 d := by
  obtain ⟨x, m, f, t, u, g, e, rfl, hx, hm, he, f0, ft, tL, hu, g0, g1, _⟩ := passable h
  obtain ⟨y, rfl, hy⟩ := word_inv hm
  obtain ⟨z, rfl, hz⟩ := word_inv he
  have ly : ∀ x ∈ modes, Sok x ∧ x.length ≤ 5 := by decide +kernel
  have lz : ∀ x ∈ tails, Sok x ∧ x.length ≤ 4 := by decide +kernel
  have lx := nameOk_len hx
  cases u with
  | tuple ds =>
    have h2 : (decide (ds.length ≤ 6) && touchesFrom t ds f) = true := hu
    obtain ⟨a, b⟩ := Bool.and_eq_true_iff.mp h2
    have l6 : ds.length ≤ 6 := of_decide_eq_true a
    have sU : Sh 18 2 (.tuple ds) := (ShA.all (touches_sh f0 (by omega) (Int.le_refl f) b)).tup.mono (by omega) (Nat.le_refl _)
    have q := ShA.tup (.cons (.str (nameOk_ok hx)) (.cons (.str (ly y hy).1) (.cons (.int (i := f) (by omega)) (.cons (.int (i := t) (by omega)) (.cons sU (.cons (.int (i := g) (by omega)) (.cons (.str (lz z hz).1) .nil)))))))
    have := (ly y hy).2
    have := (lz z hz).2
    exact q.mono (by omega) (by omega)
  | _ => simp [touchesOk] at hu
/-- repr([L, passes]) -/
theorem track_sh {L : Int} {ds : List PyData} (h0 : 0 ≤ L) (hL : L ≤ 1000000000000) (l8 : ds.length ≤ 8) (h : ∀ d ∈ ds, isPass L d = true) : Sh 600 6 (.list [.int L, .tuple ds]) := by
  have a : ShA 488 4 ds := (ShA.all fun d hd => pass_sh hL (h d hd)).mono (by omega) (Nat.le_refl _)
  exact (ShA.lst (.cons (.int (i := L) (by omega)) (.cons a.tup .nil))).mono (by omega) (by omega)
/-- law_same: whether a track has this length and these passes -/
def spSame (K : PySem.W.Frag) (C : Addr) : Sp := fun vs H Q _ => ∃ (p x t : Addr) (L : Int) (ds : List PyData), vs = [.ref x, .int L, .ref t] ∧ Trk K C p x H L ds ∧ Dn K p H (.ref t) (.tuple ds) ∧ ∀ H', Same H H' → Q (.bl true) H'
end L2

namespace L2
open PySem PySem.Spec PyProof.Rows
theorem fw_nodup {L : Int} : ∀ {ds : List PyData} {i : Nat} {ns : List Str}, firstWrong L ds i ns = none → (ds.map nameOf).Nodup ∧ ∀ d ∈ ds, nameOf d ∉ ns
  | [], _, _, _ => ⟨by simp, fun _ h => by cases h⟩
  | d :: r, i, ns, h => by
    unfold firstWrong at h
    split at h
    · cases h
    · rename_i c
      have c3 : nameOf d ∉ ns := fun z => c (by rw [show ns.contains (nameOf d) = true from by simpa using z]; simp)
      obtain ⟨a, b⟩ := fw_nodup h
      refine ⟨?_, ?_⟩
      · rw [List.map_cons, List.nodup_cons]
        refine ⟨fun z => ?_, a⟩
        obtain ⟨e, he, hn⟩ := List.mem_map.mp z
        exact b e he (by rw [hn]; simp)
      · intro e he
        rcases List.mem_cons.mp he with rfl | he
        · exact c3
        · exact fun z => b e he (List.mem_append_left _ z)
theorem fw_mk {L : Int} : ∀ {ds : List PyData} {i : Nat} {ns : List Str}, (∀ d ∈ ds, isPass L d = true) → i + ds.length ≤ 8 → (ds.map nameOf).Nodup → (∀ d ∈ ds, nameOf d ∉ ns) → firstWrong L ds i ns = none
  | [], _, _, _, _, _, _ => rfl
  | d :: r, i, ns, hp, hl, hd, hn => by
    rw [List.length_cons] at hl
    rw [List.map_cons, List.nodup_cons] at hd
    unfold firstWrong
    rw [if_neg]
    · refine fw_mk (fun e he => hp e (List.mem_cons_of_mem _ he)) (by omega) hd.2 fun e he z => ?_
      rcases List.mem_append.mp z with z | z
      · exact hn e (List.mem_cons_of_mem _ he) z
      · exact hd.1 (by rw [← List.mem_singleton.mp z]; exact List.mem_map_of_mem he)
    · have c1 : ¬ 8 ≤ i := by omega
      have c3 : ns.contains (nameOf d) = false := by
        have := hn d List.mem_cons_self
        simpa using this
      rw [decide_eq_false c1, hp d List.mem_cons_self, c3]
      simp
theorem plOf_none {z : Str} : ∀ {ds : List PyData} {i : Nat}, (∀ d ∈ ds, nameOf d ≠ z) → plOf z ds i = none
  | [], _, _ => rfl
  | d :: r, i, h => by
    unfold plOf
    rw [if_neg (h d List.mem_cons_self)]
    exact plOf_none fun e he => h e (List.mem_cons_of_mem _ he)
theorem plOf_at {d : PyData} : ∀ {ds : List PyData} {i k : Nat}, (ds.map nameOf).Nodup → ds[k]? = some d → plOf (nameOf d) ds i = some (i + k)
  | [], _, _, _, h => by simp at h
  | e :: r, i, 0, hd, h => by
    simp at h
    subst h
    unfold plOf
    rw [if_pos rfl]
    rfl
  | e :: r, i, k + 1, hd, h => by
    rw [List.map_cons, List.nodup_cons] at hd
    have h' : r[k]? = some d := by simpa using h
    have m : d ∈ r := List.mem_of_getElem? h'
    unfold plOf
    rw [if_neg fun z => hd.1 (by rw [z]; exact List.mem_map_of_mem m), plOf_at hd.2 h']
    congr 1
    omega
theorem fw_perm {L : Int} {ds es : List PyData} (h : firstWrong L ds 0 [] = none) (p : List.Perm es ds) : firstWrong L es 0 [] = none := by
  obtain ⟨a, _⟩ := fw_nodup h
  rcases firstWrong_spec h with q | q
  · refine fw_mk (fun d hd => q.1 d (p.mem_iff.mp hd)) (by rw [p.length_eq]; exact q.2) ((p.map nameOf).nodup_iff.mpr a) fun _ _ z => by cases z
  · subst q
    rw [p.eq_nil]
    rfl
theorem fw_cons {L : Int} {ds : List PyData} {d : PyData} (h : firstWrong L ds 0 [] = none) (l : ds.length < 8) (hp : isPass L d = true) (hn : ∀ e ∈ ds, nameOf e ≠ nameOf d) : firstWrong L (d :: ds) 0 [] = none := by
  obtain ⟨a, _⟩ := fw_nodup h
  refine fw_mk (fun e he => ?_) (by rw [List.length_cons]; omega) ?_ fun _ _ z => by cases z
  · rcases List.mem_cons.mp he with rfl | he
    · exact hp
    · rcases firstWrong_spec h with q | q
      · exact q.1 e he
      · subst q; cases he
  · rw [List.map_cons, List.nodup_cons]
    refine ⟨fun z => ?_, a⟩
    obtain ⟨e, he, hn'⟩ := List.mem_map.mp z
    exact hn e he hn'
theorem fw_put {L : Int} {ds : List PyData} {d : PyData} (i : Nat) (h : firstWrong L ds 0 [] = none) (l : ds.length < 8) (hp : isPass L d = true) (hn : ∀ e ∈ ds, nameOf e ≠ nameOf d) : firstWrong L (ds.take i ++ d :: ds.drop i) 0 [] = none := by
  refine fw_perm (fw_cons h l hp hn) ?_
  refine List.perm_middle.trans ?_
  rw [List.take_append_drop]
theorem row_parts {ds : List PyData} {i : Nat} {d : PyData} (h : ds[i]? = some d) : ds = ds.take i ++ d :: ds.drop (i + 1) := by
  obtain ⟨l, e⟩ := List.getElem?_eq_some_iff.mp h
  rw [← e, List.getElem_cons_drop, List.take_append_drop]
theorem perm_at {ds : List PyData} {i : Nat} {d : PyData} (h : ds[i]? = some d) : List.Perm (d :: (ds.take i ++ ds.drop (i + 1))) ds := by
  have := row_parts h
  exact (List.perm_middle.symm.trans (by rw [← this]))
theorem fw_tail {L : Int} {ds : List PyData} {d : PyData} (h : firstWrong L (d :: ds) 0 [] = none) : firstWrong L ds 0 [] = none := by
  obtain ⟨a, _⟩ := fw_nodup h
  rw [List.map_cons, List.nodup_cons] at a
  rcases firstWrong_spec h with q | q
  · refine fw_mk (fun e he => q.1 e (List.mem_cons_of_mem _ he)) ?_ a.2 fun _ _ z => by cases z
    have := q.2
    rw [List.length_cons] at this
    omega
  · cases q
theorem fw_without {L : Int} {ds : List PyData} {i : Nat} {d : PyData} (h : firstWrong L ds 0 [] = none) (e : ds[i]? = some d) : firstWrong L (ds.take i ++ ds.drop (i + 1)) 0 [] = none := fw_tail (fw_perm h (perm_at e))
theorem fw_moved {L : Int} {ds : List PyData} {i j : Nat} {d : PyData} (h : firstWrong L ds 0 [] = none) (e : ds[i]? = some d) : firstWrong L ((ds.take i ++ ds.drop (i + 1)).take j ++ d :: (ds.take i ++ ds.drop (i + 1)).drop j) 0 [] = none := by
  refine fw_perm h ((List.perm_middle.trans ?_).trans (perm_at e))
  rw [List.take_append_drop]
theorem fw_set {L : Int} {ds : List PyData} {i : Nat} {d e : PyData} (h : firstWrong L ds 0 [] = none) (he : ds[i]? = some d) (hp : isPass L e = true) (hn : nameOf e = nameOf d) : firstWrong L (ds.set i e) 0 [] = none := by
  obtain ⟨a, _⟩ := fw_nodup h
  rcases firstWrong_spec h with q | q
  · refine fw_mk (fun f hf => ?_) (by rw [List.length_set]; exact q.2) ?_ fun _ _ z => by cases z
    · rcases List.mem_or_eq_of_mem_set hf with m | m
      · exact q.1 f m
      · rw [m]; exact hp
    · rw [List.map_set, hn]
      have l := (List.getElem?_eq_some_iff.mp he).1
      have : (ds.map nameOf).set i (nameOf d) = ds.map nameOf := by
        refine List.ext_getElem? fun k => ?_
        rw [List.getElem?_set]
        split
        · rename_i z
          subst z
          rw [List.getElem?_map, he]
          simp [l]
        · rfl
      rw [this]
      exact a
  · subst q
    rfl
theorem Trk.nodup {K : PySem.W.Frag} {C p x : Addr} {H : Hp} {L : Int} {ds : List PyData} (h : Trk K C p x H L ds) : (ds.map nameOf).Nodup := (fw_nodup h.choose_spec.choose_spec.2.2.2).1
theorem Trk.right {K : PySem.W.Frag} {C p x : Addr} {H : Hp} {L : Int} {ds : List PyData} (h : Trk K C p x H L ds) : firstWrong L ds 0 [] = none := h.choose_spec.choose_spec.2.2.2
end L2
namespace L2
open PySem PySem.Spec PyProof.Rows
/-! ### promises of the rows that try all places -/
def spPutRight (K : PySem.W.Frag) (C : Addr) : Sp := fun vs H Q _ => ∃ (p x : Addr) (L : Int) (ds : List PyData) (v : V) (d : PyData), vs = [.ref x, v] ∧ Trk K C p x H L ds ∧ ds.length < 8 ∧ Dn K p H v d ∧ isPass L d = true ∧ (∀ e ∈ ds, nameOf e ≠ nameOf d) ∧ ∀ H', Same H H' → Q (.bl true) H'
def spTurnedRight (K : PySem.W.Frag) (C : Addr) : Sp := fun vs H Q _ => ∃ (p x : Addr) (L : Int) (ds : List PyData), vs = [.ref x] ∧ Trk K C p x H L ds ∧ ∀ H', Same H H' → Q (.bl true) H'
def spChangedRight (K : PySem.W.Frag) (C : Addr) : Sp := fun vs H Q _ => ∃ (p x : Addr) (L : Int) (ds : List PyData) (b : Nat), vs = [.ref p, .ref x] ∧ Trk K C p x H L ds ∧ ds.length ≤ 7 ∧ Pu (b + 600) H p ∧ ∀ H', Sm p H H' → Pu b H' p → Q (.bl true) H'
def spRight (K : PySem.W.Frag) : Sp := fun vs H Q _ => ∃ (p : Addr), vs = [.ref p] ∧ Pu 900000000 H p ∧ ∀ H', Sm p H H' → Q (.bl true) H'
end L2
namespace L2
open PySem PySem.Spec PyProof.Rows
section
variable {P : Program} {w : World} {K : PySem.W.Frag} {mg : Str → Option Value} {base : Heap}
theorem Fun.okN {x qual : Str} {st : Stmt} {f : Addr} {fd : FuncData} {N ps : List Str} {k : Nat} {sp : Sp} (F : Fun K x qual st f fd) (S : FnScope N ps (defScope st)) (len : ∀ vs H Q E, sp vs H Q E → vs.length = ps.length)
    (body : ∀ (cdv : Value) (A : Around) (outer : List Env) (s : Shared) (H : Hp) (vs : List V) (Q : VK) (E : XK), A.guards = some [] → Room k (A.deeper (envOfC qual (defScope st) s.heap.objs.size f cdv)) → sp vs H Q E →
      ∃ t, PSs (cxOf CX0 P w K mg base N qual (defScope st) f cdv A outer s H E).nox (defBody st) t ∧ t { nx := fun _ H' => Q .non H', rt := Q } (start N vs) H) : FnG P w K mg base CX0 (k + 1) f fd ps sp := by
  refine F.okG S len fun cdv A outer s H vs Q E hg hr hsp => ?_
  obtain ⟨t, h, q⟩ := body cdv A outer s H vs Q E hg hr hsp
  exact ⟨t, h.nox, q⟩
end
end L2
namespace L2
open PySem PySem.Spec PyProof.Rows
/-- a loop over tracks that are all of this length and these passes -/
theorem for_mates {K : PySem.W.Frag} {C p o : Addr} {m l : Nat} {te : TE} {ys : List Addr} {σ : St} {H : Hp} {D : Ends} {L : Int} {es : List PyData} {y0 : Option V}
    (h0 : σ.set m y0 = σ) (hm : m < σ.length) (hl : m ≠ l) (hL : σ[l]? = some (some (.int L))) (ho : SqL K H o (ys.map V.ref)) (hy : ∀ y ∈ ys, Trk K C p y H L es)
    (ht : ∀ y H', Same H H' → ∀ Q' : VK, (∀ r H'', Same H' H'' → Dn K p H'' (.ref r) (.tuple es) → Q' (.ref r) H'') → te (σ.set m y) H' Q') (hd : ∀ y H', Same H H' → D.nx (σ.set m y) H') :
    ∃ W : Nat → Nat → St → Hp → Prop, (∃ m, W 0 m σ H) ∧ ∀ i n σ H, W i n σ H →
      ((Itl K o).stop i H ∧ D.nx σ H) ∨ ((Itl K o).go i H ∧ ∃ N : St → Hp → Prop, (∀ σ' H', N σ' H' → ∃ m', m' < n ∧ W (i + 1) m' σ' H') ∧ ∀ x H', (Itl K o).yld i H x H' → gName m x σ H' fun σ2 H2 =>
        tIfS (tNot (tB (tCall (spSame K C) [] E0 (tCons (tVar m) (tCons (tVar l) (tCons te tNil)))))) (tRet (tC (.bl false))) tNext { D with nx := N, ct := N, bk := D.nx } σ2 H2) := by
  refine for_list (K := K) (a := o) (xs := ys.map V.ref) (fun i σ' H' => ∃ y, σ' = σ.set m y ∧ Same H H') ⟨y0, h0.symm, .refl H⟩ (fun i σ' H' _ h => h.elim fun y h => h.2.seq ho) ?_ ?_
  · rintro i x σ' H' hx ⟨y, rfl, s⟩
    obtain ⟨z, hz, rfl⟩ := List.mem_map.mp (List.mem_of_getElem? hx)
    show tIfS _ _ _ _ ((σ.set m y).set m (some (.ref z))) H'
    rw [List.set_set]
    refine ⟨.ref z, by simp [hm], .int L, by rw [List.getElem?_set_ne hl]; exact hL, ht _ H' s _ fun r H2 s2 hr => ?_⟩
    refine ⟨p, z, r, L, es, rfl, (hy z hz).same (s.trans s2), hr, fun H3 s3 => ⟨true, rfl, ?_⟩⟩
    exact iteF ⟨_, rfl, (s.trans s2).trans s3⟩
  · rintro σ' H' ⟨y, rfl, s⟩
    exact hd y H' s
/-- some[:at] + (x,) + some[at:] -/
theorem evS_put {K : PySem.W.Frag} {σ : St} {H : Hp} {a : Addr} {xs : List V} {i m : Nat} {tv : TE} {te : TE} {v : V} (hv : σ[m]? = some (some (.ref a))) (hs : SqT K H a xs) (h1 : ∀ H' (R : Option Int → Hp → Prop), R (some (i : Int)) H' → tPart tv σ H' R)
    (hx : ∀ H', Same H H' → ∀ R : VK, R v H' → te σ H' R) (hl : xs.length ≤ 1000) :
    EvS K (tOp (rCatA K) (tOp (rCatA K) (tSl (rSlA K) (tVar m) tNoPart (tPart tv)) (tTup (tCons te tNil))) (tSl (rSlA K) (tVar m) (tPart tv) tNoPart)) σ H (xs.take i ++ v :: xs.drop i) := by
  have ev := evS_cat (K := K) (evS_cat (evS_sl (tl := tNoPart) (th := tPart tv) (evS_var (i := m) hv hs) (fun _ _ => part_none) fun H' R => h1 H' R)
      (fun H' s => evS_tup1 (te := te) (v := v) (hx H' s)) ?_) (fun H' s => evS_sl (tl := tPart tv) (th := tNoPart) (evS_var (i := m) hv (s.seqT hs)) (fun H' R => h1 H' R) fun _ _ => part_none) ?_
  · rw [cut_to, cut_from, List.append_assoc] at ev
    exact ev
  · have := cutV_length xs none (some (i : Int))
    rw [sizeLine_eq]
    simp only [List.length_cons, List.length_nil]
    omega
  · have := cutV_length xs none (some (i : Int))
    have := cutV_length xs (some (i : Int)) none
    rw [sizeLine_eq]
    simp only [List.length_append, List.length_cons, List.length_nil]
    omega
end L2
namespace L2
open PySem PySem.Spec PyProof.Rows
/-- some[:k] + some[k + 1:] -/
theorem evS_out {K : PySem.W.Frag} {σ : St} {H : Hp} {a : Addr} {xs : List V} {i m n : Nat} (hv : σ[m]? = some (some (.ref a))) (hk : σ[n]? = some (some (.int (i : Int)))) (hs : SqT K H a xs) (hl : xs.length ≤ 1000) :
    EvS K (tOp (rCatA K) (tSl (rSlA K) (tVar m) tNoPart (tPart (tVar n))) (tSl (rSlA K) (tVar m) (tPart (tOp (rI0 fun i j => .int (i + j)) (tVar n) (tC (.int 1)))) tNoPart)) σ H (xs.take i ++ xs.drop (i + 1)) := by
  have ev := evS_cat (K := K) (evS_sl (tl := tNoPart) (th := tPart (tVar n)) (evS_var (σ := σ) (i := m) hv hs) (fun _ _ => part_none) fun _ _ => part_var hk)
      (fun H' s => evS_sl (tl := tPart (tOp (rI0 fun i j => .int (i + j)) (tVar n) (tC (.int 1)))) (th := tNoPart) (evS_var (i := m) hv (s.seqT hs)) (fun _ _ => part_succ hk) fun _ _ => part_none) ?_
  · rw [cut_to, show ((i : Nat) : Int) + 1 = ((i + 1 : Nat) : Int) by omega, cut_from] at ev
    exact ev
  · have := cutV_length xs none (some (i : Int))
    have := cutV_length xs (some ((i : Int) + 1)) none
    rw [sizeLine_eq]
    omega
/-- the i-th pass of a row: its place, its name -/
theorem row_at {K : PySem.W.Frag} {p : Addr} {H : Hp} {xs : List V} {ds : List PyData} {L : Int} {i : Nat} (ha : DnAll K p H xs ds) (hp : ∀ d ∈ ds, isPass L d = true) (hi : i < xs.length) :
    ∃ (b : Addr) (ys : List V) (z : Str) (es : List PyData), xs[i]? = some (.ref b) ∧ ds[i]? = some (.tuple (.str z :: es)) ∧ SqT K H b (.str z :: ys) ∧ DnAll K p H (.str z :: ys) (.str z :: es) ∧ Sok z ∧ nameOf (.tuple (.str z :: es)) = z ∧ (.str z :: es : List PyData).length = 7 ∧ nameOk z = true ∧ z ≠ "old" := by
  have hd : i < ds.length := by rw [← ha.length]; exact hi
  have e := List.getElem?_eq_getElem hd
  have hpi := hp _ (List.getElem_mem hd)
  generalize ds[i] = d at e hpi
  obtain ⟨v, hv, kv⟩ := ha.getD e
  obtain ⟨z, m, f, t, u, g, e', rfl, hz, _, _, _, _, _, _, _, _, ho⟩ := passable hpi
  obtain ⟨b, ys, rfl, hb, hab⟩ := kv.of_tup
  obtain ⟨x1, x2, x3, x4, x5, x6, x7, rfl, g1, _⟩ := hab.seven
  obtain rfl := g1.of_str
  exact ⟨b, [x2, x3, x4, x5, x6, x7], z, _, hv, e, hb, hab, nameOk_ok hz, rfl, rfl, hz, ho⟩
end L2
namespace L2
open PySem PySem.Spec PyProof.Rows
theorem evS_of {K : PySem.W.Frag} {σ : St} {H : Hp} {te : TE} {b : Addr} {ys : List V} (h : ∀ R : VK, R (.ref b) H → te σ H R) (hs : SqT K H b ys) : EvS K te σ H ys := fun Q q => h _ (q b H (.refl H) hs)
/-- some[:i] + (x,) + some[k:] -/
theorem evS_mid {K : PySem.W.Frag} {σ : St} {H : Hp} {xs : List V} {i k : Nat} {ta tb te : TE} {tl th : TO} {v : V} (h0 : EvS K ta σ H xs) (h1 : ∀ H', Same H H' → EvS K tb σ H' xs)
    (hl : ∀ H' (R : Option Int → Hp → Prop), R (some (i : Int)) H' → tl σ H' R) (hh : ∀ H' (R : Option Int → Hp → Prop), R (some (k : Int)) H' → th σ H' R)
    (hx : ∀ H', Same H H' → ∀ R : VK, R v H' → te σ H' R) (l : xs.length ≤ 1000) :
    EvS K (tOp (rCatA K) (tOp (rCatA K) (tSl (rSlA K) ta tNoPart tl) (tTup (tCons te tNil))) (tSl (rSlA K) tb th tNoPart)) σ H (xs.take i ++ v :: xs.drop k) := by
  have ev := evS_cat (K := K) (evS_cat (evS_sl (tl := tNoPart) (th := tl) h0 (fun _ _ => part_none) fun H' R => hl H' R)
      (fun H' s => evS_tup1 (te := te) (v := v) (hx H' s)) ?_) (fun H' s => evS_sl (tl := th) (th := tNoPart) (h1 H' s) (fun H' R => hh H' R) fun _ _ => part_none) ?_
  · rw [cut_to, cut_from, List.append_assoc] at ev
    exact ev
  · have := cutV_length xs none (some (i : Int))
    rw [sizeLine_eq]
    simp only [List.length_cons, List.length_nil]
    omega
  · have := cutV_length xs none (some (i : Int))
    have := cutV_length xs (some (k : Int)) none
    rw [sizeLine_eq]
    simp only [List.length_append, List.length_cons, List.length_nil]
    omega
theorem take_set {α : Type} {l : List α} {i : Nat} {v : α} (h : i < l.length) : l.take i ++ v :: l.drop (i + 1) = l.set i v := by
  rw [List.set_eq_take_append_cons_drop, if_pos h]
theorem part_at : ∀ j < 6, ∃ pt, parts[j]? = some pt ∧ partIx pt = some (j + 1) ∧ Sok pt := by
  intro j hj
  match j, hj with
  | 0, _ => exact ⟨"mode", rfl, by decide +kernel, by decide +kernel⟩
  | 1, _ => exact ⟨"from", rfl, by decide +kernel, by decide +kernel⟩
  | 2, _ => exact ⟨"to", rfl, by decide +kernel, by decide +kernel⟩
  | 3, _ => exact ⟨"touches", rfl, by decide +kernel, by decide +kernel⟩
  | 4, _ => exact ⟨"glide", rfl, by decide +kernel, by decide +kernel⟩
  | 5, _ => exact ⟨"tail", rfl, by decide +kernel, by decide +kernel⟩
end L2

namespace PySem.W
open PySem PySem.Spec
section
variable {prog : Program} {w : World} {A : Around} {E : Value → Shared → Prop} {s : Shared} {K : Frag} {x C L f : Addr} {h₀ : Heap} {m : Str → Option Value} {ox : Obj} {od : Option Obj} {b tb : Value}
/-- != by an own __eq__ (and no own __ne__) -/
theorem myNe_entry (X : K.In s.heap) (I : InstAt s.heap x ox C od) (hs : findIn K (.ref C) "__eq__" = some (some (.ref f))) (hf : isFn K (.ref f) = true) (hu : A.units < cLine) {Q : Fin → Shared → Prop}
    (h : wpAny (model prog w) A (call (.ref f) [.ref x, b]) (fun v s' => ∃ r, v = .bool r ∧ Q (.done (.ret (.bool (!r)))) s') E s) :
    wpAny (model prog w) A (Builtin.«object.__ne__» ⟨[.ref x, b], []⟩) Q E s := by
  unfold Builtin.«object.__ne__»
  repeat (first
    | with_reducible refine wpAny_cRoomFor hu ?_
    | (refine wpAny_bind (m := callSpecialIfBound? (.ref x) (Str.ofString "__eq__") [b])
        (ifBound_K X I hs hf (wpAny_mono h (fun r s' hr => by
          obtain ⟨b, rfl, hq⟩ := hr
          repeat (first | exact hq | exact wpAny_pure hq | exact wpAny_truthy_bool hq | (refine wpAny_bind (m := truthy (.bool _)) (wpAny_truthy_bool ?_)) | wp_step)) fun _ _ e => e)))
    | wp_step)
theorem myNe_K {Q : Value → Shared → Prop} (hu : A.units + 1 < cLine) (Fk : PyProof.Rows.Fr h₀ L s.heap m) (X₀ : K.In h₀) (I : InstAt s.heap x ox C od) (hb : Looks (model prog w) s.heap (typeOf b) tb) (hn : notFirst K C tb = true)
    (hne : findIn K (.ref C) "__ne__" = some (some (.builtin "object.__ne__"))) (hob : subIn K (.ref C) (.type "object") = some true)
    (hs : findIn K (.ref C) "__eq__" = some (some (.ref f))) (hf : isFn K (.ref f) = true)
    (h : wpAny (model prog w) A.in1 (call (.ref f) [.ref x, b]) (fun v s' => ∃ r, v = .bool r ∧ Q (.bool (!r)) s') E s) : wpAny (model prog w) A (richCompare .NotEq (.ref x) b) Q E s := by
  have X := X₀.keeps Fk.keep
  have one : wpAny (model prog w) A (tryCompare (.ref x) "__ne__" b) (fun r s' => ∃ v, r = some v ∧ Q v s') E s := by
    unfold tryCompare
    simp only [callSpecialIfBound?, bindSpecialIfBound?]
    refine wpAny_bind (wpAny_holding (wpAny_bind (wpAny_bind (wpAny_bind (I.type.here ((looks_findIn X hne).here ?_))))))
    simp only [PySem.F.cmp_object.ne.bind]
    refine wpAny_bind (wpAny_askSetting (wpAny_ite ?_))
    have run : wpAny (model prog w) A (call (.builtin "object.__ne__") [.ref x, b]) (fun v s' => v ≠ .notImplemented ∧ Q v s') E s := by
      refine wpAny_call (codeAny_call_builtin PySem.F.cmp_object.ne.plain PySem.F.cmpEntry_ne
        (check_slot PySem.F.cmpKind_ne PySem.F.cmpSplit_ne (I.type.andThen (looks_subIn X hob)) (PySem.F.cmpArgs_ne _ _) ?_))
      refine myNe_entry (A := A.in1) X I hs hf hu (wpAny_mono h (fun v s' hv => ?_) fun _ _ e => e)
      obtain ⟨r, rfl, hq⟩ := hv
      exact ⟨r, rfl, fun z => (nomatch z), hq⟩
    have fin : wpAny (model prog w) A (call (.builtin "object.__ne__") ([.ref x] ++ [b]) >>= fun v => pure (some v)) (fun a s' => wpAny (model prog w) A (match a with | some .notImplemented => pure none | none => pure none | some v => pure (some v)) (fun r s' => ∃ v, r = some v ∧ Q v s') E s') E s :=
      wpAny_bind (wpAny_mono run (fun v s' h' => wpAny_pure (by
        obtain ⟨hn', hq⟩ := h'
        cases v <;> first | exact absurd rfl hn' | exact wpAny_pure ⟨_, rfl, hq⟩)) fun _ _ h' => h')
    split
    · exact wpAny_bind (wpAny_pure (wpAny_pure (by exact fin)))
    · exact wpAny_tryCatch (wpAny_bind (wpAny_pure (wpAny_pure (by exact fin))))
  unfold richCompare
  simp only [oneThing_ref]
  refine wpAny_holding (wpAny_bind (wpAny_cRoomFor (Nat.lt_of_succ_lt hu) ?_))
  refine wpAny_bind (I.type.here (wpAny_bind (hb.here ?_)))
  split
  · rename_i q
    have e : subIn K tb (.ref C) = some false := by
      rcases Bool.or_eq_true_iff.mp hn with e | e
      · rw [beq_iff_eq.mp e] at q; simp at q
      · exact beq_iff_eq.mp e
    refine wpAny_bind ((looks_subIn X e).here ?_)
    simp only [Bool.false_eq_true, if_false]
    refine wpAny_bind (wpAny_mono one (fun r s' z => ?_) fun _ _ e => e)
    obtain ⟨v, rfl, hq⟩ := z
    exact wpAny_pure hq
  · refine wpAny_bind (wpAny_pure ?_)
    simp only [Bool.false_eq_true, if_false]
    refine wpAny_bind (wpAny_mono one (fun r s' z => ?_) fun _ _ e => e)
    obtain ⟨v, rfl, hq⟩ := z
    exact wpAny_pure hq
end
end PySem.W

namespace L2
open PySem PySem.Spec PyProof.Rows
section
variable {X : Cx} {n : Nat}
/-- x != y, instances of an own class that are equal -/
def rNeI (C : Addr) (R : Addr → Addr → Hp → Prop) : R2 := fun x y H Q => DIns C R x y H ∧ ∀ H', Same H H' → Q (.bl false) H'
theorem op_neI {CX : CXT} {C f : Addr} {fd : FuncData} {ps : List Str} {R : Addr → Addr → Hp → Prop} {E : XK} (F : FnOk X.prog X.w X.K X.mg X.base CX n f fd ps (spEq R)) (hr : Room (n + 1) X.A)
    (hne : PySem.W.findIn X.K (.ref C) "__ne__" = some (some (.builtin "object.__ne__"))) (hob : PySem.W.subIn X.K (.ref C) (.type "object") = some true)
    (hs : PySem.W.findIn X.K (.ref C) "__eq__" = some (some (.ref f))) (hf : PySem.W.isFn X.K (.ref f) = true) (hb : Binds X.K fd ps []) (hx : Passes CX X E) : OpR X (compareOp .NotEq) (rNeI C R) := by
  intro pins s σ H x y v u Q I rx ry hq
  obtain ⟨d, q⟩ := hq
  obtain ⟨a, b, dx, dy, fs, gs, rfl, rfl, ha, hb', hr'⟩ := d
  cases rx
  cases ry
  obtain ⟨mA, J, _⟩ := ins_get I.hok ha
  obtain ⟨mB, J', _⟩ := ins_get I.hok hb'
  obtain ⟨od, J, _⟩ := J.look
  obtain ⟨od', J', _⟩ := J'.look
  obtain ⟨m, hF⟩ := I.fr
  show wpAny (model X.prog X.w) X.A (richCompare .NotEq (.ref a) (.ref b)) (EP X pins σ Q) X.xe s
  refine PySem.W.myNe_K (tb := .ref C) (by have := hr.units; omega) hF I.ok.mod.kin J J'.type (by simp [PySem.W.notFirst]) hne hob hs hf ?_
  have sb : Sub X n X.A.in1 := Sub.in1 ⟨hr, rfl⟩
  have hsp : spEq R [.ref a, .ref b] H (fun v H' => v = .bl true ∧ Ext H H') E := ⟨a, b, rfl, hr', fun H' e => ⟨rfl, e⟩⟩
  have e0 : Env0 X.prog X.w X.K X.mg X.base X.A.in1 X.stack s H := by
    have e := I.env0
    exact ⟨by rw [sb.fr]; exact e.frames, e.mod, e.bs, e.bsz, e.funs, e.frf, e.hok, e.bare⟩
  have hl := F.len _ _ _ _ hsp
  have r2 : Vals [V.ref a, V.ref b] [Value.ref a, Value.ref b] := .cons rfl (.cons rfl .nil)
  refine wpAny_call (codeAny_mono (F.run X.A.in1 X.stack s H ⟨[.ref a, .ref b], []⟩ [.ref a, .ref b] [.ref a, .ref b] _ E sb.room e0 (by
    have := hb s [.ref a, .ref b] I.kIn (by simpa using hl)
    simpa using this) r2 hsp) fun r s' hq => ?_)
  cases r with
  | error e => exact hx pins σ H s e s' I hq
  | ok fl =>
    cases fl with
    | ret w =>
      obtain ⟨z, H', I', rz, ez, ex⟩ := I.after hq
      subst ez
      cases rz
      exact ⟨true, rfl, .bl false, H', I', rfl, q H' ex⟩
    | next => exact False.elim hq
    | brk => exact False.elim hq
    | cont => exact False.elim hq
/-- what Track.__eq__ is asked here: tracks with the same rows -/
def TwoTrk (K : PySem.W.Frag) (C : Addr) : Addr → Addr → Hp → Prop := fun a b H => ∃ p L ds, Trk K C p a H L ds ∧ Trk K C p b H L ds ∧ SeqAt.shaped (.tuple ds) = true ∧ PyData.eqv (.tuple ds) (.tuple ds) = true
end
end L2
namespace L2
open PySem PySem.Spec PyProof.Rows
/-! ### the law's own rows -/
def aD : PyData := .tuple [.str "a", .str "touch", .int 2, .int 8, .tuple [.tuple [.int 3, .int 5]], .int 3, .str "stop"]
def bD : PyData := .tuple [.str "b", .str "latch", .int 4, .int 10, .tuple [.tuple [.int 6, .int 7]], .int 0, .str "stop"]
def bE : List PyData := [.str "b", .str "latch", .int 4, .int 10, .tuple [.tuple [.int 6, .int 7]], .int 0, .str "stop"]
def bOn : PyData := .tuple [.str "b", .str "latch", .int 4, .int 10, .tuple [.tuple [.int 6, .int 7]], .int 0, .str "on"]
theorem own_rows : firstWrong 12 [aD, bD] 0 [] = none ∧ firstWrong 12 [bD, aD] 0 [] = none ∧ firstWrong 12 [bOn, aD] 0 [] = none ∧ firstWrong 12 [aD] 0 [] = none ∧ isPass 12 bD = true ∧ plOf "a" [aD, bD] 0 = some 0 ∧ plOf "b" [aD, bD] 0 = some 1 ∧ plOf "b" [bD, aD] 0 = some 0 ∧ plOf "b" [aD] 0 = none ∧ nameOf bD = "b" := by decide +kernel
theorem own_eqs : SeqAt.shaped (.tuple [bOn, aD]) = true ∧ PyData.eqv (.tuple [bOn, aD]) (.tuple [bOn, aD]) = true ∧ SeqAt.shaped (.tuple [aD]) = true ∧ PyData.eqv (.tuple [aD]) (.tuple [aD]) = true ∧ SeqAt.shaped (.tuple [aD, bD]) = true ∧ PyData.eqv (.tuple [aD, bD]) (.tuple [aD, bD]) = true := by decide +kernel
theorem own_oks : Sok "a" ∧ Sok "b" ∧ Sok "touch" ∧ Sok "latch" ∧ Sok "stop" ∧ Sok "on" ∧ Sok "tail" := by decide +kernel
/-- ((i, j),) -/
theorem dn_pair {K : PySem.W.Frag} {p : Addr} {H : Hp} {t1 t2 : Addr} {i j : Int} (h1 : H t1 = some (.tup [.int i, .int j])) (h2 : H t2 = some (.tup [.ref t1])) : Dn K p H (.ref t2) (.tuple [.tuple [.int i, .int j]]) :=
  .tup (.inl (.inl h2)) (.cons (.tup (.inl (.inl h1)) (.cons (.int _) (.cons (.int _) .nil))) .nil)
theorem SqL.sm' {K : PySem.W.Frag} {H H1 H2 : Hp} {a p : Addr} {xs : List V} (h : SqL K H a xs) (np : H p = none) (s : Same H H1) (m : Sm p H1 H2) : SqL K H2 a xs := by
  rcases h with (h | ⟨o, h⟩) | h
  · exact .inl (.inl (m _ _ (ne_of_none h np) (s _ _ h)))
  · exact .inl (.inr ⟨o, m _ _ (ne_of_none h np) (s _ _ h)⟩)
  · exact .inr h
/-- Track(L, t) behind the two new objects -/
theorem spInit_new {K : PySem.W.Frag} {C p t : Addr} {H : Hp} {L : Int} {ds : List PyData} {Q : VK} (hd : Dn K p H (.ref t) (.tuple ds)) (hL : 1 ≤ L ∧ L ≤ 1000000000000) (hw : firstWrong L ds 0 [] = none) (q : NewTrk K C p H L ds Q) :
    ∀ y dy, H y = none → H dy = none → dy ≠ y → spInit K C [.ref y, .int L, .ref t] (upd (upd H dy (.own y)) y (.ins C dy [])) (fun v H' => v = .non ∧ Q (.ref y) H') E0 := by
  intro y dy ny ndy ne
  have s3 : Same H (upd (upd H dy (.own y)) y (.ins C dy [])) := (same_new ndy).new (by rw [upd_ne (Ne.symm ne)]; exact ny)
  refine ⟨p, y, dy, t, L, ds, rfl, upd_same, hd.same s3, hL, hw, fun H4 s4 h4 => ⟨rfl, ?_⟩⟩
  have s24 : Same H H4 := fun b o e => s4 b o (ne_of_none e ny) (s3 b o e)
  exact q y H4 s24 ⟨dy, t, h4, hd.same s24, hL, hw⟩
def spLaw (K : PySem.W.Frag) : Sp := fun vs H Q _ => ∃ (s : Addr) (ns : List Int), vs = [.ref s] ∧ SqL K H s (ns.map V.int) ∧ ns.length ≤ 63 ∧ (∀ z ∈ ns, Builtin.Int.intBits z ≤ 1048576) ∧ ∀ H', Q (.bl true) H'
end L2
namespace L2
open PySem PySem.Spec PyProof.Rows
theorem spInit_at {K : PySem.W.Frag} {C p t y dy : Addr} {H : Hp} {L : Int} {ds : List PyData} {R : VK} (ny : H y = none) (ndy : H dy = none) (ne : dy ≠ y) (hd : Dn K p H (.ref t) (.tuple ds)) (hL : 1 ≤ L ∧ L ≤ 1000000000000) (hw : firstWrong L ds 0 [] = none)
    (q : ∀ H', Same H H' → Trk K C p y H' L ds → R .non H') : spInit K C [.ref y, .int L, .ref t] (upd (upd H dy (.own y)) y (.ins C dy [])) R E0 := by
  have s3 : Same H (upd (upd H dy (.own y)) y (.ins C dy [])) := (same_new ndy).new (by rw [upd_ne (Ne.symm ne)]; exact ny)
  refine ⟨p, y, dy, t, L, ds, rfl, upd_same, hd.same s3, hL, hw, fun H4 s4 h4 => ?_⟩
  have s24 : Same H H4 := fun b o e => s4 b o (ne_of_none e ny) (s3 b o e)
  exact q H4 s24 ⟨dy, t, h4, hd.same s24, hL, hw⟩
end L2

namespace My
open PySem PySem.Spec PyProof.Rows L2
def topS (i : Nat) : Stmt := PySem.Challenge.pw_touchpasses_k07_passes_put_taken_moved_c.main.body.getD i (.Pass ⟨0, 0, 0, 0⟩)
abbrev sis_integer : Stmt := topS 16
theorem scis_integer : FnScope ["value"] ["value"] (defScope sis_integer) := ⟨rfl, rfl, rfl, by decide +kernel, rfl, by decide +kernel, by decide +kernel⟩
abbrev sis_between : Stmt := topS 17
theorem scis_between : FnScope ["value", "low", "high"] ["value", "low", "high"] (defScope sis_between) := ⟨rfl, rfl, rfl, by decide +kernel, rfl, by decide +kernel, by decide +kernel⟩
abbrev sis_name : Stmt := topS 18
theorem scis_name : FnScope ["value", "sign"] ["value"] (defScope sis_name) := ⟨rfl, rfl, rfl, by decide +kernel, rfl, by decide +kernel, by decide +kernel⟩
abbrev sis_word : Stmt := topS 19
theorem scis_word : FnScope ["value", "words"] ["value", "words"] (defScope sis_word) := ⟨rfl, rfl, rfl, by decide +kernel, rfl, by decide +kernel, by decide +kernel⟩
abbrev sis_stretch : Stmt := topS 20
theorem scis_stretch : FnScope ["value", "low", "high"] ["value", "low", "high"] (defScope sis_stretch) := ⟨rfl, rfl, rfl, by decide +kernel, rfl, by decide +kernel, by decide +kernel⟩
abbrev sis_length : Stmt := topS 31
theorem scis_length : FnScope ["value"] ["value"] (defScope sis_length) := ⟨rfl, rfl, rfl, by decide +kernel, rfl, by decide +kernel, by decide +kernel⟩
abbrev sare_touches : Stmt := topS 32
theorem scare_touches : FnScope ["value", "first", "last", "low", "stretch"] ["value", "first", "last"] (defScope sare_touches) := ⟨rfl, rfl, rfl, by decide +kernel, rfl, by decide +kernel, by decide +kernel⟩
abbrev sis_pass : Stmt := topS 33
theorem scis_pass : FnScope ["value", "length", "name", "mode", "first", "last", "touches", "glide", "tail"] ["value", "length"] (defScope sis_pass) := ⟨rfl, rfl, rfl, by decide +kernel, rfl, by decide +kernel, by decide +kernel⟩
abbrev sfirst_wrong : Stmt := topS 34
theorem scfirst_wrong : FnScope ["passes", "length", "names", "at", "one"] ["passes", "length"] (defScope sfirst_wrong) := ⟨rfl, rfl, rfl, by decide +kernel, rfl, by decide +kernel, by decide +kernel⟩
abbrev splace_of : Stmt := topS 35
theorem scplace_of : FnScope ["passes", "name", "at", "one"] ["passes", "name"] (defScope splace_of) := ⟨rfl, rfl, rfl, by decide +kernel, rfl, by decide +kernel, by decide +kernel⟩
abbrev sis_change : Stmt := topS 36
theorem scis_change : FnScope ["value", "passes", "name", "part", "_"] ["value", "passes"] (defScope sis_change) := ⟨rfl, rfl, rfl, by decide +kernel, rfl, by decide +kernel, by decide +kernel⟩
abbrev sput_in : Stmt := topS 37
theorem scput_in : FnScope ["row", "at", "new"] ["row", "at", "new"] (defScope sput_in) := ⟨rfl, rfl, rfl, by decide +kernel, rfl, by decide +kernel, by decide +kernel⟩
abbrev staken_out : Stmt := topS 38
theorem sctaken_out : FnScope ["row", "at"] ["row", "at"] (defScope staken_out) := ⟨rfl, rfl, rfl, by decide +kernel, rfl, by decide +kernel, by decide +kernel⟩
abbrev sreplaced : Stmt := topS 39
theorem screplaced : FnScope ["row", "at", "new"] ["row", "at", "new"] (defScope sreplaced) := ⟨rfl, rfl, rfl, by decide +kernel, rfl, by decide +kernel, by decide +kernel⟩
abbrev sbehind_change : Stmt := topS 40
theorem scbehind_change : FnScope ["passes", "change", "name", "part", "value", "at"] ["passes", "change"] (defScope sbehind_change) := ⟨rfl, rfl, rfl, by decide +kernel, rfl, by decide +kernel, by decide +kernel⟩
abbrev srow_of : Stmt := topS 44
theorem scrow_of : FnScope ["one_pass", "name", "mode", "first", "last", "touches", "glide", "tail", "words", "a", "b"] ["one_pass"] (defScope srow_of) := ⟨rfl, rfl, rfl, by decide +kernel, rfl, by decide +kernel, by decide +kernel⟩
abbrev srows_of : Stmt := topS 45
theorem scrows_of : FnScope ["length", "passes", "one"] ["length", "passes"] (defScope srows_of) := ⟨rfl, rfl, rfl, by decide +kernel, rfl, by decide +kernel, by decide +kernel⟩
abbrev snumber_in : Stmt := topS 46
theorem scnumber_in : FnScope ["word", "sign"] ["word"] (defScope snumber_in) := ⟨rfl, rfl, rfl, by decide +kernel, rfl, by decide +kernel, by decide +kernel⟩
abbrev sstretch_in : Stmt := topS 47
theorem scstretch_in : FnScope ["word", "numbers", "part"] ["word"] (defScope sstretch_in) := ⟨rfl, rfl, rfl, by decide +kernel, rfl, by decide +kernel, by decide +kernel⟩
abbrev spass_in : Stmt := topS 48
theorem scpass_in : FnScope ["words", "name", "mode", "first", "last", "glide", "tail", "rest", "numbers", "word", "touches"] ["words"] (defScope spass_in) := ⟨rfl, rfl, rfl, by decide +kernel, rfl, by decide +kernel, by decide +kernel⟩
abbrev spass_in_row : Stmt := topS 49
theorem scpass_in_row : FnScope ["row", "word", "rest"] ["row"] (defScope spass_in_row) := ⟨rfl, rfl, rfl, by decide +kernel, rfl, by decide +kernel, by decide +kernel⟩
abbrev slength_in_row : Stmt := topS 50
theorem sclength_in_row : FnScope ["row", "word", "rest", "length"] ["row"] (defScope slength_in_row) := ⟨rfl, rfl, rfl, by decide +kernel, rfl, by decide +kernel, by decide +kernel⟩
abbrev strack_in : Stmt := topS 51
theorem sctrack_in : FnScope ["text", "first", "rest", "length", "passes", "row"] ["text"] (defScope strack_in) := ⟨rfl, rfl, rfl, by decide +kernel, rfl, by decide +kernel, by decide +kernel⟩
abbrev sTrack_init : Stmt := inClass (topS 53) 0
theorem scTrack_init : FnScope ["self", "length", "passes", "wrong"] ["self", "length", "passes"] (defScope sTrack_init) := ⟨rfl, rfl, rfl, by decide +kernel, rfl, by decide +kernel, by decide +kernel⟩
abbrev sTrack_read : Stmt := inClass (topS 53) 1
theorem scTrack_read : FnScope ["cls", "text", "told", "length", "passes"] ["cls", "text"] (defScope sTrack_read) := ⟨rfl, rfl, rfl, by decide +kernel, rfl, by decide +kernel, by decide +kernel⟩
abbrev sTrack_length : Stmt := inClass (topS 53) 2
theorem scTrack_length : FnScope ["self"] ["self"] (defScope sTrack_length) := ⟨rfl, rfl, rfl, by decide +kernel, rfl, by decide +kernel, by decide +kernel⟩
abbrev sTrack_passes : Stmt := inClass (topS 53) 3
theorem scTrack_passes : FnScope ["self"] ["self"] (defScope sTrack_passes) := ⟨rfl, rfl, rfl, by decide +kernel, rfl, by decide +kernel, by decide +kernel⟩
abbrev sTrack_names : Stmt := inClass (topS 53) 4
theorem scTrack_names : FnScope ["self", "one"] ["self"] (defScope sTrack_names) := ⟨rfl, rfl, rfl, by decide +kernel, rfl, by decide +kernel, by decide +kernel⟩
abbrev sTrack_len : Stmt := inClass (topS 53) 5
theorem scTrack_len : FnScope ["self"] ["self"] (defScope sTrack_len) := ⟨rfl, rfl, rfl, by decide +kernel, rfl, by decide +kernel, by decide +kernel⟩
abbrev sTrack_bool : Stmt := inClass (topS 53) 6
theorem scTrack_bool : FnScope ["self"] ["self"] (defScope sTrack_bool) := ⟨rfl, rfl, rfl, by decide +kernel, rfl, by decide +kernel, by decide +kernel⟩
abbrev sTrack_eq : Stmt := inClass (topS 53) 7
theorem scTrack_eq : FnScope ["self", "other"] ["self", "other"] (defScope sTrack_eq) := ⟨rfl, rfl, rfl, by decide +kernel, rfl, by decide +kernel, by decide +kernel⟩
abbrev sTrack_str : Stmt := inClass (topS 53) 8
theorem scTrack_str : FnScope ["self"] ["self"] (defScope sTrack_str) := ⟨rfl, rfl, rfl, by decide +kernel, rfl, by decide +kernel, by decide +kernel⟩
abbrev sTrack_contains : Stmt := inClass (topS 53) 9
theorem scTrack_contains : FnScope ["self", "x"] ["self", "x"] (defScope sTrack_contains) := ⟨rfl, rfl, rfl, by decide +kernel, rfl, by decide +kernel, by decide +kernel⟩
abbrev sTrack_getitem : Stmt := inClass (topS 53) 10
theorem scTrack_getitem : FnScope ["self", "at"] ["self", "at"] (defScope sTrack_getitem) := ⟨rfl, rfl, rfl, by decide +kernel, rfl, by decide +kernel, by decide +kernel⟩
abbrev sTrack_iter : Stmt := inClass (topS 53) 11
theorem scTrack_iter : FnScope ["self"] ["self"] (defScope sTrack_iter) := ⟨rfl, rfl, rfl, by decide +kernel, rfl, by decide +kernel, by decide +kernel⟩
abbrev sTrack_known_place : Stmt := inClass (topS 53) 12
theorem scTrack_known_place : FnScope ["self", "name", "place"] ["self", "name"] (defScope sTrack_known_place) := ⟨rfl, rfl, rfl, by decide +kernel, rfl, by decide +kernel, by decide +kernel⟩
abbrev sTrack_put : Stmt := inClass (topS 53) 13
theorem scTrack_put : FnScope ["self", "one_pass", "place", "many", "at"] ["self", "one_pass", "place"] (defScope sTrack_put) := ⟨rfl, rfl, rfl, by decide +kernel, rfl, by decide +kernel, by decide +kernel⟩
abbrev sTrack_without : Stmt := inClass (topS 53) 14
theorem scTrack_without : FnScope ["self", "name"] ["self", "name"] (defScope sTrack_without) := ⟨rfl, rfl, rfl, by decide +kernel, rfl, by decide +kernel, by decide +kernel⟩
abbrev sTrack_moved : Stmt := inClass (topS 53) 15
theorem scTrack_moved : FnScope ["self", "name", "place", "at"] ["self", "name", "place"] (defScope sTrack_moved) := ⟨rfl, rfl, rfl, by decide +kernel, rfl, by decide +kernel, by decide +kernel⟩
abbrev sTrack_changed : Stmt := inClass (topS 53) 16
theorem scTrack_changed : FnScope ["self", "change", "passes"] ["self", "change"] (defScope sTrack_changed) := ⟨rfl, rfl, rfl, by decide +kernel, rfl, by decide +kernel, by decide +kernel⟩
abbrev slaw_purse : Stmt := topS 55
theorem sclaw_purse : FnScope ["script", "k", "cell", "digits", "seed"] ["script", "k"] (defScope slaw_purse) := ⟨rfl, rfl, rfl, by decide +kernel, rfl, by decide +kernel, by decide +kernel⟩
abbrev slaw_draw : Stmt := topS 56
theorem sclaw_draw : FnScope ["purse", "size", "seed", "by", "digit"] ["purse", "size"] (defScope slaw_draw) := ⟨rfl, rfl, rfl, by decide +kernel, rfl, by decide +kernel, by decide +kernel⟩
abbrev slaw_pick : Stmt := topS 57
theorem sclaw_pick : FnScope ["purse", "menu"] ["purse", "menu"] (defScope slaw_pick) := ⟨rfl, rfl, rfl, by decide +kernel, rfl, by decide +kernel, by decide +kernel⟩
abbrev slaw_wide : Stmt := topS 58
theorem sclaw_wide : FnScope ["purse", "size"] ["purse", "size"] (defScope slaw_wide) := ⟨rfl, rfl, rfl, by decide +kernel, rfl, by decide +kernel, by decide +kernel⟩
abbrev slaw_touches : Stmt := topS 59
theorem sclaw_touches : FnScope ["purse", "first", "last", "many", "wide", "found", "at", "k", "a", "b"] ["purse", "first", "last", "many", "wide"] (defScope slaw_touches) := ⟨rfl, rfl, rfl, by decide +kernel, rfl, by decide +kernel, by decide +kernel⟩
abbrev slaw_words : Stmt := topS 60
theorem sclaw_words : FnScope ["purse", "some", "at"] ["purse"] (defScope slaw_words) := ⟨rfl, rfl, rfl, by decide +kernel, rfl, by decide +kernel, by decide +kernel⟩
abbrev slaw_fader : Stmt := topS 61
theorem sclaw_fader : FnScope ["purse", "word", "long", "first", "some", "k", "last", "wide", "marks", "mode", "slide", "tail"] ["purse", "word", "long"] (defScope slaw_fader) := ⟨rfl, rfl, rfl, by decide +kernel, rfl, by decide +kernel, by decide +kernel⟩
abbrev slaw_faders : Stmt := topS 62
theorem sclaw_faders : FnScope ["purse", "long", "many", "words", "k"] ["purse", "long", "many"] (defScope slaw_faders) := ⟨rfl, rfl, rfl, by decide +kernel, rfl, by decide +kernel, by decide +kernel⟩
abbrev slaw_long : Stmt := topS 63
theorem sclaw_long : FnScope ["purse"] ["purse"] (defScope slaw_long) := ⟨rfl, rfl, rfl, by decide +kernel, rfl, by decide +kernel, by decide +kernel⟩
abbrev slaw_is_from : Stmt := topS 64
theorem sclaw_is_from : FnScope ["value", "low", "high"] ["value", "low", "high"] (defScope slaw_is_from) := ⟨rfl, rfl, rfl, by decide +kernel, rfl, by decide +kernel, by decide +kernel⟩
abbrev slaw_is_word : Stmt := topS 65
theorem sclaw_is_word : FnScope ["value", "sign"] ["value"] (defScope slaw_is_word) := ⟨rfl, rfl, rfl, by decide +kernel, rfl, by decide +kernel, by decide +kernel⟩
abbrev slaw_are_marks : Stmt := topS 66
theorem sclaw_are_marks : FnScope ["value", "first", "last", "at", "each"] ["value", "first", "last"] (defScope slaw_are_marks) := ⟨rfl, rfl, rfl, by decide +kernel, rfl, by decide +kernel, by decide +kernel⟩
abbrev slaw_is_fader : Stmt := topS 67
theorem sclaw_is_fader : FnScope ["value", "long", "words"] ["value", "long", "words"] (defScope slaw_is_fader) := ⟨rfl, rfl, rfl, by decide +kernel, rfl, by decide +kernel, by decide +kernel⟩
abbrev slaw_same : Stmt := topS 68
theorem sclaw_same : FnScope ["mine", "long", "some"] ["mine", "long", "some"] (defScope slaw_same) := ⟨rfl, rfl, rfl, by decide +kernel, rfl, by decide +kernel, by decide +kernel⟩
abbrev slaw_put_right : Stmt := topS 69
theorem sclaw_put_right : FnScope ["mine", "fader", "long", "some", "at", "due", "mate"] ["mine", "fader"] (defScope slaw_put_right) := ⟨rfl, rfl, rfl, by decide +kernel, rfl, by decide +kernel, by decide +kernel⟩
abbrev slaw_turned_right : Stmt := topS 70
theorem sclaw_turned_right : FnScope ["mine", "long", "some", "k", "word", "rest", "at", "due", "mate"] ["mine"] (defScope slaw_turned_right) := ⟨rfl, rfl, rfl, by decide +kernel, rfl, by decide +kernel, by decide +kernel⟩
abbrev slaw_changed_right : Stmt := topS 71
theorem sclaw_changed_right : FnScope ["purse", "mine", "long", "some", "parts_here", "k", "fresh", "j", "bent", "facts", "due", "mate"] ["purse", "mine"] (defScope slaw_changed_right) := ⟨rfl, rfl, rfl, by decide +kernel, rfl, by decide +kernel, by decide +kernel⟩
abbrev slaw_right : Stmt := topS 72
theorem sclaw_right : FnScope ["purse", "long", "some", "mine", "fader"] ["purse"] (defScope slaw_right) := ⟨rfl, rfl, rfl, by decide +kernel, rfl, by decide +kernel, by decide +kernel⟩
abbrev slaw : Stmt := topS 73
theorem sclaw : FnScope ["script", "a", "b", "mine", "k"] ["script"] (defScope slaw) := ⟨rfl, rfl, rfl, by decide +kernel, rfl, by decide +kernel, by decide +kernel⟩
structure Txt (pr : Params) (K : PySem.W.Frag) (mg : Str → Option Value) where
  C : Addr
  gC : mg "Track" = some (.ref C)
  cl : Cls K C
  kC : PySem.W.keepIn K (.ref C) = true
  makes : PySem.W.makesIn K C = true
  hne : PySem.W.findIn K (.ref C) "__ne__" = some (some (.builtin "object.__ne__"))
  hob : PySem.W.subIn K (.ref C) (.type "object") = some true
  hca : PySem.W.findIn K (.ref C) "__class__" = some (some (.builtin "object.__class__"))
  hcn : PySem.W.specialIn K (.builtin "object.__class__") "__get__" = some (some (.builtin "getset_descriptor.__get__"))
  hct : PySem.W.takesIn K (.builtin "object.__class__") = some true
  hcm : PySem.W.mroIn K C (.type "object") = some true
  n_length : NoAttr K C "_length"
  n_passes : NoAttr K C "_passes"
  is_integer : Df K mg "is_integer" sis_integer ["value"]
  is_between : Df K mg "is_between" sis_between ["value", "low", "high"]
  is_name : Df K mg "is_name" sis_name ["value"]
  is_word : Df K mg "is_word" sis_word ["value", "words"]
  is_stretch : Df K mg "is_stretch" sis_stretch ["value", "low", "high"]
  is_length : Df K mg "is_length" sis_length ["value"]
  are_touches : Df K mg "are_touches" sare_touches ["value", "first", "last"]
  is_pass : Df K mg "is_pass" sis_pass ["value", "length"]
  first_wrong : Df K mg "first_wrong" sfirst_wrong ["passes", "length"]
  place_of : Df K mg "place_of" splace_of ["passes", "name"]
  is_change : Df K mg "is_change" sis_change ["value", "passes"]
  put_in : Df K mg "put_in" sput_in ["row", "at", "new"]
  taken_out : Df K mg "taken_out" staken_out ["row", "at"]
  replaced : Df K mg "replaced" sreplaced ["row", "at", "new"]
  behind_change : Df K mg "behind_change" sbehind_change ["passes", "change"]
  row_of : Df K mg "row_of" srow_of ["one_pass"]
  rows_of : Df K mg "rows_of" srows_of ["length", "passes"]
  number_in : Df K mg "number_in" snumber_in ["word"]
  stretch_in : Df K mg "stretch_in" sstretch_in ["word"]
  pass_in : Df K mg "pass_in" spass_in ["words"]
  pass_in_row : Df K mg "pass_in_row" spass_in_row ["row"]
  length_in_row : Df K mg "length_in_row" slength_in_row ["row"]
  track_in : Df K mg "track_in" strack_in ["text"]
  e_Track_init : Addr
  et_Track_init : ∀ H : Hp, SqT K H e_Track_init []
  Track_init : Dd K C "__init__" "Track.__init__" sTrack_init ["self", "length", "passes"] (.ref e_Track_init)
  Track_length : Dp' K C "length" "Track.length" sTrack_length
  Track_passes : Dp' K C "passes" "Track.passes" sTrack_passes
  Track_names : Dp' K C "names" "Track.names" sTrack_names
  Track_len : Dm K C "__len__" "Track.__len__" sTrack_len ["self"]
  Track_bool : Dm K C "__bool__" "Track.__bool__" sTrack_bool ["self"]
  Track_eq : Dm K C "__eq__" "Track.__eq__" sTrack_eq ["self", "other"]
  Track_str : Dm K C "__str__" "Track.__str__" sTrack_str ["self"]
  Track_contains : Dm K C "__contains__" "Track.__contains__" sTrack_contains ["self", "x"]
  Track_getitem : Dm K C "__getitem__" "Track.__getitem__" sTrack_getitem ["self", "at"]
  Track_iter : Dm K C "__iter__" "Track.__iter__" sTrack_iter ["self"]
  Track_known_place : Dm K C "_known_place" "Track._known_place" sTrack_known_place ["self", "name"]
  Track_put : Dd K C "put" "Track.put" sTrack_put ["self", "one_pass", "place"] .non
  Track_without : Dm K C "without" "Track.without" sTrack_without ["self", "name"]
  Track_moved : Dm K C "moved" "Track.moved" sTrack_moved ["self", "name", "place"]
  Track_changed : Dm K C "changed" "Track.changed" sTrack_changed ["self", "change"]
  law_purse : Df K mg "_law_purse" slaw_purse ["script", "k"]
  law_draw : Df K mg "_law_draw" slaw_draw ["purse", "size"]
  law_pick : Df K mg "_law_pick" slaw_pick ["purse", "menu"]
  law_wide : Df K mg "_law_wide" slaw_wide ["purse", "size"]
  law_touches : Df K mg "_law_touches" slaw_touches ["purse", "first", "last", "many", "wide"]
  law_words : Df K mg "_law_words" slaw_words ["purse"]
  law_fader : Df K mg "_law_fader" slaw_fader ["purse", "word", "long"]
  law_faders : Df K mg "_law_faders" slaw_faders ["purse", "long", "many"]
  law_long : Df K mg "_law_long" slaw_long ["purse"]
  law_is_from : Df K mg "_law_is_from" slaw_is_from ["value", "low", "high"]
  law_is_word : Df K mg "_law_is_word" slaw_is_word ["value"]
  law_are_marks : Df K mg "_law_are_marks" slaw_are_marks ["value", "first", "last"]
  law_is_fader : Df K mg "_law_is_fader" slaw_is_fader ["value", "long", "words"]
  law_same : Df K mg "_law_same" slaw_same ["mine", "long", "some"]
  law_put_right : Df K mg "_law_put_right" slaw_put_right ["mine", "fader"]
  law_turned_right : Df K mg "_law_turned_right" slaw_turned_right ["mine"]
  law_changed_right : Df K mg "_law_changed_right" slaw_changed_right ["purse", "mine"]
  law_right : Df K mg "_law_right" slaw_right ["purse"]
  law : Df K mg "law" slaw ["script"]
  c_LETTERS : Cs mg "LETTERS" "abcdefghijklmnopqrstuvwxyz"
  c_DIGITS : Cs mg "DIGITS" "0123456789"
  c_MOST_SIGNS : Ci mg "MOST_SIGNS" 8
  c_MOST_LENGTH : Ci mg "MOST_LENGTH" 1000000000000
  c_MOST_PASSES : Ci mg "MOST_PASSES" 8
  c_MOST_TOUCHES : Ci mg "MOST_TOUCHES" 6
  c_MOST_GLIDE : Ci mg "MOST_GLIDE" 100
  c_OLD : Cs mg "OLD" "old"
  c_MODES : Ct K mg "MODES" [.str "write", .str "latch", .str "touch", .str "trim"]
  c_TAILS : Ct K mg "TAILS" [.str "stop", .str "on"]
  c_SIZE : Ci mg "SIZE" 7
  a_PARTS : Addr
  g_PARTS : mg "PARTS" = some (.ref a_PARTS)
  es_PARTS : Array DictEntry
  n_PARTS : Nat
  l_PARTS : K.lookup a_PARTS = some ⟨.type "dict", none, .dict es_PARTS n_PARTS, #[]⟩
  k_PARTS : PySem.W.KeysLit pr es_PARTS.toList
  s_PARTS : (a_PARTS == sysModules) = false
  i_PARTS_mode : ∃ t, PySem.W.nsIn K a_PARTS "mode" = some (some (.int 1 t))
  i_PARTS_from : ∃ t, PySem.W.nsIn K a_PARTS "from" = some (some (.int 2 t))
  i_PARTS_to : ∃ t, PySem.W.nsIn K a_PARTS "to" = some (some (.int 3 t))
  i_PARTS_touches : ∃ t, PySem.W.nsIn K a_PARTS "touches" = some (some (.int 4 t))
  i_PARTS_glide : ∃ t, PySem.W.nsIn K a_PARTS "glide" = some (some (.int 5 t))
  i_PARTS_tail : ∃ t, PySem.W.nsIn K a_PARTS "tail" = some (some (.int 6 t))
  c_MOST_DIGITS : Ci mg "MOST_DIGITS" 13
  c_FEWEST_WORDS : Ci mg "FEWEST_WORDS" 6
  z_len : mg "len" = none
  z_isinstance : mg "isinstance" = none
  z_int : mg "int" = none
  z_bool : mg "bool" = none
  z_str : mg "str" = none
  z_tuple : mg "tuple" = none
  z_all : mg "all" = none
  z_range : mg "range" = none
  z_enumerate : mg "enumerate" = none
  z_abs : mg "abs" = none
  z_divmod : mg "divmod" = none
  z_max : mg "max" = none
  z_min : mg "min" = none
  z_repr : mg "repr" = none
end My

namespace L2
open PySem PySem.Spec PyProof.Rows
theorem vals_reverse : ∀ {vs : List V} {us : List Value}, Vals vs us → Vals vs.reverse us.reverse
  | _, _, .nil => .nil
  | _, _, .cons h t => by
    rw [List.reverse_cons, List.reverse_cons]
    exact (vals_reverse t).append (.cons h .nil)
theorem len_two {α : Type} {l : List α} (h : l.length = 2) : ∃ a b, l = [a, b] := by
  match l, h with
  | [a, b], _ => exact ⟨a, b, rfl⟩
theorem vals_id {vs zs : List V} {us ws : List Value} (a : Vals vs us) (b : Vals zs ws) : Vals (vs ++ zs) (us ++ ws) := a.append b
theorem vals_rev {vs zs : List V} {us ws : List Value} (a : Vals vs us) (b : Vals zs ws) : Vals (vs ++ zs.reverse) (us ++ ws.reverse) := a.append (vals_reverse b)
end L2
namespace My
open PySem PySem.Spec PyProof.Rows L2
section
variable {P : Program} {w : World} {K : PySem.W.Frag} {mg : Str → Option Value} {base : Heap}
theorem KB_put_a (T : Txt w.params K mg) : ∃ its : List Value, KBn K T.Track_put.fd ["self", "one_pass", "place"] 1 ["place", "one_pass"] (fun us ws => us ++ ws.reverse) (fun vs zs => vs ++ zs.reverse) := by
  refine T.Track_put.F.kbindsD 1 ["place", "one_pass"] (fun vs _ zs => vs ++ zs.reverse) (by simp) (fun a _ c => vals_rev a c) fun D kV doc pm an cdv ct us its ws l1 l2 l3 => ?_
  obtain ⟨u, rfl⟩ := List.length_eq_one_iff.mp l1
  obtain ⟨a, rfl⟩ := List.length_eq_one_iff.mp l2
  obtain ⟨b, c, rfl⟩ := len_two l3
  exact ⟨_, rfl, rfl⟩
theorem KB_put_b (T : Txt w.params K mg) : ∃ its : List Value, KBn K T.Track_put.fd ["self", "one_pass", "place"] 1 ["one_pass", "place"] (fun us ws => us ++ ws) (fun vs zs => vs ++ zs) := by
  refine T.Track_put.F.kbindsD 1 ["one_pass", "place"] (fun vs _ zs => vs ++ zs) (by simp) (fun a _ c => vals_id a c) fun D kV doc pm an cdv ct us its ws l1 l2 l3 => ?_
  obtain ⟨u, rfl⟩ := List.length_eq_one_iff.mp l1
  obtain ⟨a, rfl⟩ := List.length_eq_one_iff.mp l2
  obtain ⟨b, c, rfl⟩ := len_two l3
  exact ⟨_, rfl, rfl⟩
theorem KB_without (T : Txt w.params K mg) : KBn K T.Track_without.fd ["self", "name"] 1 ["name"] (fun us ws => us ++ ws) (fun vs zs => vs ++ zs) := by
  obtain ⟨oc, od, kV, doc, pm, an, cdv, ct, osl, e, lk, hcd⟩ := T.Track_without.F.ex
  refine ⟨fun s us ws X l1 l2 => ?_, fun a c => vals_id a c⟩
  obtain ⟨u, rfl⟩ := List.length_eq_one_iff.mp l1
  obtain ⟨a, rfl⟩ := List.length_eq_one_iff.mp l2
  rw [e]
  exact .of_eq rfl
theorem KB_changed (T : Txt w.params K mg) : KBn K T.Track_changed.fd ["self", "change"] 1 ["change"] (fun us ws => us ++ ws) (fun vs zs => vs ++ zs) := by
  obtain ⟨oc, od, kV, doc, pm, an, cdv, ct, osl, e, lk, hcd⟩ := T.Track_changed.F.ex
  refine ⟨fun s us ws X l1 l2 => ?_, fun a c => vals_id a c⟩
  obtain ⟨u, rfl⟩ := List.length_eq_one_iff.mp l1
  obtain ⟨a, rfl⟩ := List.length_eq_one_iff.mp l2
  rw [e]
  exact .of_eq rfl
theorem KB_moved (T : Txt w.params K mg) : KBn K T.Track_moved.fd ["self", "name", "place"] 1 ["place", "name"] (fun us ws => us ++ ws.reverse) (fun vs zs => vs ++ zs.reverse) := by
  obtain ⟨oc, od, kV, doc, pm, an, cdv, ct, osl, e, lk, hcd⟩ := T.Track_moved.F.ex
  refine ⟨fun s us ws X l1 l2 => ?_, fun a c => vals_rev a c⟩
  obtain ⟨u, rfl⟩ := List.length_eq_one_iff.mp l1
  obtain ⟨b, c, rfl⟩ := len_two l2
  rw [e]
  exact .of_eq rfl
end
end My

namespace My
open PySem PySem.Spec PyProof.Rows L2
set_option maxHeartbeats 0 in
theorem mk_txt {pr : Params} {K : PySem.W.Frag} {h : Heap} {mg : Str → Option Value} (X : K.In h) (G : h.Ns mainGlobals mg)
    {C : Addr}
    {f_is_integer : Addr} {od_is_integer an_is_integer : Option Addr} {sl_is_integer : Array (Option Value)} {oc_is_integer kV_is_integer dc_is_integer pm_is_integer cd_is_integer ct_is_integer : Value}
    {f_is_between : Addr} {od_is_between an_is_between : Option Addr} {sl_is_between : Array (Option Value)} {oc_is_between kV_is_between dc_is_between pm_is_between cd_is_between ct_is_between : Value}
    {f_is_name : Addr} {od_is_name an_is_name : Option Addr} {sl_is_name : Array (Option Value)} {oc_is_name kV_is_name dc_is_name pm_is_name cd_is_name ct_is_name : Value}
    {f_is_word : Addr} {od_is_word an_is_word : Option Addr} {sl_is_word : Array (Option Value)} {oc_is_word kV_is_word dc_is_word pm_is_word cd_is_word ct_is_word : Value}
    {f_is_stretch : Addr} {od_is_stretch an_is_stretch : Option Addr} {sl_is_stretch : Array (Option Value)} {oc_is_stretch kV_is_stretch dc_is_stretch pm_is_stretch cd_is_stretch ct_is_stretch : Value}
    {f_is_length : Addr} {od_is_length an_is_length : Option Addr} {sl_is_length : Array (Option Value)} {oc_is_length kV_is_length dc_is_length pm_is_length cd_is_length ct_is_length : Value}
    {f_are_touches : Addr} {od_are_touches an_are_touches : Option Addr} {sl_are_touches : Array (Option Value)} {oc_are_touches kV_are_touches dc_are_touches pm_are_touches cd_are_touches ct_are_touches : Value}
    {f_is_pass : Addr} {od_is_pass an_is_pass : Option Addr} {sl_is_pass : Array (Option Value)} {oc_is_pass kV_is_pass dc_is_pass pm_is_pass cd_is_pass ct_is_pass : Value}
    {f_first_wrong : Addr} {od_first_wrong an_first_wrong : Option Addr} {sl_first_wrong : Array (Option Value)} {oc_first_wrong kV_first_wrong dc_first_wrong pm_first_wrong cd_first_wrong ct_first_wrong : Value}
    {f_place_of : Addr} {od_place_of an_place_of : Option Addr} {sl_place_of : Array (Option Value)} {oc_place_of kV_place_of dc_place_of pm_place_of cd_place_of ct_place_of : Value}
    {f_is_change : Addr} {od_is_change an_is_change : Option Addr} {sl_is_change : Array (Option Value)} {oc_is_change kV_is_change dc_is_change pm_is_change cd_is_change ct_is_change : Value}
    {f_put_in : Addr} {od_put_in an_put_in : Option Addr} {sl_put_in : Array (Option Value)} {oc_put_in kV_put_in dc_put_in pm_put_in cd_put_in ct_put_in : Value}
    {f_taken_out : Addr} {od_taken_out an_taken_out : Option Addr} {sl_taken_out : Array (Option Value)} {oc_taken_out kV_taken_out dc_taken_out pm_taken_out cd_taken_out ct_taken_out : Value}
    {f_replaced : Addr} {od_replaced an_replaced : Option Addr} {sl_replaced : Array (Option Value)} {oc_replaced kV_replaced dc_replaced pm_replaced cd_replaced ct_replaced : Value}
    {f_behind_change : Addr} {od_behind_change an_behind_change : Option Addr} {sl_behind_change : Array (Option Value)} {oc_behind_change kV_behind_change dc_behind_change pm_behind_change cd_behind_change ct_behind_change : Value}
    {f_row_of : Addr} {od_row_of an_row_of : Option Addr} {sl_row_of : Array (Option Value)} {oc_row_of kV_row_of dc_row_of pm_row_of cd_row_of ct_row_of : Value}
    {f_rows_of : Addr} {od_rows_of an_rows_of : Option Addr} {sl_rows_of : Array (Option Value)} {oc_rows_of kV_rows_of dc_rows_of pm_rows_of cd_rows_of ct_rows_of : Value}
    {f_number_in : Addr} {od_number_in an_number_in : Option Addr} {sl_number_in : Array (Option Value)} {oc_number_in kV_number_in dc_number_in pm_number_in cd_number_in ct_number_in : Value}
    {f_stretch_in : Addr} {od_stretch_in an_stretch_in : Option Addr} {sl_stretch_in : Array (Option Value)} {oc_stretch_in kV_stretch_in dc_stretch_in pm_stretch_in cd_stretch_in ct_stretch_in : Value}
    {f_pass_in : Addr} {od_pass_in an_pass_in : Option Addr} {sl_pass_in : Array (Option Value)} {oc_pass_in kV_pass_in dc_pass_in pm_pass_in cd_pass_in ct_pass_in : Value}
    {f_pass_in_row : Addr} {od_pass_in_row an_pass_in_row : Option Addr} {sl_pass_in_row : Array (Option Value)} {oc_pass_in_row kV_pass_in_row dc_pass_in_row pm_pass_in_row cd_pass_in_row ct_pass_in_row : Value}
    {f_length_in_row : Addr} {od_length_in_row an_length_in_row : Option Addr} {sl_length_in_row : Array (Option Value)} {oc_length_in_row kV_length_in_row dc_length_in_row pm_length_in_row cd_length_in_row ct_length_in_row : Value}
    {f_track_in : Addr} {od_track_in an_track_in : Option Addr} {sl_track_in : Array (Option Value)} {oc_track_in kV_track_in dc_track_in pm_track_in cd_track_in ct_track_in : Value}
    {f_Track_init : Addr} {od_Track_init an_Track_init : Option Addr} {sl_Track_init : Array (Option Value)} {oc_Track_init kV_Track_init dc_Track_init pm_Track_init cd_Track_init ct_Track_init : Value}
    {T_Track_init : Addr} {to_Track_init : Value} {td_Track_init : Option Addr} {ts_Track_init : Array (Option Value)} {tn_Track_init : Nat}
    {e_Track_init : Addr} {eo_Track_init : Option Addr} {es_Track_init : Array (Option Value)} {en_Track_init : Nat}
    {f_Track_length : Addr} {od_Track_length an_Track_length : Option Addr} {sl_Track_length : Array (Option Value)} {oc_Track_length kV_Track_length dc_Track_length pm_Track_length cd_Track_length ct_Track_length : Value}
    {p_Track_length : Addr} {pr_Track_length : List Value}
    {f_Track_passes : Addr} {od_Track_passes an_Track_passes : Option Addr} {sl_Track_passes : Array (Option Value)} {oc_Track_passes kV_Track_passes dc_Track_passes pm_Track_passes cd_Track_passes ct_Track_passes : Value}
    {p_Track_passes : Addr} {pr_Track_passes : List Value}
    {f_Track_names : Addr} {od_Track_names an_Track_names : Option Addr} {sl_Track_names : Array (Option Value)} {oc_Track_names kV_Track_names dc_Track_names pm_Track_names cd_Track_names ct_Track_names : Value}
    {p_Track_names : Addr} {pr_Track_names : List Value}
    {f_Track_len : Addr} {od_Track_len an_Track_len : Option Addr} {sl_Track_len : Array (Option Value)} {oc_Track_len kV_Track_len dc_Track_len pm_Track_len cd_Track_len ct_Track_len : Value}
    {f_Track_bool : Addr} {od_Track_bool an_Track_bool : Option Addr} {sl_Track_bool : Array (Option Value)} {oc_Track_bool kV_Track_bool dc_Track_bool pm_Track_bool cd_Track_bool ct_Track_bool : Value}
    {f_Track_eq : Addr} {od_Track_eq an_Track_eq : Option Addr} {sl_Track_eq : Array (Option Value)} {oc_Track_eq kV_Track_eq dc_Track_eq pm_Track_eq cd_Track_eq ct_Track_eq : Value}
    {f_Track_str : Addr} {od_Track_str an_Track_str : Option Addr} {sl_Track_str : Array (Option Value)} {oc_Track_str kV_Track_str dc_Track_str pm_Track_str cd_Track_str ct_Track_str : Value}
    {f_Track_contains : Addr} {od_Track_contains an_Track_contains : Option Addr} {sl_Track_contains : Array (Option Value)} {oc_Track_contains kV_Track_contains dc_Track_contains pm_Track_contains cd_Track_contains ct_Track_contains : Value}
    {f_Track_getitem : Addr} {od_Track_getitem an_Track_getitem : Option Addr} {sl_Track_getitem : Array (Option Value)} {oc_Track_getitem kV_Track_getitem dc_Track_getitem pm_Track_getitem cd_Track_getitem ct_Track_getitem : Value}
    {f_Track_iter : Addr} {od_Track_iter an_Track_iter : Option Addr} {sl_Track_iter : Array (Option Value)} {oc_Track_iter kV_Track_iter dc_Track_iter pm_Track_iter cd_Track_iter ct_Track_iter : Value}
    {f_Track_known_place : Addr} {od_Track_known_place an_Track_known_place : Option Addr} {sl_Track_known_place : Array (Option Value)} {oc_Track_known_place kV_Track_known_place dc_Track_known_place pm_Track_known_place cd_Track_known_place ct_Track_known_place : Value}
    {f_Track_put : Addr} {od_Track_put an_Track_put : Option Addr} {sl_Track_put : Array (Option Value)} {oc_Track_put kV_Track_put dc_Track_put pm_Track_put cd_Track_put ct_Track_put : Value}
    {T_Track_put : Addr} {to_Track_put : Value} {td_Track_put : Option Addr} {ts_Track_put : Array (Option Value)} {tn_Track_put : Nat}
    {f_Track_without : Addr} {od_Track_without an_Track_without : Option Addr} {sl_Track_without : Array (Option Value)} {oc_Track_without kV_Track_without dc_Track_without pm_Track_without cd_Track_without ct_Track_without : Value}
    {f_Track_moved : Addr} {od_Track_moved an_Track_moved : Option Addr} {sl_Track_moved : Array (Option Value)} {oc_Track_moved kV_Track_moved dc_Track_moved pm_Track_moved cd_Track_moved ct_Track_moved : Value}
    {f_Track_changed : Addr} {od_Track_changed an_Track_changed : Option Addr} {sl_Track_changed : Array (Option Value)} {oc_Track_changed kV_Track_changed dc_Track_changed pm_Track_changed cd_Track_changed ct_Track_changed : Value}
    {f_law_purse : Addr} {od_law_purse an_law_purse : Option Addr} {sl_law_purse : Array (Option Value)} {oc_law_purse kV_law_purse dc_law_purse pm_law_purse cd_law_purse ct_law_purse : Value}
    {f_law_draw : Addr} {od_law_draw an_law_draw : Option Addr} {sl_law_draw : Array (Option Value)} {oc_law_draw kV_law_draw dc_law_draw pm_law_draw cd_law_draw ct_law_draw : Value}
    {f_law_pick : Addr} {od_law_pick an_law_pick : Option Addr} {sl_law_pick : Array (Option Value)} {oc_law_pick kV_law_pick dc_law_pick pm_law_pick cd_law_pick ct_law_pick : Value}
    {f_law_wide : Addr} {od_law_wide an_law_wide : Option Addr} {sl_law_wide : Array (Option Value)} {oc_law_wide kV_law_wide dc_law_wide pm_law_wide cd_law_wide ct_law_wide : Value}
    {f_law_touches : Addr} {od_law_touches an_law_touches : Option Addr} {sl_law_touches : Array (Option Value)} {oc_law_touches kV_law_touches dc_law_touches pm_law_touches cd_law_touches ct_law_touches : Value}
    {f_law_words : Addr} {od_law_words an_law_words : Option Addr} {sl_law_words : Array (Option Value)} {oc_law_words kV_law_words dc_law_words pm_law_words cd_law_words ct_law_words : Value}
    {f_law_fader : Addr} {od_law_fader an_law_fader : Option Addr} {sl_law_fader : Array (Option Value)} {oc_law_fader kV_law_fader dc_law_fader pm_law_fader cd_law_fader ct_law_fader : Value}
    {f_law_faders : Addr} {od_law_faders an_law_faders : Option Addr} {sl_law_faders : Array (Option Value)} {oc_law_faders kV_law_faders dc_law_faders pm_law_faders cd_law_faders ct_law_faders : Value}
    {f_law_long : Addr} {od_law_long an_law_long : Option Addr} {sl_law_long : Array (Option Value)} {oc_law_long kV_law_long dc_law_long pm_law_long cd_law_long ct_law_long : Value}
    {f_law_is_from : Addr} {od_law_is_from an_law_is_from : Option Addr} {sl_law_is_from : Array (Option Value)} {oc_law_is_from kV_law_is_from dc_law_is_from pm_law_is_from cd_law_is_from ct_law_is_from : Value}
    {f_law_is_word : Addr} {od_law_is_word an_law_is_word : Option Addr} {sl_law_is_word : Array (Option Value)} {oc_law_is_word kV_law_is_word dc_law_is_word pm_law_is_word cd_law_is_word ct_law_is_word : Value}
    {f_law_are_marks : Addr} {od_law_are_marks an_law_are_marks : Option Addr} {sl_law_are_marks : Array (Option Value)} {oc_law_are_marks kV_law_are_marks dc_law_are_marks pm_law_are_marks cd_law_are_marks ct_law_are_marks : Value}
    {f_law_is_fader : Addr} {od_law_is_fader an_law_is_fader : Option Addr} {sl_law_is_fader : Array (Option Value)} {oc_law_is_fader kV_law_is_fader dc_law_is_fader pm_law_is_fader cd_law_is_fader ct_law_is_fader : Value}
    {f_law_same : Addr} {od_law_same an_law_same : Option Addr} {sl_law_same : Array (Option Value)} {oc_law_same kV_law_same dc_law_same pm_law_same cd_law_same ct_law_same : Value}
    {f_law_put_right : Addr} {od_law_put_right an_law_put_right : Option Addr} {sl_law_put_right : Array (Option Value)} {oc_law_put_right kV_law_put_right dc_law_put_right pm_law_put_right cd_law_put_right ct_law_put_right : Value}
    {f_law_turned_right : Addr} {od_law_turned_right an_law_turned_right : Option Addr} {sl_law_turned_right : Array (Option Value)} {oc_law_turned_right kV_law_turned_right dc_law_turned_right pm_law_turned_right cd_law_turned_right ct_law_turned_right : Value}
    {f_law_changed_right : Addr} {od_law_changed_right an_law_changed_right : Option Addr} {sl_law_changed_right : Array (Option Value)} {oc_law_changed_right kV_law_changed_right dc_law_changed_right pm_law_changed_right cd_law_changed_right ct_law_changed_right : Value}
    {f_law_right : Addr} {od_law_right an_law_right : Option Addr} {sl_law_right : Array (Option Value)} {oc_law_right kV_law_right dc_law_right pm_law_right cd_law_right ct_law_right : Value}
    {f_law : Addr} {od_law an_law : Option Addr} {sl_law : Array (Option Value)} {oc_law kV_law dc_law pm_law cd_law ct_law : Value}
    {t_LETTERS : Tok}
    {t_DIGITS : Tok}
    {t_MOST_SIGNS : Tok}
    {t_MOST_LENGTH : Tok}
    {t_MOST_PASSES : Tok}
    {t_MOST_TOUCHES : Tok}
    {t_MOST_GLIDE : Tok}
    {t_OLD : Tok}
    {a_MODES : Addr} {o_MODES : Option Addr} {s_MODES : Array (Option Value)} {n_MODES : Nat} {t0_MODES t1_MODES t2_MODES t3_MODES : Tok}
    {a_TAILS : Addr} {o_TAILS : Option Addr} {s_TAILS : Array (Option Value)} {n_TAILS : Nat} {t0_TAILS t1_TAILS : Tok}
    {t_SIZE : Tok}
    {a_PARTS : Addr} {n_PARTS : Nat} {es_PARTS : Array DictEntry}
    {t_PARTS_mode : Tok}
    {t_PARTS_from : Tok}
    {t_PARTS_to : Tok}
    {t_PARTS_touches : Tok}
    {t_PARTS_glide : Tok}
    {t_PARTS_tail : Tok}
    {t_MOST_DIGITS : Tok}
    {t_FEWEST_WORDS : Tok}
    (aC : PySem.W.nsIn K mainGlobals "Track" = some (some (.ref C)))
    (cpg : PySem.W.plainGet K C Str.empty = true)
    (chd : PySem.W.hasDictIn K C = true)
    (cpo : PySem.W.plainOver K C = true)
    (csa : PySem.W.findIn K (.ref C) "__setattr__" = some (some (.builtin "object.__setattr__")))
    (cmk : PySem.W.makesIn K C = true)
    (ckc : PySem.W.keepIn K (.ref C) = true)
    (cne : PySem.W.findIn K (.ref C) "__ne__" = some (some (.builtin "object.__ne__")))
    (cob : PySem.W.subIn K (.ref C) (.type "object") = some true)
    (cca : PySem.W.findIn K (.ref C) "__class__" = some (some (.builtin "object.__class__")))
    (ccn : PySem.W.specialIn K (.builtin "object.__class__") "__get__" = some (some (.builtin "getset_descriptor.__get__")))
    (cct : PySem.W.takesIn K (.builtin "object.__class__") = some true)
    (ccm : PySem.W.mroIn K C (.type "object") = some true)
    (na_length : PySem.W.findIn K (.ref C) "_length" = some none)
    (na_passes : PySem.W.findIn K (.ref C) "_passes" = some none)
    (a_is_integer : PySem.W.nsIn K mainGlobals "is_integer" = some (some (.ref f_is_integer)))
    (l_is_integer : K.lookup f_is_integer = some ⟨oc_is_integer, od_is_integer, .func (PySem.W.fnOf "is_integer" "is_integer" (defArgs sis_integer) (defBody sis_integer) (defScope sis_integer) .none kV_is_integer dc_is_integer pm_is_integer an_is_integer cd_is_integer ct_is_integer), sl_is_integer⟩)
    (c_is_integer : PySem.W.codeIn K cd_is_integer "is_integer" = true)
    (k_is_integer : PySem.W.keepIn K (.ref f_is_integer) = true)
    (a_is_between : PySem.W.nsIn K mainGlobals "is_between" = some (some (.ref f_is_between)))
    (l_is_between : K.lookup f_is_between = some ⟨oc_is_between, od_is_between, .func (PySem.W.fnOf "is_between" "is_between" (defArgs sis_between) (defBody sis_between) (defScope sis_between) .none kV_is_between dc_is_between pm_is_between an_is_between cd_is_between ct_is_between), sl_is_between⟩)
    (c_is_between : PySem.W.codeIn K cd_is_between "is_between" = true)
    (k_is_between : PySem.W.keepIn K (.ref f_is_between) = true)
    (a_is_name : PySem.W.nsIn K mainGlobals "is_name" = some (some (.ref f_is_name)))
    (l_is_name : K.lookup f_is_name = some ⟨oc_is_name, od_is_name, .func (PySem.W.fnOf "is_name" "is_name" (defArgs sis_name) (defBody sis_name) (defScope sis_name) .none kV_is_name dc_is_name pm_is_name an_is_name cd_is_name ct_is_name), sl_is_name⟩)
    (c_is_name : PySem.W.codeIn K cd_is_name "is_name" = true)
    (k_is_name : PySem.W.keepIn K (.ref f_is_name) = true)
    (a_is_word : PySem.W.nsIn K mainGlobals "is_word" = some (some (.ref f_is_word)))
    (l_is_word : K.lookup f_is_word = some ⟨oc_is_word, od_is_word, .func (PySem.W.fnOf "is_word" "is_word" (defArgs sis_word) (defBody sis_word) (defScope sis_word) .none kV_is_word dc_is_word pm_is_word an_is_word cd_is_word ct_is_word), sl_is_word⟩)
    (c_is_word : PySem.W.codeIn K cd_is_word "is_word" = true)
    (k_is_word : PySem.W.keepIn K (.ref f_is_word) = true)
    (a_is_stretch : PySem.W.nsIn K mainGlobals "is_stretch" = some (some (.ref f_is_stretch)))
    (l_is_stretch : K.lookup f_is_stretch = some ⟨oc_is_stretch, od_is_stretch, .func (PySem.W.fnOf "is_stretch" "is_stretch" (defArgs sis_stretch) (defBody sis_stretch) (defScope sis_stretch) .none kV_is_stretch dc_is_stretch pm_is_stretch an_is_stretch cd_is_stretch ct_is_stretch), sl_is_stretch⟩)
    (c_is_stretch : PySem.W.codeIn K cd_is_stretch "is_stretch" = true)
    (k_is_stretch : PySem.W.keepIn K (.ref f_is_stretch) = true)
    (a_is_length : PySem.W.nsIn K mainGlobals "is_length" = some (some (.ref f_is_length)))
    (l_is_length : K.lookup f_is_length = some ⟨oc_is_length, od_is_length, .func (PySem.W.fnOf "is_length" "is_length" (defArgs sis_length) (defBody sis_length) (defScope sis_length) .none kV_is_length dc_is_length pm_is_length an_is_length cd_is_length ct_is_length), sl_is_length⟩)
    (c_is_length : PySem.W.codeIn K cd_is_length "is_length" = true)
    (k_is_length : PySem.W.keepIn K (.ref f_is_length) = true)
    (a_are_touches : PySem.W.nsIn K mainGlobals "are_touches" = some (some (.ref f_are_touches)))
    (l_are_touches : K.lookup f_are_touches = some ⟨oc_are_touches, od_are_touches, .func (PySem.W.fnOf "are_touches" "are_touches" (defArgs sare_touches) (defBody sare_touches) (defScope sare_touches) .none kV_are_touches dc_are_touches pm_are_touches an_are_touches cd_are_touches ct_are_touches), sl_are_touches⟩)
    (c_are_touches : PySem.W.codeIn K cd_are_touches "are_touches" = true)
    (k_are_touches : PySem.W.keepIn K (.ref f_are_touches) = true)
    (a_is_pass : PySem.W.nsIn K mainGlobals "is_pass" = some (some (.ref f_is_pass)))
    (l_is_pass : K.lookup f_is_pass = some ⟨oc_is_pass, od_is_pass, .func (PySem.W.fnOf "is_pass" "is_pass" (defArgs sis_pass) (defBody sis_pass) (defScope sis_pass) .none kV_is_pass dc_is_pass pm_is_pass an_is_pass cd_is_pass ct_is_pass), sl_is_pass⟩)
    (c_is_pass : PySem.W.codeIn K cd_is_pass "is_pass" = true)
    (k_is_pass : PySem.W.keepIn K (.ref f_is_pass) = true)
    (a_first_wrong : PySem.W.nsIn K mainGlobals "first_wrong" = some (some (.ref f_first_wrong)))
    (l_first_wrong : K.lookup f_first_wrong = some ⟨oc_first_wrong, od_first_wrong, .func (PySem.W.fnOf "first_wrong" "first_wrong" (defArgs sfirst_wrong) (defBody sfirst_wrong) (defScope sfirst_wrong) .none kV_first_wrong dc_first_wrong pm_first_wrong an_first_wrong cd_first_wrong ct_first_wrong), sl_first_wrong⟩)
    (c_first_wrong : PySem.W.codeIn K cd_first_wrong "first_wrong" = true)
    (k_first_wrong : PySem.W.keepIn K (.ref f_first_wrong) = true)
    (a_place_of : PySem.W.nsIn K mainGlobals "place_of" = some (some (.ref f_place_of)))
    (l_place_of : K.lookup f_place_of = some ⟨oc_place_of, od_place_of, .func (PySem.W.fnOf "place_of" "place_of" (defArgs splace_of) (defBody splace_of) (defScope splace_of) .none kV_place_of dc_place_of pm_place_of an_place_of cd_place_of ct_place_of), sl_place_of⟩)
    (c_place_of : PySem.W.codeIn K cd_place_of "place_of" = true)
    (k_place_of : PySem.W.keepIn K (.ref f_place_of) = true)
    (a_is_change : PySem.W.nsIn K mainGlobals "is_change" = some (some (.ref f_is_change)))
    (l_is_change : K.lookup f_is_change = some ⟨oc_is_change, od_is_change, .func (PySem.W.fnOf "is_change" "is_change" (defArgs sis_change) (defBody sis_change) (defScope sis_change) .none kV_is_change dc_is_change pm_is_change an_is_change cd_is_change ct_is_change), sl_is_change⟩)
    (c_is_change : PySem.W.codeIn K cd_is_change "is_change" = true)
    (k_is_change : PySem.W.keepIn K (.ref f_is_change) = true)
    (a_put_in : PySem.W.nsIn K mainGlobals "put_in" = some (some (.ref f_put_in)))
    (l_put_in : K.lookup f_put_in = some ⟨oc_put_in, od_put_in, .func (PySem.W.fnOf "put_in" "put_in" (defArgs sput_in) (defBody sput_in) (defScope sput_in) .none kV_put_in dc_put_in pm_put_in an_put_in cd_put_in ct_put_in), sl_put_in⟩)
    (c_put_in : PySem.W.codeIn K cd_put_in "put_in" = true)
    (k_put_in : PySem.W.keepIn K (.ref f_put_in) = true)
    (a_taken_out : PySem.W.nsIn K mainGlobals "taken_out" = some (some (.ref f_taken_out)))
    (l_taken_out : K.lookup f_taken_out = some ⟨oc_taken_out, od_taken_out, .func (PySem.W.fnOf "taken_out" "taken_out" (defArgs staken_out) (defBody staken_out) (defScope staken_out) .none kV_taken_out dc_taken_out pm_taken_out an_taken_out cd_taken_out ct_taken_out), sl_taken_out⟩)
    (c_taken_out : PySem.W.codeIn K cd_taken_out "taken_out" = true)
    (k_taken_out : PySem.W.keepIn K (.ref f_taken_out) = true)
    (a_replaced : PySem.W.nsIn K mainGlobals "replaced" = some (some (.ref f_replaced)))
    (l_replaced : K.lookup f_replaced = some ⟨oc_replaced, od_replaced, .func (PySem.W.fnOf "replaced" "replaced" (defArgs sreplaced) (defBody sreplaced) (defScope sreplaced) .none kV_replaced dc_replaced pm_replaced an_replaced cd_replaced ct_replaced), sl_replaced⟩)
    (c_replaced : PySem.W.codeIn K cd_replaced "replaced" = true)
    (k_replaced : PySem.W.keepIn K (.ref f_replaced) = true)
    (a_behind_change : PySem.W.nsIn K mainGlobals "behind_change" = some (some (.ref f_behind_change)))
    (l_behind_change : K.lookup f_behind_change = some ⟨oc_behind_change, od_behind_change, .func (PySem.W.fnOf "behind_change" "behind_change" (defArgs sbehind_change) (defBody sbehind_change) (defScope sbehind_change) .none kV_behind_change dc_behind_change pm_behind_change an_behind_change cd_behind_change ct_behind_change), sl_behind_change⟩)
    (c_behind_change : PySem.W.codeIn K cd_behind_change "behind_change" = true)
    (k_behind_change : PySem.W.keepIn K (.ref f_behind_change) = true)
    (a_row_of : PySem.W.nsIn K mainGlobals "row_of" = some (some (.ref f_row_of)))
    (l_row_of : K.lookup f_row_of = some ⟨oc_row_of, od_row_of, .func (PySem.W.fnOf "row_of" "row_of" (defArgs srow_of) (defBody srow_of) (defScope srow_of) .none kV_row_of dc_row_of pm_row_of an_row_of cd_row_of ct_row_of), sl_row_of⟩)
    (c_row_of : PySem.W.codeIn K cd_row_of "row_of" = true)
    (k_row_of : PySem.W.keepIn K (.ref f_row_of) = true)
    (a_rows_of : PySem.W.nsIn K mainGlobals "rows_of" = some (some (.ref f_rows_of)))
    (l_rows_of : K.lookup f_rows_of = some ⟨oc_rows_of, od_rows_of, .func (PySem.W.fnOf "rows_of" "rows_of" (defArgs srows_of) (defBody srows_of) (defScope srows_of) .none kV_rows_of dc_rows_of pm_rows_of an_rows_of cd_rows_of ct_rows_of), sl_rows_of⟩)
    (c_rows_of : PySem.W.codeIn K cd_rows_of "rows_of" = true)
    (k_rows_of : PySem.W.keepIn K (.ref f_rows_of) = true)
    (a_number_in : PySem.W.nsIn K mainGlobals "number_in" = some (some (.ref f_number_in)))
    (l_number_in : K.lookup f_number_in = some ⟨oc_number_in, od_number_in, .func (PySem.W.fnOf "number_in" "number_in" (defArgs snumber_in) (defBody snumber_in) (defScope snumber_in) .none kV_number_in dc_number_in pm_number_in an_number_in cd_number_in ct_number_in), sl_number_in⟩)
    (c_number_in : PySem.W.codeIn K cd_number_in "number_in" = true)
    (k_number_in : PySem.W.keepIn K (.ref f_number_in) = true)
    (a_stretch_in : PySem.W.nsIn K mainGlobals "stretch_in" = some (some (.ref f_stretch_in)))
    (l_stretch_in : K.lookup f_stretch_in = some ⟨oc_stretch_in, od_stretch_in, .func (PySem.W.fnOf "stretch_in" "stretch_in" (defArgs sstretch_in) (defBody sstretch_in) (defScope sstretch_in) .none kV_stretch_in dc_stretch_in pm_stretch_in an_stretch_in cd_stretch_in ct_stretch_in), sl_stretch_in⟩)
    (c_stretch_in : PySem.W.codeIn K cd_stretch_in "stretch_in" = true)
    (k_stretch_in : PySem.W.keepIn K (.ref f_stretch_in) = true)
    (a_pass_in : PySem.W.nsIn K mainGlobals "pass_in" = some (some (.ref f_pass_in)))
    (l_pass_in : K.lookup f_pass_in = some ⟨oc_pass_in, od_pass_in, .func (PySem.W.fnOf "pass_in" "pass_in" (defArgs spass_in) (defBody spass_in) (defScope spass_in) .none kV_pass_in dc_pass_in pm_pass_in an_pass_in cd_pass_in ct_pass_in), sl_pass_in⟩)
    (c_pass_in : PySem.W.codeIn K cd_pass_in "pass_in" = true)
    (k_pass_in : PySem.W.keepIn K (.ref f_pass_in) = true)
    (a_pass_in_row : PySem.W.nsIn K mainGlobals "pass_in_row" = some (some (.ref f_pass_in_row)))
    (l_pass_in_row : K.lookup f_pass_in_row = some ⟨oc_pass_in_row, od_pass_in_row, .func (PySem.W.fnOf "pass_in_row" "pass_in_row" (defArgs spass_in_row) (defBody spass_in_row) (defScope spass_in_row) .none kV_pass_in_row dc_pass_in_row pm_pass_in_row an_pass_in_row cd_pass_in_row ct_pass_in_row), sl_pass_in_row⟩)
    (c_pass_in_row : PySem.W.codeIn K cd_pass_in_row "pass_in_row" = true)
    (k_pass_in_row : PySem.W.keepIn K (.ref f_pass_in_row) = true)
    (a_length_in_row : PySem.W.nsIn K mainGlobals "length_in_row" = some (some (.ref f_length_in_row)))
    (l_length_in_row : K.lookup f_length_in_row = some ⟨oc_length_in_row, od_length_in_row, .func (PySem.W.fnOf "length_in_row" "length_in_row" (defArgs slength_in_row) (defBody slength_in_row) (defScope slength_in_row) .none kV_length_in_row dc_length_in_row pm_length_in_row an_length_in_row cd_length_in_row ct_length_in_row), sl_length_in_row⟩)
    (c_length_in_row : PySem.W.codeIn K cd_length_in_row "length_in_row" = true)
    (k_length_in_row : PySem.W.keepIn K (.ref f_length_in_row) = true)
    (a_track_in : PySem.W.nsIn K mainGlobals "track_in" = some (some (.ref f_track_in)))
    (l_track_in : K.lookup f_track_in = some ⟨oc_track_in, od_track_in, .func (PySem.W.fnOf "track_in" "track_in" (defArgs strack_in) (defBody strack_in) (defScope strack_in) .none kV_track_in dc_track_in pm_track_in an_track_in cd_track_in ct_track_in), sl_track_in⟩)
    (c_track_in : PySem.W.codeIn K cd_track_in "track_in" = true)
    (k_track_in : PySem.W.keepIn K (.ref f_track_in) = true)
    (a_Track_init : PySem.W.findIn K (.ref C) "__init__" = some (some (.ref f_Track_init)))
    (i_Track_init : PySem.W.isFn K (.ref f_Track_init) = true)
    (l_Track_init : K.lookup f_Track_init = some ⟨oc_Track_init, od_Track_init, .func (PySem.W.fnOf "__init__" "Track.__init__" (defArgs sTrack_init) (defBody sTrack_init) (defScope sTrack_init) (.ref T_Track_init) kV_Track_init dc_Track_init pm_Track_init an_Track_init cd_Track_init ct_Track_init), sl_Track_init⟩)
    (c_Track_init : PySem.W.codeIn K cd_Track_init "Track.__init__" = true)
    (k_Track_init : PySem.W.keepIn K (.ref f_Track_init) = true)
    (t_Track_init : K.lookup T_Track_init = some ⟨to_Track_init, td_Track_init, .seq #[.ref e_Track_init] tn_Track_init, ts_Track_init⟩)
    (e_Track_init_at : K.lookup e_Track_init = some ⟨.type "tuple", eo_Track_init, .seq #[] en_Track_init, es_Track_init⟩)
    (a_Track_length : PySem.W.findIn K (.ref C) "length" = some (some (.ref p_Track_length)))
    (pg_Track_length : PySem.W.specialIn K (.ref p_Track_length) "__get__" = some (some (.builtin "property.__get__")))
    (pt_Track_length : PySem.W.takesIn K (.ref p_Track_length) = some true)
    (pr_Track_length_at : PySem.W.recIn K p_Track_length "property" = some (.ref f_Track_length :: pr_Track_length))
    (l_Track_length : K.lookup f_Track_length = some ⟨oc_Track_length, od_Track_length, .func (PySem.W.fnOf "length" "Track.length" (defArgs sTrack_length) (defBody sTrack_length) (defScope sTrack_length) .none kV_Track_length dc_Track_length pm_Track_length an_Track_length cd_Track_length ct_Track_length), sl_Track_length⟩)
    (c_Track_length : PySem.W.codeIn K cd_Track_length "Track.length" = true)
    (k_Track_length : PySem.W.keepIn K (.ref f_Track_length) = true)
    (a_Track_passes : PySem.W.findIn K (.ref C) "passes" = some (some (.ref p_Track_passes)))
    (pg_Track_passes : PySem.W.specialIn K (.ref p_Track_passes) "__get__" = some (some (.builtin "property.__get__")))
    (pt_Track_passes : PySem.W.takesIn K (.ref p_Track_passes) = some true)
    (pr_Track_passes_at : PySem.W.recIn K p_Track_passes "property" = some (.ref f_Track_passes :: pr_Track_passes))
    (l_Track_passes : K.lookup f_Track_passes = some ⟨oc_Track_passes, od_Track_passes, .func (PySem.W.fnOf "passes" "Track.passes" (defArgs sTrack_passes) (defBody sTrack_passes) (defScope sTrack_passes) .none kV_Track_passes dc_Track_passes pm_Track_passes an_Track_passes cd_Track_passes ct_Track_passes), sl_Track_passes⟩)
    (c_Track_passes : PySem.W.codeIn K cd_Track_passes "Track.passes" = true)
    (k_Track_passes : PySem.W.keepIn K (.ref f_Track_passes) = true)
    (a_Track_names : PySem.W.findIn K (.ref C) "names" = some (some (.ref p_Track_names)))
    (pg_Track_names : PySem.W.specialIn K (.ref p_Track_names) "__get__" = some (some (.builtin "property.__get__")))
    (pt_Track_names : PySem.W.takesIn K (.ref p_Track_names) = some true)
    (pr_Track_names_at : PySem.W.recIn K p_Track_names "property" = some (.ref f_Track_names :: pr_Track_names))
    (l_Track_names : K.lookup f_Track_names = some ⟨oc_Track_names, od_Track_names, .func (PySem.W.fnOf "names" "Track.names" (defArgs sTrack_names) (defBody sTrack_names) (defScope sTrack_names) .none kV_Track_names dc_Track_names pm_Track_names an_Track_names cd_Track_names ct_Track_names), sl_Track_names⟩)
    (c_Track_names : PySem.W.codeIn K cd_Track_names "Track.names" = true)
    (k_Track_names : PySem.W.keepIn K (.ref f_Track_names) = true)
    (a_Track_len : PySem.W.findIn K (.ref C) "__len__" = some (some (.ref f_Track_len)))
    (i_Track_len : PySem.W.isFn K (.ref f_Track_len) = true)
    (l_Track_len : K.lookup f_Track_len = some ⟨oc_Track_len, od_Track_len, .func (PySem.W.fnOf "__len__" "Track.__len__" (defArgs sTrack_len) (defBody sTrack_len) (defScope sTrack_len) .none kV_Track_len dc_Track_len pm_Track_len an_Track_len cd_Track_len ct_Track_len), sl_Track_len⟩)
    (c_Track_len : PySem.W.codeIn K cd_Track_len "Track.__len__" = true)
    (k_Track_len : PySem.W.keepIn K (.ref f_Track_len) = true)
    (a_Track_bool : PySem.W.findIn K (.ref C) "__bool__" = some (some (.ref f_Track_bool)))
    (i_Track_bool : PySem.W.isFn K (.ref f_Track_bool) = true)
    (l_Track_bool : K.lookup f_Track_bool = some ⟨oc_Track_bool, od_Track_bool, .func (PySem.W.fnOf "__bool__" "Track.__bool__" (defArgs sTrack_bool) (defBody sTrack_bool) (defScope sTrack_bool) .none kV_Track_bool dc_Track_bool pm_Track_bool an_Track_bool cd_Track_bool ct_Track_bool), sl_Track_bool⟩)
    (c_Track_bool : PySem.W.codeIn K cd_Track_bool "Track.__bool__" = true)
    (k_Track_bool : PySem.W.keepIn K (.ref f_Track_bool) = true)
    (a_Track_eq : PySem.W.findIn K (.ref C) "__eq__" = some (some (.ref f_Track_eq)))
    (i_Track_eq : PySem.W.isFn K (.ref f_Track_eq) = true)
    (l_Track_eq : K.lookup f_Track_eq = some ⟨oc_Track_eq, od_Track_eq, .func (PySem.W.fnOf "__eq__" "Track.__eq__" (defArgs sTrack_eq) (defBody sTrack_eq) (defScope sTrack_eq) .none kV_Track_eq dc_Track_eq pm_Track_eq an_Track_eq cd_Track_eq ct_Track_eq), sl_Track_eq⟩)
    (c_Track_eq : PySem.W.codeIn K cd_Track_eq "Track.__eq__" = true)
    (k_Track_eq : PySem.W.keepIn K (.ref f_Track_eq) = true)
    (a_Track_str : PySem.W.findIn K (.ref C) "__str__" = some (some (.ref f_Track_str)))
    (i_Track_str : PySem.W.isFn K (.ref f_Track_str) = true)
    (l_Track_str : K.lookup f_Track_str = some ⟨oc_Track_str, od_Track_str, .func (PySem.W.fnOf "__str__" "Track.__str__" (defArgs sTrack_str) (defBody sTrack_str) (defScope sTrack_str) .none kV_Track_str dc_Track_str pm_Track_str an_Track_str cd_Track_str ct_Track_str), sl_Track_str⟩)
    (c_Track_str : PySem.W.codeIn K cd_Track_str "Track.__str__" = true)
    (k_Track_str : PySem.W.keepIn K (.ref f_Track_str) = true)
    (a_Track_contains : PySem.W.findIn K (.ref C) "__contains__" = some (some (.ref f_Track_contains)))
    (i_Track_contains : PySem.W.isFn K (.ref f_Track_contains) = true)
    (l_Track_contains : K.lookup f_Track_contains = some ⟨oc_Track_contains, od_Track_contains, .func (PySem.W.fnOf "__contains__" "Track.__contains__" (defArgs sTrack_contains) (defBody sTrack_contains) (defScope sTrack_contains) .none kV_Track_contains dc_Track_contains pm_Track_contains an_Track_contains cd_Track_contains ct_Track_contains), sl_Track_contains⟩)
    (c_Track_contains : PySem.W.codeIn K cd_Track_contains "Track.__contains__" = true)
    (k_Track_contains : PySem.W.keepIn K (.ref f_Track_contains) = true)
    (a_Track_getitem : PySem.W.findIn K (.ref C) "__getitem__" = some (some (.ref f_Track_getitem)))
    (i_Track_getitem : PySem.W.isFn K (.ref f_Track_getitem) = true)
    (l_Track_getitem : K.lookup f_Track_getitem = some ⟨oc_Track_getitem, od_Track_getitem, .func (PySem.W.fnOf "__getitem__" "Track.__getitem__" (defArgs sTrack_getitem) (defBody sTrack_getitem) (defScope sTrack_getitem) .none kV_Track_getitem dc_Track_getitem pm_Track_getitem an_Track_getitem cd_Track_getitem ct_Track_getitem), sl_Track_getitem⟩)
    (c_Track_getitem : PySem.W.codeIn K cd_Track_getitem "Track.__getitem__" = true)
    (k_Track_getitem : PySem.W.keepIn K (.ref f_Track_getitem) = true)
    (a_Track_iter : PySem.W.findIn K (.ref C) "__iter__" = some (some (.ref f_Track_iter)))
    (i_Track_iter : PySem.W.isFn K (.ref f_Track_iter) = true)
    (l_Track_iter : K.lookup f_Track_iter = some ⟨oc_Track_iter, od_Track_iter, .func (PySem.W.fnOf "__iter__" "Track.__iter__" (defArgs sTrack_iter) (defBody sTrack_iter) (defScope sTrack_iter) .none kV_Track_iter dc_Track_iter pm_Track_iter an_Track_iter cd_Track_iter ct_Track_iter), sl_Track_iter⟩)
    (c_Track_iter : PySem.W.codeIn K cd_Track_iter "Track.__iter__" = true)
    (k_Track_iter : PySem.W.keepIn K (.ref f_Track_iter) = true)
    (a_Track_known_place : PySem.W.findIn K (.ref C) "_known_place" = some (some (.ref f_Track_known_place)))
    (i_Track_known_place : PySem.W.isFn K (.ref f_Track_known_place) = true)
    (l_Track_known_place : K.lookup f_Track_known_place = some ⟨oc_Track_known_place, od_Track_known_place, .func (PySem.W.fnOf "_known_place" "Track._known_place" (defArgs sTrack_known_place) (defBody sTrack_known_place) (defScope sTrack_known_place) .none kV_Track_known_place dc_Track_known_place pm_Track_known_place an_Track_known_place cd_Track_known_place ct_Track_known_place), sl_Track_known_place⟩)
    (c_Track_known_place : PySem.W.codeIn K cd_Track_known_place "Track._known_place" = true)
    (k_Track_known_place : PySem.W.keepIn K (.ref f_Track_known_place) = true)
    (a_Track_put : PySem.W.findIn K (.ref C) "put" = some (some (.ref f_Track_put)))
    (i_Track_put : PySem.W.isFn K (.ref f_Track_put) = true)
    (l_Track_put : K.lookup f_Track_put = some ⟨oc_Track_put, od_Track_put, .func (PySem.W.fnOf "put" "Track.put" (defArgs sTrack_put) (defBody sTrack_put) (defScope sTrack_put) (.ref T_Track_put) kV_Track_put dc_Track_put pm_Track_put an_Track_put cd_Track_put ct_Track_put), sl_Track_put⟩)
    (c_Track_put : PySem.W.codeIn K cd_Track_put "Track.put" = true)
    (k_Track_put : PySem.W.keepIn K (.ref f_Track_put) = true)
    (t_Track_put : K.lookup T_Track_put = some ⟨to_Track_put, td_Track_put, .seq #[.none] tn_Track_put, ts_Track_put⟩)
    (a_Track_without : PySem.W.findIn K (.ref C) "without" = some (some (.ref f_Track_without)))
    (i_Track_without : PySem.W.isFn K (.ref f_Track_without) = true)
    (l_Track_without : K.lookup f_Track_without = some ⟨oc_Track_without, od_Track_without, .func (PySem.W.fnOf "without" "Track.without" (defArgs sTrack_without) (defBody sTrack_without) (defScope sTrack_without) .none kV_Track_without dc_Track_without pm_Track_without an_Track_without cd_Track_without ct_Track_without), sl_Track_without⟩)
    (c_Track_without : PySem.W.codeIn K cd_Track_without "Track.without" = true)
    (k_Track_without : PySem.W.keepIn K (.ref f_Track_without) = true)
    (a_Track_moved : PySem.W.findIn K (.ref C) "moved" = some (some (.ref f_Track_moved)))
    (i_Track_moved : PySem.W.isFn K (.ref f_Track_moved) = true)
    (l_Track_moved : K.lookup f_Track_moved = some ⟨oc_Track_moved, od_Track_moved, .func (PySem.W.fnOf "moved" "Track.moved" (defArgs sTrack_moved) (defBody sTrack_moved) (defScope sTrack_moved) .none kV_Track_moved dc_Track_moved pm_Track_moved an_Track_moved cd_Track_moved ct_Track_moved), sl_Track_moved⟩)
    (c_Track_moved : PySem.W.codeIn K cd_Track_moved "Track.moved" = true)
    (k_Track_moved : PySem.W.keepIn K (.ref f_Track_moved) = true)
    (a_Track_changed : PySem.W.findIn K (.ref C) "changed" = some (some (.ref f_Track_changed)))
    (i_Track_changed : PySem.W.isFn K (.ref f_Track_changed) = true)
    (l_Track_changed : K.lookup f_Track_changed = some ⟨oc_Track_changed, od_Track_changed, .func (PySem.W.fnOf "changed" "Track.changed" (defArgs sTrack_changed) (defBody sTrack_changed) (defScope sTrack_changed) .none kV_Track_changed dc_Track_changed pm_Track_changed an_Track_changed cd_Track_changed ct_Track_changed), sl_Track_changed⟩)
    (c_Track_changed : PySem.W.codeIn K cd_Track_changed "Track.changed" = true)
    (k_Track_changed : PySem.W.keepIn K (.ref f_Track_changed) = true)
    (a_law_purse : PySem.W.nsIn K mainGlobals "_law_purse" = some (some (.ref f_law_purse)))
    (l_law_purse : K.lookup f_law_purse = some ⟨oc_law_purse, od_law_purse, .func (PySem.W.fnOf "_law_purse" "_law_purse" (defArgs slaw_purse) (defBody slaw_purse) (defScope slaw_purse) .none kV_law_purse dc_law_purse pm_law_purse an_law_purse cd_law_purse ct_law_purse), sl_law_purse⟩)
    (c_law_purse : PySem.W.codeIn K cd_law_purse "_law_purse" = true)
    (k_law_purse : PySem.W.keepIn K (.ref f_law_purse) = true)
    (a_law_draw : PySem.W.nsIn K mainGlobals "_law_draw" = some (some (.ref f_law_draw)))
    (l_law_draw : K.lookup f_law_draw = some ⟨oc_law_draw, od_law_draw, .func (PySem.W.fnOf "_law_draw" "_law_draw" (defArgs slaw_draw) (defBody slaw_draw) (defScope slaw_draw) .none kV_law_draw dc_law_draw pm_law_draw an_law_draw cd_law_draw ct_law_draw), sl_law_draw⟩)
    (c_law_draw : PySem.W.codeIn K cd_law_draw "_law_draw" = true)
    (k_law_draw : PySem.W.keepIn K (.ref f_law_draw) = true)
    (a_law_pick : PySem.W.nsIn K mainGlobals "_law_pick" = some (some (.ref f_law_pick)))
    (l_law_pick : K.lookup f_law_pick = some ⟨oc_law_pick, od_law_pick, .func (PySem.W.fnOf "_law_pick" "_law_pick" (defArgs slaw_pick) (defBody slaw_pick) (defScope slaw_pick) .none kV_law_pick dc_law_pick pm_law_pick an_law_pick cd_law_pick ct_law_pick), sl_law_pick⟩)
    (c_law_pick : PySem.W.codeIn K cd_law_pick "_law_pick" = true)
    (k_law_pick : PySem.W.keepIn K (.ref f_law_pick) = true)
    (a_law_wide : PySem.W.nsIn K mainGlobals "_law_wide" = some (some (.ref f_law_wide)))
    (l_law_wide : K.lookup f_law_wide = some ⟨oc_law_wide, od_law_wide, .func (PySem.W.fnOf "_law_wide" "_law_wide" (defArgs slaw_wide) (defBody slaw_wide) (defScope slaw_wide) .none kV_law_wide dc_law_wide pm_law_wide an_law_wide cd_law_wide ct_law_wide), sl_law_wide⟩)
    (c_law_wide : PySem.W.codeIn K cd_law_wide "_law_wide" = true)
    (k_law_wide : PySem.W.keepIn K (.ref f_law_wide) = true)
    (a_law_touches : PySem.W.nsIn K mainGlobals "_law_touches" = some (some (.ref f_law_touches)))
    (l_law_touches : K.lookup f_law_touches = some ⟨oc_law_touches, od_law_touches, .func (PySem.W.fnOf "_law_touches" "_law_touches" (defArgs slaw_touches) (defBody slaw_touches) (defScope slaw_touches) .none kV_law_touches dc_law_touches pm_law_touches an_law_touches cd_law_touches ct_law_touches), sl_law_touches⟩)
    (c_law_touches : PySem.W.codeIn K cd_law_touches "_law_touches" = true)
    (k_law_touches : PySem.W.keepIn K (.ref f_law_touches) = true)
    (a_law_words : PySem.W.nsIn K mainGlobals "_law_words" = some (some (.ref f_law_words)))
    (l_law_words : K.lookup f_law_words = some ⟨oc_law_words, od_law_words, .func (PySem.W.fnOf "_law_words" "_law_words" (defArgs slaw_words) (defBody slaw_words) (defScope slaw_words) .none kV_law_words dc_law_words pm_law_words an_law_words cd_law_words ct_law_words), sl_law_words⟩)
    (c_law_words : PySem.W.codeIn K cd_law_words "_law_words" = true)
    (k_law_words : PySem.W.keepIn K (.ref f_law_words) = true)
    (a_law_fader : PySem.W.nsIn K mainGlobals "_law_fader" = some (some (.ref f_law_fader)))
    (l_law_fader : K.lookup f_law_fader = some ⟨oc_law_fader, od_law_fader, .func (PySem.W.fnOf "_law_fader" "_law_fader" (defArgs slaw_fader) (defBody slaw_fader) (defScope slaw_fader) .none kV_law_fader dc_law_fader pm_law_fader an_law_fader cd_law_fader ct_law_fader), sl_law_fader⟩)
    (c_law_fader : PySem.W.codeIn K cd_law_fader "_law_fader" = true)
    (k_law_fader : PySem.W.keepIn K (.ref f_law_fader) = true)
    (a_law_faders : PySem.W.nsIn K mainGlobals "_law_faders" = some (some (.ref f_law_faders)))
    (l_law_faders : K.lookup f_law_faders = some ⟨oc_law_faders, od_law_faders, .func (PySem.W.fnOf "_law_faders" "_law_faders" (defArgs slaw_faders) (defBody slaw_faders) (defScope slaw_faders) .none kV_law_faders dc_law_faders pm_law_faders an_law_faders cd_law_faders ct_law_faders), sl_law_faders⟩)
    (c_law_faders : PySem.W.codeIn K cd_law_faders "_law_faders" = true)
    (k_law_faders : PySem.W.keepIn K (.ref f_law_faders) = true)
    (a_law_long : PySem.W.nsIn K mainGlobals "_law_long" = some (some (.ref f_law_long)))
    (l_law_long : K.lookup f_law_long = some ⟨oc_law_long, od_law_long, .func (PySem.W.fnOf "_law_long" "_law_long" (defArgs slaw_long) (defBody slaw_long) (defScope slaw_long) .none kV_law_long dc_law_long pm_law_long an_law_long cd_law_long ct_law_long), sl_law_long⟩)
    (c_law_long : PySem.W.codeIn K cd_law_long "_law_long" = true)
    (k_law_long : PySem.W.keepIn K (.ref f_law_long) = true)
    (a_law_is_from : PySem.W.nsIn K mainGlobals "_law_is_from" = some (some (.ref f_law_is_from)))
    (l_law_is_from : K.lookup f_law_is_from = some ⟨oc_law_is_from, od_law_is_from, .func (PySem.W.fnOf "_law_is_from" "_law_is_from" (defArgs slaw_is_from) (defBody slaw_is_from) (defScope slaw_is_from) .none kV_law_is_from dc_law_is_from pm_law_is_from an_law_is_from cd_law_is_from ct_law_is_from), sl_law_is_from⟩)
    (c_law_is_from : PySem.W.codeIn K cd_law_is_from "_law_is_from" = true)
    (k_law_is_from : PySem.W.keepIn K (.ref f_law_is_from) = true)
    (a_law_is_word : PySem.W.nsIn K mainGlobals "_law_is_word" = some (some (.ref f_law_is_word)))
    (l_law_is_word : K.lookup f_law_is_word = some ⟨oc_law_is_word, od_law_is_word, .func (PySem.W.fnOf "_law_is_word" "_law_is_word" (defArgs slaw_is_word) (defBody slaw_is_word) (defScope slaw_is_word) .none kV_law_is_word dc_law_is_word pm_law_is_word an_law_is_word cd_law_is_word ct_law_is_word), sl_law_is_word⟩)
    (c_law_is_word : PySem.W.codeIn K cd_law_is_word "_law_is_word" = true)
    (k_law_is_word : PySem.W.keepIn K (.ref f_law_is_word) = true)
    (a_law_are_marks : PySem.W.nsIn K mainGlobals "_law_are_marks" = some (some (.ref f_law_are_marks)))
    (l_law_are_marks : K.lookup f_law_are_marks = some ⟨oc_law_are_marks, od_law_are_marks, .func (PySem.W.fnOf "_law_are_marks" "_law_are_marks" (defArgs slaw_are_marks) (defBody slaw_are_marks) (defScope slaw_are_marks) .none kV_law_are_marks dc_law_are_marks pm_law_are_marks an_law_are_marks cd_law_are_marks ct_law_are_marks), sl_law_are_marks⟩)
    (c_law_are_marks : PySem.W.codeIn K cd_law_are_marks "_law_are_marks" = true)
    (k_law_are_marks : PySem.W.keepIn K (.ref f_law_are_marks) = true)
    (a_law_is_fader : PySem.W.nsIn K mainGlobals "_law_is_fader" = some (some (.ref f_law_is_fader)))
    (l_law_is_fader : K.lookup f_law_is_fader = some ⟨oc_law_is_fader, od_law_is_fader, .func (PySem.W.fnOf "_law_is_fader" "_law_is_fader" (defArgs slaw_is_fader) (defBody slaw_is_fader) (defScope slaw_is_fader) .none kV_law_is_fader dc_law_is_fader pm_law_is_fader an_law_is_fader cd_law_is_fader ct_law_is_fader), sl_law_is_fader⟩)
    (c_law_is_fader : PySem.W.codeIn K cd_law_is_fader "_law_is_fader" = true)
    (k_law_is_fader : PySem.W.keepIn K (.ref f_law_is_fader) = true)
    (a_law_same : PySem.W.nsIn K mainGlobals "_law_same" = some (some (.ref f_law_same)))
    (l_law_same : K.lookup f_law_same = some ⟨oc_law_same, od_law_same, .func (PySem.W.fnOf "_law_same" "_law_same" (defArgs slaw_same) (defBody slaw_same) (defScope slaw_same) .none kV_law_same dc_law_same pm_law_same an_law_same cd_law_same ct_law_same), sl_law_same⟩)
    (c_law_same : PySem.W.codeIn K cd_law_same "_law_same" = true)
    (k_law_same : PySem.W.keepIn K (.ref f_law_same) = true)
    (a_law_put_right : PySem.W.nsIn K mainGlobals "_law_put_right" = some (some (.ref f_law_put_right)))
    (l_law_put_right : K.lookup f_law_put_right = some ⟨oc_law_put_right, od_law_put_right, .func (PySem.W.fnOf "_law_put_right" "_law_put_right" (defArgs slaw_put_right) (defBody slaw_put_right) (defScope slaw_put_right) .none kV_law_put_right dc_law_put_right pm_law_put_right an_law_put_right cd_law_put_right ct_law_put_right), sl_law_put_right⟩)
    (c_law_put_right : PySem.W.codeIn K cd_law_put_right "_law_put_right" = true)
    (k_law_put_right : PySem.W.keepIn K (.ref f_law_put_right) = true)
    (a_law_turned_right : PySem.W.nsIn K mainGlobals "_law_turned_right" = some (some (.ref f_law_turned_right)))
    (l_law_turned_right : K.lookup f_law_turned_right = some ⟨oc_law_turned_right, od_law_turned_right, .func (PySem.W.fnOf "_law_turned_right" "_law_turned_right" (defArgs slaw_turned_right) (defBody slaw_turned_right) (defScope slaw_turned_right) .none kV_law_turned_right dc_law_turned_right pm_law_turned_right an_law_turned_right cd_law_turned_right ct_law_turned_right), sl_law_turned_right⟩)
    (c_law_turned_right : PySem.W.codeIn K cd_law_turned_right "_law_turned_right" = true)
    (k_law_turned_right : PySem.W.keepIn K (.ref f_law_turned_right) = true)
    (a_law_changed_right : PySem.W.nsIn K mainGlobals "_law_changed_right" = some (some (.ref f_law_changed_right)))
    (l_law_changed_right : K.lookup f_law_changed_right = some ⟨oc_law_changed_right, od_law_changed_right, .func (PySem.W.fnOf "_law_changed_right" "_law_changed_right" (defArgs slaw_changed_right) (defBody slaw_changed_right) (defScope slaw_changed_right) .none kV_law_changed_right dc_law_changed_right pm_law_changed_right an_law_changed_right cd_law_changed_right ct_law_changed_right), sl_law_changed_right⟩)
    (c_law_changed_right : PySem.W.codeIn K cd_law_changed_right "_law_changed_right" = true)
    (k_law_changed_right : PySem.W.keepIn K (.ref f_law_changed_right) = true)
    (a_law_right : PySem.W.nsIn K mainGlobals "_law_right" = some (some (.ref f_law_right)))
    (l_law_right : K.lookup f_law_right = some ⟨oc_law_right, od_law_right, .func (PySem.W.fnOf "_law_right" "_law_right" (defArgs slaw_right) (defBody slaw_right) (defScope slaw_right) .none kV_law_right dc_law_right pm_law_right an_law_right cd_law_right ct_law_right), sl_law_right⟩)
    (c_law_right : PySem.W.codeIn K cd_law_right "_law_right" = true)
    (k_law_right : PySem.W.keepIn K (.ref f_law_right) = true)
    (a_law : PySem.W.nsIn K mainGlobals "law" = some (some (.ref f_law)))
    (l_law : K.lookup f_law = some ⟨oc_law, od_law, .func (PySem.W.fnOf "law" "law" (defArgs slaw) (defBody slaw) (defScope slaw) .none kV_law dc_law pm_law an_law cd_law ct_law), sl_law⟩)
    (c_law : PySem.W.codeIn K cd_law "law" = true)
    (k_law : PySem.W.keepIn K (.ref f_law) = true)
    (a_LETTERS : PySem.W.nsIn K mainGlobals "LETTERS" = some (some (.str "abcdefghijklmnopqrstuvwxyz" t_LETTERS)))
    (a_DIGITS : PySem.W.nsIn K mainGlobals "DIGITS" = some (some (.str "0123456789" t_DIGITS)))
    (a_MOST_SIGNS : PySem.W.nsIn K mainGlobals "MOST_SIGNS" = some (some (.int 8 t_MOST_SIGNS)))
    (a_MOST_LENGTH : PySem.W.nsIn K mainGlobals "MOST_LENGTH" = some (some (.int 1000000000000 t_MOST_LENGTH)))
    (a_MOST_PASSES : PySem.W.nsIn K mainGlobals "MOST_PASSES" = some (some (.int 8 t_MOST_PASSES)))
    (a_MOST_TOUCHES : PySem.W.nsIn K mainGlobals "MOST_TOUCHES" = some (some (.int 6 t_MOST_TOUCHES)))
    (a_MOST_GLIDE : PySem.W.nsIn K mainGlobals "MOST_GLIDE" = some (some (.int 100 t_MOST_GLIDE)))
    (a_OLD : PySem.W.nsIn K mainGlobals "OLD" = some (some (.str "old" t_OLD)))
    (b_MODES : PySem.W.nsIn K mainGlobals "MODES" = some (some (.ref a_MODES)))
    (l_MODES : K.lookup a_MODES = some ⟨.type "tuple", o_MODES, .seq #[.str "write" t0_MODES, .str "latch" t1_MODES, .str "touch" t2_MODES, .str "trim" t3_MODES] n_MODES, s_MODES⟩)
    (b_TAILS : PySem.W.nsIn K mainGlobals "TAILS" = some (some (.ref a_TAILS)))
    (l_TAILS : K.lookup a_TAILS = some ⟨.type "tuple", o_TAILS, .seq #[.str "stop" t0_TAILS, .str "on" t1_TAILS] n_TAILS, s_TAILS⟩)
    (a_SIZE : PySem.W.nsIn K mainGlobals "SIZE" = some (some (.int 7 t_SIZE)))
    (b_PARTS : PySem.W.nsIn K mainGlobals "PARTS" = some (some (.ref a_PARTS)))
    (l_PARTS : K.lookup a_PARTS = some ⟨.type "dict", none, .dict es_PARTS n_PARTS, #[]⟩)
    (kl_PARTS : PySem.W.KeysLit pr es_PARTS.toList)
    (sm_PARTS : (a_PARTS == sysModules) = false)
    (i_PARTS_mode : PySem.W.nsIn K a_PARTS "mode" = some (some (.int 1 t_PARTS_mode)))
    (i_PARTS_from : PySem.W.nsIn K a_PARTS "from" = some (some (.int 2 t_PARTS_from)))
    (i_PARTS_to : PySem.W.nsIn K a_PARTS "to" = some (some (.int 3 t_PARTS_to)))
    (i_PARTS_touches : PySem.W.nsIn K a_PARTS "touches" = some (some (.int 4 t_PARTS_touches)))
    (i_PARTS_glide : PySem.W.nsIn K a_PARTS "glide" = some (some (.int 5 t_PARTS_glide)))
    (i_PARTS_tail : PySem.W.nsIn K a_PARTS "tail" = some (some (.int 6 t_PARTS_tail)))
    (a_MOST_DIGITS : PySem.W.nsIn K mainGlobals "MOST_DIGITS" = some (some (.int 13 t_MOST_DIGITS)))
    (a_FEWEST_WORDS : PySem.W.nsIn K mainGlobals "FEWEST_WORDS" = some (some (.int 6 t_FEWEST_WORDS)))
    (z_len : PySem.W.nsIn K mainGlobals "len" = some none)
    (z_isinstance : PySem.W.nsIn K mainGlobals "isinstance" = some none)
    (z_int : PySem.W.nsIn K mainGlobals "int" = some none)
    (z_bool : PySem.W.nsIn K mainGlobals "bool" = some none)
    (z_str : PySem.W.nsIn K mainGlobals "str" = some none)
    (z_tuple : PySem.W.nsIn K mainGlobals "tuple" = some none)
    (z_all : PySem.W.nsIn K mainGlobals "all" = some none)
    (z_range : PySem.W.nsIn K mainGlobals "range" = some none)
    (z_enumerate : PySem.W.nsIn K mainGlobals "enumerate" = some none)
    (z_abs : PySem.W.nsIn K mainGlobals "abs" = some none)
    (z_divmod : PySem.W.nsIn K mainGlobals "divmod" = some none)
    (z_max : PySem.W.nsIn K mainGlobals "max" = some none)
    (z_min : PySem.W.nsIn K mainGlobals "min" = some none)
    (z_repr : PySem.W.nsIn K mainGlobals "repr" = some none) :
    ∃ T : Txt pr K mg, T.law.f = f_law := by
  have F_is_integer := fun_mk (st := sis_integer) l_is_integer c_is_integer k_is_integer
  have F_is_between := fun_mk (st := sis_between) l_is_between c_is_between k_is_between
  have F_is_name := fun_mk (st := sis_name) l_is_name c_is_name k_is_name
  have F_is_word := fun_mk (st := sis_word) l_is_word c_is_word k_is_word
  have F_is_stretch := fun_mk (st := sis_stretch) l_is_stretch c_is_stretch k_is_stretch
  have F_is_length := fun_mk (st := sis_length) l_is_length c_is_length k_is_length
  have F_are_touches := fun_mk (st := sare_touches) l_are_touches c_are_touches k_are_touches
  have F_is_pass := fun_mk (st := sis_pass) l_is_pass c_is_pass k_is_pass
  have F_first_wrong := fun_mk (st := sfirst_wrong) l_first_wrong c_first_wrong k_first_wrong
  have F_place_of := fun_mk (st := splace_of) l_place_of c_place_of k_place_of
  have F_is_change := fun_mk (st := sis_change) l_is_change c_is_change k_is_change
  have F_put_in := fun_mk (st := sput_in) l_put_in c_put_in k_put_in
  have F_taken_out := fun_mk (st := staken_out) l_taken_out c_taken_out k_taken_out
  have F_replaced := fun_mk (st := sreplaced) l_replaced c_replaced k_replaced
  have F_behind_change := fun_mk (st := sbehind_change) l_behind_change c_behind_change k_behind_change
  have F_row_of := fun_mk (st := srow_of) l_row_of c_row_of k_row_of
  have F_rows_of := fun_mk (st := srows_of) l_rows_of c_rows_of k_rows_of
  have F_number_in := fun_mk (st := snumber_in) l_number_in c_number_in k_number_in
  have F_stretch_in := fun_mk (st := sstretch_in) l_stretch_in c_stretch_in k_stretch_in
  have F_pass_in := fun_mk (st := spass_in) l_pass_in c_pass_in k_pass_in
  have F_pass_in_row := fun_mk (st := spass_in_row) l_pass_in_row c_pass_in_row k_pass_in_row
  have F_length_in_row := fun_mk (st := slength_in_row) l_length_in_row c_length_in_row k_length_in_row
  have F_track_in := fun_mk (st := strack_in) l_track_in c_track_in k_track_in
  have F_Track_init : FunD K "__init__" "Track.__init__" (defArgs sTrack_init) (defBody sTrack_init) (defScope sTrack_init) [(V.ref e_Track_init)] [] f_Track_init (PySem.W.fnOf "__init__" "Track.__init__" (defArgs sTrack_init) (defBody sTrack_init) (defScope sTrack_init) (.ref T_Track_init) kV_Track_init dc_Track_init pm_Track_init an_Track_init cd_Track_init ct_Track_init) := ⟨⟨oc_Track_init, od_Track_init, _, kV_Track_init, dc_Track_init, pm_Track_init, an_Track_init, cd_Track_init, ct_Track_init, sl_Track_init, rfl, l_Track_init, c_Track_init, .inr ⟨by simp, T_Track_init, _, [Value.ref e_Track_init], tn_Track_init, rfl, t_Track_init, rfl, .cons rfl .nil⟩, .inl rfl⟩, k_Track_init⟩
  have F_Track_length := fun_mk (st := sTrack_length) l_Track_length c_Track_length k_Track_length
  have F_Track_passes := fun_mk (st := sTrack_passes) l_Track_passes c_Track_passes k_Track_passes
  have F_Track_names := fun_mk (st := sTrack_names) l_Track_names c_Track_names k_Track_names
  have F_Track_len := fun_mk (st := sTrack_len) l_Track_len c_Track_len k_Track_len
  have F_Track_bool := fun_mk (st := sTrack_bool) l_Track_bool c_Track_bool k_Track_bool
  have F_Track_eq := fun_mk (st := sTrack_eq) l_Track_eq c_Track_eq k_Track_eq
  have F_Track_str := fun_mk (st := sTrack_str) l_Track_str c_Track_str k_Track_str
  have F_Track_contains := fun_mk (st := sTrack_contains) l_Track_contains c_Track_contains k_Track_contains
  have F_Track_getitem := fun_mk (st := sTrack_getitem) l_Track_getitem c_Track_getitem k_Track_getitem
  have F_Track_iter := fun_mk (st := sTrack_iter) l_Track_iter c_Track_iter k_Track_iter
  have F_Track_known_place := fun_mk (st := sTrack_known_place) l_Track_known_place c_Track_known_place k_Track_known_place
  have F_Track_put : FunD K "put" "Track.put" (defArgs sTrack_put) (defBody sTrack_put) (defScope sTrack_put) [V.non] [] f_Track_put (PySem.W.fnOf "put" "Track.put" (defArgs sTrack_put) (defBody sTrack_put) (defScope sTrack_put) (.ref T_Track_put) kV_Track_put dc_Track_put pm_Track_put an_Track_put cd_Track_put ct_Track_put) := ⟨⟨oc_Track_put, od_Track_put, _, kV_Track_put, dc_Track_put, pm_Track_put, an_Track_put, cd_Track_put, ct_Track_put, sl_Track_put, rfl, l_Track_put, c_Track_put, .inr ⟨by simp, T_Track_put, _, [Value.none], tn_Track_put, rfl, t_Track_put, rfl, .cons rfl .nil⟩, .inl rfl⟩, k_Track_put⟩
  have F_Track_without := fun_mk (st := sTrack_without) l_Track_without c_Track_without k_Track_without
  have F_Track_moved := fun_mk (st := sTrack_moved) l_Track_moved c_Track_moved k_Track_moved
  have F_Track_changed := fun_mk (st := sTrack_changed) l_Track_changed c_Track_changed k_Track_changed
  have F_law_purse := fun_mk (st := slaw_purse) l_law_purse c_law_purse k_law_purse
  have F_law_draw := fun_mk (st := slaw_draw) l_law_draw c_law_draw k_law_draw
  have F_law_pick := fun_mk (st := slaw_pick) l_law_pick c_law_pick k_law_pick
  have F_law_wide := fun_mk (st := slaw_wide) l_law_wide c_law_wide k_law_wide
  have F_law_touches := fun_mk (st := slaw_touches) l_law_touches c_law_touches k_law_touches
  have F_law_words := fun_mk (st := slaw_words) l_law_words c_law_words k_law_words
  have F_law_fader := fun_mk (st := slaw_fader) l_law_fader c_law_fader k_law_fader
  have F_law_faders := fun_mk (st := slaw_faders) l_law_faders c_law_faders k_law_faders
  have F_law_long := fun_mk (st := slaw_long) l_law_long c_law_long k_law_long
  have F_law_is_from := fun_mk (st := slaw_is_from) l_law_is_from c_law_is_from k_law_is_from
  have F_law_is_word := fun_mk (st := slaw_is_word) l_law_is_word c_law_is_word k_law_is_word
  have F_law_are_marks := fun_mk (st := slaw_are_marks) l_law_are_marks c_law_are_marks k_law_are_marks
  have F_law_is_fader := fun_mk (st := slaw_is_fader) l_law_is_fader c_law_is_fader k_law_is_fader
  have F_law_same := fun_mk (st := slaw_same) l_law_same c_law_same k_law_same
  have F_law_put_right := fun_mk (st := slaw_put_right) l_law_put_right c_law_put_right k_law_put_right
  have F_law_turned_right := fun_mk (st := slaw_turned_right) l_law_turned_right c_law_turned_right k_law_turned_right
  have F_law_changed_right := fun_mk (st := slaw_changed_right) l_law_changed_right c_law_changed_right k_law_changed_right
  have F_law_right := fun_mk (st := slaw_right) l_law_right c_law_right k_law_right
  have F_law := fun_mk (st := slaw) l_law c_law k_law
  refine ⟨{
      C := C,
      gC := PySem.W.mg_of X G aC,
      cl := ⟨cpg, chd, cpo, csa⟩,
      kC := ckc,
      makes := cmk,
      hne := cne,
      hob := cob,
      hca := cca,
      hcn := ccn,
      hct := cct,
      hcm := ccm,
      n_length := na_length,
      n_passes := na_passes,
      is_integer := { f := f_is_integer, fd := _, F := F_is_integer, g := PySem.W.mg_of X G a_is_integer, b := F_is_integer.binds (ps := ["value"]) fun _ _ _ _ _ _ us hl => match us, hl with | [_], _ => rfl },
      is_between := { f := f_is_between, fd := _, F := F_is_between, g := PySem.W.mg_of X G a_is_between, b := F_is_between.binds (ps := ["value", "low", "high"]) fun _ _ _ _ _ _ us hl => match us, hl with | [_, _, _], _ => rfl },
      is_name := { f := f_is_name, fd := _, F := F_is_name, g := PySem.W.mg_of X G a_is_name, b := F_is_name.binds (ps := ["value"]) fun _ _ _ _ _ _ us hl => match us, hl with | [_], _ => rfl },
      is_word := { f := f_is_word, fd := _, F := F_is_word, g := PySem.W.mg_of X G a_is_word, b := F_is_word.binds (ps := ["value", "words"]) fun _ _ _ _ _ _ us hl => match us, hl with | [_, _], _ => rfl },
      is_stretch := { f := f_is_stretch, fd := _, F := F_is_stretch, g := PySem.W.mg_of X G a_is_stretch, b := F_is_stretch.binds (ps := ["value", "low", "high"]) fun _ _ _ _ _ _ us hl => match us, hl with | [_, _, _], _ => rfl },
      is_length := { f := f_is_length, fd := _, F := F_is_length, g := PySem.W.mg_of X G a_is_length, b := F_is_length.binds (ps := ["value"]) fun _ _ _ _ _ _ us hl => match us, hl with | [_], _ => rfl },
      are_touches := { f := f_are_touches, fd := _, F := F_are_touches, g := PySem.W.mg_of X G a_are_touches, b := F_are_touches.binds (ps := ["value", "first", "last"]) fun _ _ _ _ _ _ us hl => match us, hl with | [_, _, _], _ => rfl },
      is_pass := { f := f_is_pass, fd := _, F := F_is_pass, g := PySem.W.mg_of X G a_is_pass, b := F_is_pass.binds (ps := ["value", "length"]) fun _ _ _ _ _ _ us hl => match us, hl with | [_, _], _ => rfl },
      first_wrong := { f := f_first_wrong, fd := _, F := F_first_wrong, g := PySem.W.mg_of X G a_first_wrong, b := F_first_wrong.binds (ps := ["passes", "length"]) fun _ _ _ _ _ _ us hl => match us, hl with | [_, _], _ => rfl },
      place_of := { f := f_place_of, fd := _, F := F_place_of, g := PySem.W.mg_of X G a_place_of, b := F_place_of.binds (ps := ["passes", "name"]) fun _ _ _ _ _ _ us hl => match us, hl with | [_, _], _ => rfl },
      is_change := { f := f_is_change, fd := _, F := F_is_change, g := PySem.W.mg_of X G a_is_change, b := F_is_change.binds (ps := ["value", "passes"]) fun _ _ _ _ _ _ us hl => match us, hl with | [_, _], _ => rfl },
      put_in := { f := f_put_in, fd := _, F := F_put_in, g := PySem.W.mg_of X G a_put_in, b := F_put_in.binds (ps := ["row", "at", "new"]) fun _ _ _ _ _ _ us hl => match us, hl with | [_, _, _], _ => rfl },
      taken_out := { f := f_taken_out, fd := _, F := F_taken_out, g := PySem.W.mg_of X G a_taken_out, b := F_taken_out.binds (ps := ["row", "at"]) fun _ _ _ _ _ _ us hl => match us, hl with | [_, _], _ => rfl },
      replaced := { f := f_replaced, fd := _, F := F_replaced, g := PySem.W.mg_of X G a_replaced, b := F_replaced.binds (ps := ["row", "at", "new"]) fun _ _ _ _ _ _ us hl => match us, hl with | [_, _, _], _ => rfl },
      behind_change := { f := f_behind_change, fd := _, F := F_behind_change, g := PySem.W.mg_of X G a_behind_change, b := F_behind_change.binds (ps := ["passes", "change"]) fun _ _ _ _ _ _ us hl => match us, hl with | [_, _], _ => rfl },
      row_of := { f := f_row_of, fd := _, F := F_row_of, g := PySem.W.mg_of X G a_row_of, b := F_row_of.binds (ps := ["one_pass"]) fun _ _ _ _ _ _ us hl => match us, hl with | [_], _ => rfl },
      rows_of := { f := f_rows_of, fd := _, F := F_rows_of, g := PySem.W.mg_of X G a_rows_of, b := F_rows_of.binds (ps := ["length", "passes"]) fun _ _ _ _ _ _ us hl => match us, hl with | [_, _], _ => rfl },
      number_in := { f := f_number_in, fd := _, F := F_number_in, g := PySem.W.mg_of X G a_number_in, b := F_number_in.binds (ps := ["word"]) fun _ _ _ _ _ _ us hl => match us, hl with | [_], _ => rfl },
      stretch_in := { f := f_stretch_in, fd := _, F := F_stretch_in, g := PySem.W.mg_of X G a_stretch_in, b := F_stretch_in.binds (ps := ["word"]) fun _ _ _ _ _ _ us hl => match us, hl with | [_], _ => rfl },
      pass_in := { f := f_pass_in, fd := _, F := F_pass_in, g := PySem.W.mg_of X G a_pass_in, b := F_pass_in.binds (ps := ["words"]) fun _ _ _ _ _ _ us hl => match us, hl with | [_], _ => rfl },
      pass_in_row := { f := f_pass_in_row, fd := _, F := F_pass_in_row, g := PySem.W.mg_of X G a_pass_in_row, b := F_pass_in_row.binds (ps := ["row"]) fun _ _ _ _ _ _ us hl => match us, hl with | [_], _ => rfl },
      length_in_row := { f := f_length_in_row, fd := _, F := F_length_in_row, g := PySem.W.mg_of X G a_length_in_row, b := F_length_in_row.binds (ps := ["row"]) fun _ _ _ _ _ _ us hl => match us, hl with | [_], _ => rfl },
      track_in := { f := f_track_in, fd := _, F := F_track_in, g := PySem.W.mg_of X G a_track_in, b := F_track_in.binds (ps := ["text"]) fun _ _ _ _ _ _ us hl => match us, hl with | [_], _ => rfl },
      e_Track_init := e_Track_init,
      et_Track_init := fun H => .inr ⟨_, #[], en_Track_init, e_Track_init_at, rfl, rfl, Nat.zero_le _, .nil⟩,
      Track_init := { f := f_Track_init, fd := _, F := F_Track_init, m := ⟨a_Track_init, i_Track_init, k_Track_init⟩, b := (match F_Track_init.binds1 3 1 (by simp) rfl fun _ _ _ _ _ _ _ us its hl hi => match us, its, hl, hi with | [_, _, _], [_], _, _ => ⟨_, rfl, rfl⟩ with | ⟨_, .nil, h⟩ => h), b1 := F_Track_init.binds1 2 0 (by simp) rfl fun _ _ _ _ _ _ _ us its hl hi => match us, its, hl, hi with | [_, _], [_], _, _ => ⟨_, rfl, rfl⟩ },
      Track_length := { f := f_Track_length, fd := _, F := F_Track_length, p := p_Track_length, P := ⟨a_Track_length, pg_Track_length, pt_Track_length, _, pr_Track_length_at⟩, b := F_Track_length.binds (ps := ["self"]) fun _ _ _ _ _ _ us hl => match us, hl with | [_], _ => rfl },
      Track_passes := { f := f_Track_passes, fd := _, F := F_Track_passes, p := p_Track_passes, P := ⟨a_Track_passes, pg_Track_passes, pt_Track_passes, _, pr_Track_passes_at⟩, b := F_Track_passes.binds (ps := ["self"]) fun _ _ _ _ _ _ us hl => match us, hl with | [_], _ => rfl },
      Track_names := { f := f_Track_names, fd := _, F := F_Track_names, p := p_Track_names, P := ⟨a_Track_names, pg_Track_names, pt_Track_names, _, pr_Track_names_at⟩, b := F_Track_names.binds (ps := ["self"]) fun _ _ _ _ _ _ us hl => match us, hl with | [_], _ => rfl },
      Track_len := { f := f_Track_len, fd := _, F := F_Track_len, m := ⟨a_Track_len, i_Track_len, k_Track_len⟩, b := F_Track_len.binds (ps := ["self"]) fun _ _ _ _ _ _ us hl => match us, hl with | [_], _ => rfl },
      Track_bool := { f := f_Track_bool, fd := _, F := F_Track_bool, m := ⟨a_Track_bool, i_Track_bool, k_Track_bool⟩, b := F_Track_bool.binds (ps := ["self"]) fun _ _ _ _ _ _ us hl => match us, hl with | [_], _ => rfl },
      Track_eq := { f := f_Track_eq, fd := _, F := F_Track_eq, m := ⟨a_Track_eq, i_Track_eq, k_Track_eq⟩, b := F_Track_eq.binds (ps := ["self", "other"]) fun _ _ _ _ _ _ us hl => match us, hl with | [_, _], _ => rfl },
      Track_str := { f := f_Track_str, fd := _, F := F_Track_str, m := ⟨a_Track_str, i_Track_str, k_Track_str⟩, b := F_Track_str.binds (ps := ["self"]) fun _ _ _ _ _ _ us hl => match us, hl with | [_], _ => rfl },
      Track_contains := { f := f_Track_contains, fd := _, F := F_Track_contains, m := ⟨a_Track_contains, i_Track_contains, k_Track_contains⟩, b := F_Track_contains.binds (ps := ["self", "x"]) fun _ _ _ _ _ _ us hl => match us, hl with | [_, _], _ => rfl },
      Track_getitem := { f := f_Track_getitem, fd := _, F := F_Track_getitem, m := ⟨a_Track_getitem, i_Track_getitem, k_Track_getitem⟩, b := F_Track_getitem.binds (ps := ["self", "at"]) fun _ _ _ _ _ _ us hl => match us, hl with | [_, _], _ => rfl },
      Track_iter := { f := f_Track_iter, fd := _, F := F_Track_iter, m := ⟨a_Track_iter, i_Track_iter, k_Track_iter⟩, b := F_Track_iter.binds (ps := ["self"]) fun _ _ _ _ _ _ us hl => match us, hl with | [_], _ => rfl },
      Track_known_place := { f := f_Track_known_place, fd := _, F := F_Track_known_place, m := ⟨a_Track_known_place, i_Track_known_place, k_Track_known_place⟩, b := F_Track_known_place.binds (ps := ["self", "name"]) fun _ _ _ _ _ _ us hl => match us, hl with | [_, _], _ => rfl },
      Track_put := { f := f_Track_put, fd := _, F := F_Track_put, m := ⟨a_Track_put, i_Track_put, k_Track_put⟩, b := (match F_Track_put.binds1 3 1 (by simp) rfl fun _ _ _ _ _ _ _ us its hl hi => match us, its, hl, hi with | [_, _, _], [_], _, _ => ⟨_, rfl, rfl⟩ with | ⟨_, .nil, h⟩ => h), b1 := F_Track_put.binds1 2 0 (by simp) rfl fun _ _ _ _ _ _ _ us its hl hi => match us, its, hl, hi with | [_, _], [_], _, _ => ⟨_, rfl, rfl⟩ },
      Track_without := { f := f_Track_without, fd := _, F := F_Track_without, m := ⟨a_Track_without, i_Track_without, k_Track_without⟩, b := F_Track_without.binds (ps := ["self", "name"]) fun _ _ _ _ _ _ us hl => match us, hl with | [_, _], _ => rfl },
      Track_moved := { f := f_Track_moved, fd := _, F := F_Track_moved, m := ⟨a_Track_moved, i_Track_moved, k_Track_moved⟩, b := F_Track_moved.binds (ps := ["self", "name", "place"]) fun _ _ _ _ _ _ us hl => match us, hl with | [_, _, _], _ => rfl },
      Track_changed := { f := f_Track_changed, fd := _, F := F_Track_changed, m := ⟨a_Track_changed, i_Track_changed, k_Track_changed⟩, b := F_Track_changed.binds (ps := ["self", "change"]) fun _ _ _ _ _ _ us hl => match us, hl with | [_, _], _ => rfl },
      law_purse := { f := f_law_purse, fd := _, F := F_law_purse, g := PySem.W.mg_of X G a_law_purse, b := F_law_purse.binds (ps := ["script", "k"]) fun _ _ _ _ _ _ us hl => match us, hl with | [_, _], _ => rfl },
      law_draw := { f := f_law_draw, fd := _, F := F_law_draw, g := PySem.W.mg_of X G a_law_draw, b := F_law_draw.binds (ps := ["purse", "size"]) fun _ _ _ _ _ _ us hl => match us, hl with | [_, _], _ => rfl },
      law_pick := { f := f_law_pick, fd := _, F := F_law_pick, g := PySem.W.mg_of X G a_law_pick, b := F_law_pick.binds (ps := ["purse", "menu"]) fun _ _ _ _ _ _ us hl => match us, hl with | [_, _], _ => rfl },
      law_wide := { f := f_law_wide, fd := _, F := F_law_wide, g := PySem.W.mg_of X G a_law_wide, b := F_law_wide.binds (ps := ["purse", "size"]) fun _ _ _ _ _ _ us hl => match us, hl with | [_, _], _ => rfl },
      law_touches := { f := f_law_touches, fd := _, F := F_law_touches, g := PySem.W.mg_of X G a_law_touches, b := F_law_touches.binds (ps := ["purse", "first", "last", "many", "wide"]) fun _ _ _ _ _ _ us hl => match us, hl with | [_, _, _, _, _], _ => rfl },
      law_words := { f := f_law_words, fd := _, F := F_law_words, g := PySem.W.mg_of X G a_law_words, b := F_law_words.binds (ps := ["purse"]) fun _ _ _ _ _ _ us hl => match us, hl with | [_], _ => rfl },
      law_fader := { f := f_law_fader, fd := _, F := F_law_fader, g := PySem.W.mg_of X G a_law_fader, b := F_law_fader.binds (ps := ["purse", "word", "long"]) fun _ _ _ _ _ _ us hl => match us, hl with | [_, _, _], _ => rfl },
      law_faders := { f := f_law_faders, fd := _, F := F_law_faders, g := PySem.W.mg_of X G a_law_faders, b := F_law_faders.binds (ps := ["purse", "long", "many"]) fun _ _ _ _ _ _ us hl => match us, hl with | [_, _, _], _ => rfl },
      law_long := { f := f_law_long, fd := _, F := F_law_long, g := PySem.W.mg_of X G a_law_long, b := F_law_long.binds (ps := ["purse"]) fun _ _ _ _ _ _ us hl => match us, hl with | [_], _ => rfl },
      law_is_from := { f := f_law_is_from, fd := _, F := F_law_is_from, g := PySem.W.mg_of X G a_law_is_from, b := F_law_is_from.binds (ps := ["value", "low", "high"]) fun _ _ _ _ _ _ us hl => match us, hl with | [_, _, _], _ => rfl },
      law_is_word := { f := f_law_is_word, fd := _, F := F_law_is_word, g := PySem.W.mg_of X G a_law_is_word, b := F_law_is_word.binds (ps := ["value"]) fun _ _ _ _ _ _ us hl => match us, hl with | [_], _ => rfl },
      law_are_marks := { f := f_law_are_marks, fd := _, F := F_law_are_marks, g := PySem.W.mg_of X G a_law_are_marks, b := F_law_are_marks.binds (ps := ["value", "first", "last"]) fun _ _ _ _ _ _ us hl => match us, hl with | [_, _, _], _ => rfl },
      law_is_fader := { f := f_law_is_fader, fd := _, F := F_law_is_fader, g := PySem.W.mg_of X G a_law_is_fader, b := F_law_is_fader.binds (ps := ["value", "long", "words"]) fun _ _ _ _ _ _ us hl => match us, hl with | [_, _, _], _ => rfl },
      law_same := { f := f_law_same, fd := _, F := F_law_same, g := PySem.W.mg_of X G a_law_same, b := F_law_same.binds (ps := ["mine", "long", "some"]) fun _ _ _ _ _ _ us hl => match us, hl with | [_, _, _], _ => rfl },
      law_put_right := { f := f_law_put_right, fd := _, F := F_law_put_right, g := PySem.W.mg_of X G a_law_put_right, b := F_law_put_right.binds (ps := ["mine", "fader"]) fun _ _ _ _ _ _ us hl => match us, hl with | [_, _], _ => rfl },
      law_turned_right := { f := f_law_turned_right, fd := _, F := F_law_turned_right, g := PySem.W.mg_of X G a_law_turned_right, b := F_law_turned_right.binds (ps := ["mine"]) fun _ _ _ _ _ _ us hl => match us, hl with | [_], _ => rfl },
      law_changed_right := { f := f_law_changed_right, fd := _, F := F_law_changed_right, g := PySem.W.mg_of X G a_law_changed_right, b := F_law_changed_right.binds (ps := ["purse", "mine"]) fun _ _ _ _ _ _ us hl => match us, hl with | [_, _], _ => rfl },
      law_right := { f := f_law_right, fd := _, F := F_law_right, g := PySem.W.mg_of X G a_law_right, b := F_law_right.binds (ps := ["purse"]) fun _ _ _ _ _ _ us hl => match us, hl with | [_], _ => rfl },
      law := { f := f_law, fd := _, F := F_law, g := PySem.W.mg_of X G a_law, b := F_law.binds (ps := ["script"]) fun _ _ _ _ _ _ us hl => match us, hl with | [_], _ => rfl },
      c_LETTERS := ⟨t_LETTERS, PySem.W.mg_of X G a_LETTERS⟩,
      c_DIGITS := ⟨t_DIGITS, PySem.W.mg_of X G a_DIGITS⟩,
      c_MOST_SIGNS := ⟨t_MOST_SIGNS, PySem.W.mg_of X G a_MOST_SIGNS⟩,
      c_MOST_LENGTH := ⟨t_MOST_LENGTH, PySem.W.mg_of X G a_MOST_LENGTH⟩,
      c_MOST_PASSES := ⟨t_MOST_PASSES, PySem.W.mg_of X G a_MOST_PASSES⟩,
      c_MOST_TOUCHES := ⟨t_MOST_TOUCHES, PySem.W.mg_of X G a_MOST_TOUCHES⟩,
      c_MOST_GLIDE := ⟨t_MOST_GLIDE, PySem.W.mg_of X G a_MOST_GLIDE⟩,
      c_OLD := ⟨t_OLD, PySem.W.mg_of X G a_OLD⟩,
      c_MODES := ⟨a_MODES, PySem.W.mg_of X G b_MODES, fun H => .inr ⟨_, _, n_MODES, l_MODES, rfl, rfl, by show 4 ≤ sizeLine; decide, .cons ⟨_, rfl⟩ (.cons ⟨_, rfl⟩ (.cons ⟨_, rfl⟩ (.cons ⟨_, rfl⟩ (.nil))))⟩⟩,
      c_TAILS := ⟨a_TAILS, PySem.W.mg_of X G b_TAILS, fun H => .inr ⟨_, _, n_TAILS, l_TAILS, rfl, rfl, by show 2 ≤ sizeLine; decide, .cons ⟨_, rfl⟩ (.cons ⟨_, rfl⟩ (.nil))⟩⟩,
      c_SIZE := ⟨t_SIZE, PySem.W.mg_of X G a_SIZE⟩,
      a_PARTS := a_PARTS,
      g_PARTS := PySem.W.mg_of X G b_PARTS,
      es_PARTS := es_PARTS,
      n_PARTS := n_PARTS,
      l_PARTS := l_PARTS,
      k_PARTS := kl_PARTS,
      s_PARTS := sm_PARTS,
      i_PARTS_mode := ⟨_, i_PARTS_mode⟩,
      i_PARTS_from := ⟨_, i_PARTS_from⟩,
      i_PARTS_to := ⟨_, i_PARTS_to⟩,
      i_PARTS_touches := ⟨_, i_PARTS_touches⟩,
      i_PARTS_glide := ⟨_, i_PARTS_glide⟩,
      i_PARTS_tail := ⟨_, i_PARTS_tail⟩,
      c_MOST_DIGITS := ⟨t_MOST_DIGITS, PySem.W.mg_of X G a_MOST_DIGITS⟩,
      c_FEWEST_WORDS := ⟨t_FEWEST_WORDS, PySem.W.mg_of X G a_FEWEST_WORDS⟩,
      z_len := PySem.W.mg_none_of X G z_len,
      z_isinstance := PySem.W.mg_none_of X G z_isinstance,
      z_int := PySem.W.mg_none_of X G z_int,
      z_bool := PySem.W.mg_none_of X G z_bool,
      z_str := PySem.W.mg_none_of X G z_str,
      z_tuple := PySem.W.mg_none_of X G z_tuple,
      z_all := PySem.W.mg_none_of X G z_all,
      z_range := PySem.W.mg_none_of X G z_range,
      z_enumerate := PySem.W.mg_none_of X G z_enumerate,
      z_abs := PySem.W.mg_none_of X G z_abs,
      z_divmod := PySem.W.mg_none_of X G z_divmod,
      z_max := PySem.W.mg_none_of X G z_max,
      z_min := PySem.W.mg_none_of X G z_min,
      z_repr := PySem.W.mg_none_of X G z_repr }, rfl⟩
end My

namespace My
open PySem PySem.Spec PyProof.Rows L2
section
variable {P : Program} {w : World} {K : PySem.W.Frag} {mg : Str → Option Value} {base : Heap}
set_option maxHeartbeats 1000000 in
theorem ok_is_integer (T : Txt w.params K mg) : FnOk P w K mg base CX0 1 T.is_integer.f T.is_integer.fd ["value"] (spIsInt K) := by
  refine T.is_integer.F.ok scis_integer (fun vs H Q E h => ?_) (fun cdv A outer s H vs Q E hr h => ?_)
  · obtain ⟨p, x, d, rfl, _⟩ := h
    rfl
  · obtain ⟨p, x, d, rfl, hd, q⟩ := h
    refine ⟨_, (pss_one (ps_ret (pe_and (pe_callB call_isi (by rfl) T.z_isinstance (by decide +kernel) (pa_cons (pv 0) (pa_cons (pe_bltn (v := .ty "int") (by rfl) T.z_int (by decide +kernel) rfl) pa_nil))) (pe_one (pe_not (pe_callB call_isi (by rfl) T.z_isinstance (by decide +kernel) (pa_cons (pv 0) (pa_cons (pe_bltn (v := .ty "bool") (by rfl) T.z_bool (by decide +kernel) rfl) pa_nil)))))))), ?_⟩
    refine ⟨x, rfl, x, .ty "int", _, _, _, rfl, .ty _, hd.ty, kit_ty (kit_int d), _, rfl, ite2 (fun c => ?_) (fun c => ?_)⟩
    · refine ⟨x, rfl, x, .ty "bool", _, _, _, rfl, .ty _, hd.ty, kit_ty (kit_bool d), _, rfl, ?_⟩
      have e : (!isB d) = isI d := by cases d <;> simp_all [isI, isB]
      rw [e]
      exact q
    · have e : isI d = false := by cases d <;> simp_all [isI, isB]
      rw [e] at q
      exact q
set_option maxHeartbeats 1000000 in
theorem ok_is_between (T : Txt w.params K mg) : FnOk P w K mg base CX0 2 T.is_between.f T.is_between.fd ["value", "low", "high"] (spBtw K) := by
  refine T.is_between.F.ok scis_between (fun vs H Q E h => ?_) (fun cdv A outer s H vs Q E hr h => ?_)
  · obtain ⟨p, x, d, lo, hi, rfl, _⟩ := h
    rfl
  · obtain ⟨p, x, d, lo, hi, rfl, hd, q⟩ := h
    refine ⟨_, (pss_one (ps_ret (pe_and (pe_call (ok_is_integer T) (hr.mono (by decide)) (by rfl) T.is_integer.g T.is_integer.F.kp T.is_integer.b .nil pass0 (pa_cons (pv 0) pa_nil)) (pe_one (pe_chain op_le op_le (pv 1) (pv 0) (pv 2)))))), ?_⟩
    refine ⟨x, rfl, p, x, d, rfl, hd, ⟨_, rfl, ite2 (fun c => ?_) (fun c => ?_)⟩⟩
    · obtain ⟨i, rfl⟩ : ∃ i, d = .int i := by cases d <;> simp_all [isI]
      obtain rfl := hd.of_int
      refine ⟨_, rfl, _, rfl, _, _, rfl, rfl, _, rfl, ite2 (fun c1 => ?_) (fun c1 => ?_)⟩
      · refine ⟨_, rfl, _, _, rfl, rfl, ?_⟩
        have e : btw (.int i) lo hi = decide (i ≤ hi) := by
          have := of_decide_eq_true c1
          simp [btw, this]
        rw [e] at q
        exact q
      · have e : btw (.int i) lo hi = false := by
          have c2 : ¬ lo ≤ i := fun z => c1 (decide_eq_true z)
          simp [btw, c2]
        rw [e] at q
        exact q
    · have e : btw d lo hi = false := by cases d <;> simp_all [isI, btw]
      rw [e] at q
      exact q
set_option maxHeartbeats 1000000 in
theorem ok_is_stretch (T : Txt w.params K mg) : FnOk P w K mg base CX0 3 T.is_stretch.f T.is_stretch.fd ["value", "low", "high"] (spStretch K) := by
  refine T.is_stretch.F.ok scis_stretch (fun vs H Q E h => ?_) (fun cdv A outer s H vs Q E hr h => ?_)
  · obtain ⟨p, x, d, lo, hi, rfl, _⟩ := h
    rfl
  · obtain ⟨p, x, d, lo, hi, rfl, hd, q⟩ := h
    refine ⟨_, (pss_cons (ps_if (PW.pt (pw_or (pt_not (pt_val (pe_callB call_isi (by rfl) T.z_isinstance (by decide +kernel) (pa_cons (pv 0) (pa_cons (pe_bltn (v := .ty "tuple") (by rfl) T.z_tuple (by decide +kernel) rfl) pa_nil))))) (pw_or1 (pt_cmpR op_ne (pe_callB call_len_seq (by rfl) T.z_len (by decide +kernel) (pa_cons (pv 0) pa_nil)) pe_int (nomark _))))) (pss_one (ps_ret pe_bl)) pss_nil)
      (pss_one (ps_ret (pe_and (pe_call (ok_is_between T) (hr.mono (by decide)) (by rfl) T.is_between.g T.is_between.F.kp T.is_between.b .nil pass0 (pa_cons (pe_ix ix_tup (pv 0) pe_int (fun _ _ => rfl)) (pa_cons (pv 1) (pa_cons (pv 2) pa_nil)))) (pe_one (pe_call (ok_is_between T) (hr.mono (by decide)) (by rfl) T.is_between.g T.is_between.F.kp T.is_between.b .nil pass0 (pa_cons (pe_ix ix_tup (pv 0) pe_int (fun _ _ => rfl)) (pa_cons (pe_op op_add (pe_ix ix_tup (pv 0) pe_int (fun _ _ => rfl)) pe_int) (pa_cons (pv 2) pa_nil))))))))), ?_⟩
    refine ⟨x, rfl, x, .ty "tuple", _, _, _, rfl, .ty _, hd.ty, kit_ty (kit_tuple d), _, rfl, ite2 (fun c => ?_) (fun c => ?_)⟩
    · have e : isStretch d lo hi = false := by cases d <;> simp_all [isT, isStretch]
      rw [e] at q
      exact iteT q
    · obtain ⟨ds, rfl⟩ : ∃ ds, d = .tuple ds := by cases d <;> simp_all [isT]
      obtain ⟨a, xs, rfl, hs, ha⟩ := hd.of_tup
      refine ⟨_, rfl, a, xs, rfl, .inr hs, rfl, _, rfl, ite2 (fun c1 => ?_) (fun c1 => ?_)⟩
      · have e : isStretch (.tuple ds) lo hi = false := by
          have l := ha.length
          match ds, l with
          | [u, v], l =>
            exfalso
            rw [l] at c1
            simp at c1
          | [], _ => rfl
          | [_], _ => rfl
          | _ :: _ :: _ :: _, _ => rfl
        rw [e] at q
        exact q
      · have l : xs.length = 2 := by
          have c2 : ¬ (!decide (V.int (xs.length : Int) = V.int 2)) = true := c1
          by_cases z : (xs.length : Int) = 2
          · omega
          · exact absurd (by simp [z]) c2
        have l2 := ha.length
        match xs, ds, l, l2, ha with
        | [u, v], [d1, d2], _, _, .cons h1 (.cons h2 .nil) =>
          refine ⟨_, rfl, a, _, 0, u, rfl, rfl, hs, atI_nat (j := 0) rfl, _, rfl, _, rfl, p, u, d1, lo, hi, rfl, h1, _, rfl, ite2 (fun c3 => ?_) (fun c3 => ?_)⟩
          · obtain ⟨i, rfl⟩ : ∃ i, d1 = .int i := by cases d1 <;> simp_all [btw]
            obtain rfl := h1.of_int
            refine ⟨_, rfl, a, _, 1, v, rfl, rfl, hs, atI_nat (j := 1) rfl, _, rfl, a, _, 0, .int i, rfl, rfl, hs, atI_nat (j := 0) rfl, _, _, rfl, rfl, _, rfl, p, v, d2, i + 1, hi, rfl, h2, ?_⟩
            have e : isStretch (.tuple [.int i, d2]) lo hi = btw d2 (i + 1) hi := by
              show (btw (.int i) lo hi && btw d2 (getI (.int i) + 1) hi) = _
              rw [c3]
              rfl
            rw [e] at q
            exact q
          · have e : isStretch (.tuple [d1, d2]) lo hi = false := by
              show (btw d1 lo hi && btw d2 (getI d1 + 1) hi) = _
              rw [Bool.eq_false_iff.mpr c3]
              rfl
            rw [e] at q
            exact q
set_option maxHeartbeats 1000000 in
theorem ok_are_touches (T : Txt w.params K mg) : FnOk P w K mg base CX0 4 T.are_touches.f T.are_touches.fd ["value", "first", "last"] (spTouches K) := by
  refine T.are_touches.F.ok scare_touches (fun vs H Q E h => ?_) (fun cdv A outer s H vs Q E hr h => ?_)
  · obtain ⟨p, x, d, lo, hi, rfl, _⟩ := h
    rfl
  · obtain ⟨p, x, d, lo, hi, rfl, hd, q⟩ := h
    refine ⟨_, (pss_cons (ps_if (PW.pt (pw_or (pt_not (pt_val (pe_callB call_isi (by rfl) T.z_isinstance (by decide +kernel) (pa_cons (pv 0) (pa_cons (pe_bltn (v := .ty "tuple") (by rfl) T.z_tuple (by decide +kernel) rfl) pa_nil))))) (pw_or1 (pt_cmpR op_gt (pe_callB call_len_seq (by rfl) T.z_len (by decide +kernel) (pa_cons (pv 0) pa_nil)) (pe_ci T.c_MOST_TOUCHES) (nomark _))))) (pss_one (ps_ret pe_bl)) pss_nil)
      (pss_cons (ps_set (i := 3) scare_touches.nd rfl (Or.inl rfl) (pv 1))
      (pss_cons (ps_for PassesOwn.never rfl (pi_tup (pv 0)) (pg_name (i := 4) scare_touches.nd rfl (Or.inl rfl)) (pss_cons (ps_if (pt_not (pt_val (pe_call (ok_is_stretch T) (hr.mono (by decide)) (by rfl) T.is_stretch.g T.is_stretch.F.kp T.is_stretch.b .nil pass0 (pa_cons (pv 4) (pa_cons (pv 3) (pa_cons (pv 2) pa_nil)))))) (pss_one (ps_ret pe_bl)) pss_nil)
      (pss_one (ps_set (i := 3) scare_touches.nd rfl (Or.inl rfl) (pe_op op_add (pe_ix ix_tup (pv 4) pe_int (fun _ _ => rfl)) pe_int)))))
      (pss_one (ps_ret pe_bl))))), ?_⟩
    refine ⟨x, rfl, x, .ty "tuple", _, _, _, rfl, .ty _, hd.ty, kit_ty (kit_tuple d), _, rfl, ite2 (fun c => ?_) (fun c => ?_)⟩
    · have e : touchesOk d lo hi = false := by cases d <;> simp_all [isT, touchesOk]
      rw [e] at q
      exact iteT q
    · obtain ⟨ds, rfl⟩ : ∃ ds, d = .tuple ds := by cases d <;> simp_all [isT]
      obtain ⟨a, xs, rfl, hs, ha⟩ := hd.of_tup
      have l := ha.length
      refine ⟨_, rfl, a, xs, rfl, .inr hs, _, _, rfl, rfl, _, rfl, ite2 (fun c1 => ?_) (fun c1 => ?_)⟩
      · have e : touchesOk (.tuple ds) lo hi = false := by
          have := of_decide_eq_true c1
          have : ¬ ds.length ≤ 6 := by omega
          simp [touchesOk, this]
        rw [e] at q
        exact q
      · have l6 : ds.length ≤ 6 := by
          by_cases h : ds.length ≤ 6
          · exact h
          · exact absurd (decide_eq_true (by omega)) c1
        have e0 : touchesOk (.tuple ds) lo hi = touchesFrom hi ds lo := by simp [touchesOk, l6]
        rw [e0] at q
        refine ⟨_, rfl, .ref a, rfl, a, rfl, ⟨_, hs⟩, for_tup (K := K) (a := a) (xs := xs) (fun i σ H' => ∃ (cur : Int) (y : Option V), σ = [some (.ref a), some (.int lo), some (.int hi), some (.int cur), y] ∧ H' = H ∧ touchesFrom hi ds lo = touchesFrom hi (ds.drop i) cur) ⟨lo, none, rfl, rfl, rfl⟩ (fun i σ H' _ h => ?_) ?_ ?_⟩
        · obtain ⟨_, _, _, rfl, _⟩ := h
          exact hs
        · rintro i y σ H' hi' ⟨cur, y0, rfl, rfl, et⟩
          obtain ⟨d1, hd1, h1⟩ := ha.get hi'
          have ed : ds.drop i = d1 :: ds.drop (i + 1) := by
            have hlt := (List.getElem?_eq_some_iff.mp hd1).1
            rw [List.drop_eq_getElem_cons hlt]
            congr 1
            exact (List.getElem?_eq_some_iff.mp hd1).2
          rw [ed] at et
          refine ⟨_, rfl, _, rfl, _, rfl, p, y, d1, cur, hi, rfl, .inl h1, _, rfl, ite2 (fun c2 => ?_) (fun c2 => ?_)⟩
          · have e : touchesFrom hi ds lo = false := by
              rw [et]
              show (isStretch d1 cur hi && _) = false
              have : isStretch d1 cur hi = false := by simpa using c2
              rw [this]
              rfl
            rw [e] at q
            exact q
          · have e2 : isStretch d1 cur hi = true := by simpa using c2
            obtain ⟨i1, i2, rfl, _⟩ := stretch_inv e2
            obtain ⟨b, ys, rfl, hb, hab⟩ := h1.of_tup
            obtain ⟨w1, w2, rfl, g1, g2⟩ := hab.two
            obtain rfl := g2.of_int
            refine ⟨_, rfl, b, _, 1, .int i2, rfl, rfl, hb, atI_nat (j := 1) rfl, _, _, rfl, rfl, ?_⟩
            refine ⟨_, _, rfl, rfl, ?_⟩
            rw [et]
            show (isStretch (.tuple [.int i1, .int i2]) cur hi && touchesFrom hi (ds.drop (i + 1)) (i2 + 1)) = _
            rw [e2]
            rfl
        · rintro σ H' ⟨cur, y0, rfl, rfl, et⟩
          have e : touchesFrom hi ds lo = true := by
            rw [et, List.drop_of_length_le (Nat.le_of_eq l.symm)]
            rfl
          rw [e] at q
          exact q
set_option maxHeartbeats 1000000 in
theorem ok_is_name (T : Txt w.params K mg) : FnOk P w K mg base CX0 1 T.is_name.f T.is_name.fd ["value"] (spName K) := by
  refine T.is_name.F.ok scis_name (fun vs H Q E h => ?_) (fun cdv A outer s H vs Q E hr h => ?_)
  · obtain ⟨p, x, d, rfl, _⟩ := h
    rfl
  · obtain ⟨p, x, d, rfl, hd, q⟩ := h
    refine ⟨_, (pss_cons (ps_if (PW.pt (pw_or (pt_not (pt_val (pe_callB call_isi (by rfl) T.z_isinstance (by decide +kernel) (pa_cons (pv 0) (pa_cons (pe_bltn (v := .ty "str") (by rfl) T.z_str (by decide +kernel) rfl) pa_nil))))) (pw_or1 (pt_not (pt_chain op_le op_le pe_int (pe_callB call_len_str (by rfl) T.z_len (by decide +kernel) (pa_cons (pv 0) pa_nil)) (pe_ci T.c_MOST_SIGNS)))))) (pss_one (ps_ret pe_bl)) pss_nil)
      (pss_one (ps_ret (pe_and (pe_cmpR op_in_sign (pe_ix ix_str (pv 0) pe_int (fun _ _ => rfl)) (pe_cs T.c_LETTERS) (by rfl)) (pe_one (pe_callB (cr_all rfl) (by rfl) T.z_all (by decide +kernel) (pa_cons (pe_lc (own := [("sign", 1)]) (g := gName 1) (tt := tYes) rfl scis_name.nd (pi_str (pv 0)) (blkOk_by (N := ["value", "sign"]) (sc := defScope sis_name) (by decide +kernel)) (fun _ _ _ _ _ => pg_name (i := 1) scis_name.nd rfl (Or.inl rfl)) (fun _ _ _ _ _ => pts_nil) (fun _ _ _ _ _ => (pe_cmpR op_in_sign (pv 1) (pe_op op_add_str (pe_cs T.c_LETTERS) (pe_cs T.c_DIGITS)) (by rfl)))) pa_nil))))))), ?_⟩
    refine ⟨x, rfl, x, .ty "str", _, _, _, rfl, .ty _, hd.ty, kit_ty (kit_str d), _, rfl, ite2 (fun c => ?_) (fun c => ?_)⟩
    · have e : isName d = false := by cases d <;> simp_all [isS, isName]
      rw [e] at q
      exact iteT (q H (.refl H))
    · obtain ⟨z, rfl⟩ : ∃ z, d = .str z := by cases d <;> simp_all [isS]
      obtain rfl := hd.of_str
      have lz := hd.str_len
      refine ⟨_, rfl, z, rfl, lz, _, _, rfl, rfl, _, rfl, ite2 (fun c1 => ?_) (fun c1 => ?_)⟩
      · refine ⟨_, _, rfl, rfl, _, rfl, ite2 (fun c2 => ?_) (fun c2 => ?_)⟩
        · have e : isName (.str z) = false := by
            have c3 : ¬ z.length ≤ 8 := fun h => by
              have : decide ((z.length : Int) ≤ 8) = true := decide_eq_true (by omega)
              rw [this] at c2
              cases c2
            simp [isName, nameOk, c3]
          rw [e] at q
          exact q H (.refl H)
        · have l1 : 1 ≤ z.length := by have := of_decide_eq_true c1; omega
          have l8 : z.length ≤ 8 := by
            by_cases h : z.length ≤ 8
            · exact h
            · exact absurd (by simp; omega) c2
          obtain ⟨c, r, ez⟩ := name_split l1 l8
          have at0 : atI z.cps.toList 0 = some c := by rw [ez]; exact atI_nat (j := 0) rfl
          refine ⟨_, rfl, z, 0, c, rfl, rfl, lz, at0, c, letters, rfl, rfl, _, rfl, ite2 (fun c3 => ?_) (fun c3 => ?_)⟩
          · refine ⟨_, rfl, z, rfl, fun D hD => lc_it walk_str (fun i H' => Same H H' ∧ H' D = some (.lst (((z.cps.toList.take i).map fun c => decide (c ∈ alnums.cps.toList)).map V.bl))) ⟨same_new hD, upd_same⟩ (fun _ _ _ _ => True.intro) ?_ ?_⟩
            · rintro i y H1 H2 hi ⟨sm, hl⟩ ⟨rfl, c', hc, rfl⟩
              have hc' : z.cps.toList[i]? = some c' := by rw [Array.getElem?_toList]; exact hc
              refine ⟨rfl, tYes_rd ?_⟩
              refine ⟨_, rfl, _, _, rfl, rfl, by decide, c', _, rfl, rfl, _, hl, ?_, fun b o e => ?_, ?_⟩
              · rw [List.length_map]
                exact len_take_lt _ (show z.cps.toList.length ≤ 8 by rw [Array.length_toList]; exact l8) (by decide) (by rw [Array.length_toList]; exact hi)
              · rw [upd_ne (ne_of_none e hD)]
                exact sm b o e
              · rw [upd_same, take_map_succ _ hc', List.map_append]
                rfl
            · rintro H1 ⟨sm, hl⟩
              refine ⟨D, _, rfl, SqL.of hl, ?_⟩
              have e : isName (.str z) = ((z.cps.toList.take z.cps.size).map fun c => decide (c ∈ alnums.cps.toList)).all id := by
                rw [all_map_id, List.take_of_length_le (by rw [Array.length_toList]; exact Nat.le_refl _)]
                show nameOk z = _
                unfold nameOk headOk
                rw [decide_eq_true l1, decide_eq_true l8]
                rw [ez] at *
                show (true && (decide (c ∈ letters.cps.toList) && _)) = _
                rw [c3]
                rfl
              rw [e] at q
              exact q H1 sm
          · have e : isName (.str z) = false := by
              show nameOk z = false
              unfold nameOk headOk
              rw [ez]
              show (_ && (decide (c ∈ letters.cps.toList) && _)) = false
              rw [Bool.eq_false_iff.mpr c3]
              simp
            rw [e] at q
            exact q H (.refl H)
      · have e : isName (.str z) = false := by
          have c3 : ¬ 1 ≤ z.length := fun h => c1 (decide_eq_true (by omega))
          simp [isName, nameOk, c3]
        rw [e] at q
        exact ⟨_, rfl, iteT (q H (.refl H))⟩
set_option maxHeartbeats 1000000 in
theorem ok_is_word (T : Txt w.params K mg) : FnOk P w K mg base CX0 1 T.is_word.f T.is_word.fd ["value", "words"] (spWord K) := by
  refine T.is_word.F.ok scis_word (fun vs H Q E h => ?_) (fun cdv A outer s H vs Q E hr h => ?_)
  · obtain ⟨p, x, d, t, ws, rfl, _⟩ := h
    rfl
  · obtain ⟨p, x, d, t, ws, rfl, hd, ht, q⟩ := h
    refine ⟨_, (pss_one (ps_ret (pe_and (pe_callB call_isi (by rfl) T.z_isinstance (by decide +kernel) (pa_cons (pv 0) (pa_cons (pe_bltn (v := .ty "str") (by rfl) T.z_str (by decide +kernel) rfl) pa_nil))) (pe_one (pe_cmpR op_in_seq (pv 0) (pv 1) (by rfl)))))), ?_⟩
    refine ⟨x, rfl, x, .ty "str", _, _, _, rfl, .ty _, hd.ty, kit_ty (kit_str d), _, rfl, ite2 (fun c => ?_) (fun c => ?_)⟩
    · obtain ⟨z, rfl⟩ : ∃ z, d = .str z := by cases d <;> simp_all [isS]
      obtain rfl := hd.of_str
      refine ⟨_, rfl, _, rfl, t, _, rfl, .inr ht, rfl, flat_strs ws, ?_⟩
      show Q (.bl (inV (.str z) (ws.map V.str))) H
      rw [inV_strs]
      exact q
    · have e : isWord d ws = false := by cases d <;> simp_all [isS, isWord]
      rw [e] at q
      exact q
set_option maxHeartbeats 1000000 in
theorem ok_is_pass (T : Txt w.params K mg) : FnOk P w K mg base CX0 5 T.is_pass.f T.is_pass.fd ["value", "length"] (spPass K) := by
  refine T.is_pass.F.ok scis_pass (fun vs H Q E h => ?_) (fun cdv A outer s H vs Q E hr h => ?_)
  · obtain ⟨p, x, d, L, rfl, _⟩ := h
    rfl
  · obtain ⟨p, x, d, L, rfl, hd, q⟩ := h
    refine ⟨_, (pss_cons (ps_if (PW.pt (pw_or (pt_not (pt_val (pe_callB call_isi (by rfl) T.z_isinstance (by decide +kernel) (pa_cons (pv 0) (pa_cons (pe_bltn (v := .ty "tuple") (by rfl) T.z_tuple (by decide +kernel) rfl) pa_nil))))) (pw_or1 (pt_cmpR op_ne (pe_callB call_len_seq (by rfl) T.z_len (by decide +kernel) (pa_cons (pv 0) pa_nil)) (pe_ci T.c_SIZE) (nomark _))))) (pss_one (ps_ret pe_bl)) pss_nil)
      (pss_cons (ps_asg (pv 0) (pg_tup (by rfl) (pgs_cons (pg_name (i := 2) scis_pass.nd rfl (Or.inl rfl)) (pgs_cons (pg_name (i := 3) scis_pass.nd rfl (Or.inl rfl)) (pgs_cons (pg_name (i := 4) scis_pass.nd rfl (Or.inl rfl)) (pgs_cons (pg_name (i := 5) scis_pass.nd rfl (Or.inl rfl)) (pgs_cons (pg_name (i := 6) scis_pass.nd rfl (Or.inl rfl)) (pgs_cons (pg_name (i := 7) scis_pass.nd rfl (Or.inl rfl)) (pgs_cons (pg_name (i := 8) scis_pass.nd rfl (Or.inl rfl)) pgs_nil)))))))))
      (pss_cons (ps_if (PW.pt (pw_or (pt_not (pt_val (pe_call (ok_is_name T) (hr.mono (by decide)) (by rfl) T.is_name.g T.is_name.F.kp T.is_name.b .nil pass0 (pa_cons (pv 2) pa_nil)))) (pw_or1 (pt_cmpR op_eq (pv 2) (pe_cs T.c_OLD) (nomark _))))) (pss_one (ps_ret pe_bl)) pss_nil)
      (pss_cons (ps_if (PW.pt (pw_or (pt_not (pt_val (pe_call (ok_is_word T) (hr.mono (by decide)) (by rfl) T.is_word.g T.is_word.F.kp T.is_word.b .nil pass0 (pa_cons (pv 3) (pa_cons (pe_ct T.c_MODES) pa_nil))))) (pw_or1 (pt_not (pt_val (pe_call (ok_is_word T) (hr.mono (by decide)) (by rfl) T.is_word.g T.is_word.F.kp T.is_word.b .nil pass0 (pa_cons (pv 8) (pa_cons (pe_ct T.c_TAILS) pa_nil)))))))) (pss_one (ps_ret pe_bl)) pss_nil)
      (pss_cons (ps_if (pt_not (pt_val (pe_call (ok_is_stretch T) (hr.mono (by decide)) (by rfl) T.is_stretch.g T.is_stretch.F.kp T.is_stretch.b .nil pass0 (pa_cons (pe_tup (pa_cons (pv 4) (pa_cons (pv 5) pa_nil))) (pa_cons pe_int (pa_cons (pv 1) pa_nil)))))) (pss_one (ps_ret pe_bl)) pss_nil)
      (pss_one (ps_ret (pe_and (pe_call (ok_are_touches T) (hr.mono (by decide)) (by rfl) T.are_touches.g T.are_touches.F.kp T.are_touches.b .nil pass0 (pa_cons (pv 6) (pa_cons (pv 4) (pa_cons (pv 5) pa_nil)))) (pe_one (pe_call (ok_is_between T) (hr.mono (by decide)) (by rfl) T.is_between.g T.is_between.F.kp T.is_between.b .nil pass0 (pa_cons (pv 7) (pa_cons pe_int (pa_cons (pe_ci T.c_MOST_GLIDE) pa_nil))))))))))))), ?_⟩
    refine ⟨x, rfl, x, .ty "tuple", _, _, _, rfl, .ty _, hd.ty, kit_ty (kit_tuple d), _, rfl, ite2 (fun c => ?_) (fun c => ?_)⟩
    · have e : isPass L d = false := by cases d <;> simp_all [isT, isPass]
      rw [e] at q
      exact iteT (q H (.refl H))
    · obtain ⟨ds, rfl⟩ : ∃ ds, d = .tuple ds := by cases d <;> simp_all [isT]
      obtain ⟨a, xs, rfl, hs, ha⟩ := hd.of_tup
      have l := ha.length
      refine ⟨_, rfl, a, xs, rfl, .inr hs, rfl, _, rfl, ite2 (fun c1 => ?_) (fun c1 => ?_)⟩
      · have e : isPass L (.tuple ds) = false := by
          by_cases h7 : ds.length = 7
          · exfalso
            rw [l, h7] at c1
            simp at c1
          · exact isPass_len h7
        rw [e] at q
        exact q H (.refl H)
      · have h7 : ds.length = 7 := by
          by_cases z : (xs.length : Int) = 7
          · omega
          · exact absurd (by simp [z]) c1
        obtain ⟨d1, d2, d3, d4, d5, d6, d7, rfl⟩ := seven_of h7
        obtain ⟨x1, x2, x3, x4, x5, x6, x7, rfl, h1, h2, h3, h4, h5, h6, k7⟩ := ha.seven
        rw [isPass_eq] at q
        refine ⟨_, rfl, a, _, rfl, hs, rfl, x1, _, rfl, x2, _, rfl, x3, _, rfl, x4, _, rfl, x5, _, rfl, x6, _, rfl, x7, _, rfl, rfl, ?_⟩
        -- the name
        refine ⟨_, rfl, p, x1, d1, rfl, h1, fun H1 s1 => ⟨_, rfl, ite2 (fun c2 => ?_) (fun c2 => ?_)⟩⟩
        · have e : isName d1 = false := by simpa using c2
          rw [e] at q
          exact iteT (q H1 s1)
        · have e1 : isName d1 = true := by simpa using c2
          obtain ⟨z, rfl⟩ : ∃ z, d1 = .str z := by cases d1 <;> simp_all [isName]
          obtain rfl := h1.of_str
          rw [e1] at q
          refine ⟨_, rfl, rfl, _, rfl, ite2 (fun c3 => ?_) (fun c3 => ?_)⟩
          · have e : isOld (.str z) = true := by
              have := of_decide_eq_true c3
              injection this with this
              simp [isOld, this]
            rw [e] at q
            exact q H1 s1
          · have e : isOld (.str z) = false := by
              have : ¬ z = "old" := fun h => c3 (decide_eq_true (by rw [h]))
              simp [isOld, this]
            rw [e] at q
            -- mode and tail
            refine ⟨_, rfl, p, x2, d2, _, modes, rfl, h2.same s1, T.c_MODES.q H1, _, rfl, ite2 (fun c4 => ?_) (fun c4 => ?_)⟩
            · have e : isWord d2 modes = false := by simpa using c4
              rw [e] at q
              exact iteT (q H1 s1)
            · have e2 : isWord d2 modes = true := by simpa using c4
              rw [e2] at q
              refine ⟨_, rfl, p, x7, d7, _, tails, rfl, k7.same s1, T.c_TAILS.q H1, _, rfl, ite2 (fun c5 => ?_) (fun c5 => ?_)⟩
              · have e : isWord d7 tails = false := by simpa using c5
                rw [e] at q
                exact q H1 s1
              · have e3 : isWord d7 tails = true := by simpa using c5
                rw [e3] at q
                -- from and to
                refine ⟨_, rfl, _, rfl, by show 2 ≤ sizeLine; decide, fun t ht => ?_⟩
                have s2 : Same H (upd H1 t (.tup [x3, x4])) := s1.new ht
                refine ⟨_, rfl, p, .ref t, .tuple [d3, d4], 0, L, rfl, .inr ⟨t, _, _, rfl, rfl, .inl (.inl upd_same), .cons (h3.same s2) (.cons (h4.same s2) .nil)⟩, _, rfl, ite2 (fun c6 => ?_) (fun c6 => ?_)⟩
                · have e : isStretch (.tuple [d3, d4]) 0 L = false := by simpa using c6
                  rw [e] at q
                  exact q _ s2
                · have e4 : isStretch (.tuple [d3, d4]) 0 L = true := by simpa using c6
                  rw [e4] at q
                  obtain ⟨i, j, ed, _⟩ := stretch_inv e4
                  injection ed with ed
                  injection ed with ed1 ed2
                  injection ed2 with ed2
                  subst ed1 ed2
                  obtain rfl := h3.of_int
                  obtain rfl := h4.of_int
                  refine ⟨_, rfl, _, rfl, _, rfl, p, x5, d5, i, j, rfl, h5.same s2, _, rfl, ite2 (fun c7 => ?_) (fun c7 => ?_)⟩
                  · have e5 : touchesOk d5 (getI (.int i)) (getI (.int j)) = true := c7
                    rw [e5] at q
                    exact ⟨_, rfl, p, x6, d6, 0, 100, rfl, h6.same s2, q _ s2⟩
                  · have e5 : touchesOk d5 (getI (.int i)) (getI (.int j)) = false := Bool.eq_false_iff.mpr c7
                    rw [e5] at q
                    exact q _ s2
set_option maxHeartbeats 1000000 in
theorem ok_first_wrong (T : Txt w.params K mg) : FnOk P w K mg base CX0 6 T.first_wrong.f T.first_wrong.fd ["passes", "length"] (spFirst K) := by
  refine T.first_wrong.F.ok scfirst_wrong (fun vs H Q E h => ?_) (fun cdv A outer s H vs Q E hr h => ?_)
  · obtain ⟨p, x, ds, L, rfl, _⟩ := h
    rfl
  · obtain ⟨p, x, ds, L, rfl, hd, q⟩ := h
    refine ⟨_, (pss_cons (ps_set (i := 2) scfirst_wrong.nd rfl (Or.inl rfl) (pe_lst pa_nil))
      (pss_cons (ps_for PassesOwn.never rfl (pi_enumT (by rfl) T.z_enumerate (pa_cons (pv 0) pa_nil)) (pg_tup (by rfl) (pgs_cons (pg_name (i := 3) scfirst_wrong.nd rfl (Or.inl rfl)) (pgs_cons (pg_name (i := 4) scfirst_wrong.nd rfl (Or.inl rfl)) pgs_nil))) (pss_cons (ps_if (PW.pt (pw_or (pt_cmpR op_ge (pv 3) (pe_ci T.c_MOST_PASSES) (nomark _)) (pw_or (pt_not (pt_val (pe_call (ok_is_pass T) (hr.mono (by decide)) (by rfl) T.is_pass.g T.is_pass.F.kp T.is_pass.b .nil pass0 (pa_cons (pv 4) (pa_cons (pv 1) pa_nil))))) (pw_or1 (pt_cmpR op_in_seq (pe_ix ix_tup (pv 4) pe_int (fun _ _ => rfl)) (pv 2) (by rfl)))))) (pss_one (ps_ret (pv 3))) pss_nil)
      (pss_one (ps_expr (pe_bm PySem.F.plainAttrs_list PySem.F.slot_list_append PySem.F.type_list_append mt_append (pv 2) (pa_cons (pe_ix ix_tup (pv 4) pe_int (fun _ _ => rfl)) pa_nil))))))
      (pss_one (ps_ret pe_non)))), ?_⟩
    obtain ⟨a, xs, rfl, hs, ha⟩ := hd.of_tup
    have l := ha.length
    refine ⟨Nat.zero_le _, fun o no => ?_⟩
    have s1 : Same H (upd H o (.lst [])) := same_new no
    refine ⟨_, rfl, a, xs, rfl, s1.seqT hs, for_it (walk_enumT (K := K) (a := a) (xs := xs)) (fun i σ H' => ∃ (ns : List Str) (y z : Option V), σ = [some (.ref a), some (.int L), some (.ref o), y, z] ∧ Same H H' ∧ H' o = some (.lst (ns.map V.str)) ∧ ns.length ≤ i ∧ i ≤ 8 ∧ firstWrong L ds 0 [] = firstWrong L (ds.drop i) i ns) ⟨[], none, none, rfl, s1, upd_same, Nat.zero_le _, Nat.zero_le _, rfl⟩ (fun i σ H' _ h => ?_) ?_ ?_⟩
    · obtain ⟨_, _, _, _, sm, _⟩ := h
      exact sm.seqT hs
    · rintro i y σ H1 H2 hi ⟨ns, y0, z0, rfl, sm, ho, ln, l8, ef⟩ ⟨t, u, v, rfl, ht, rfl, eu, ev⟩
      obtain rfl := Option.some.inj eu
      have hlt : i < ds.length := by omega
      obtain ⟨d1, hd1, h1⟩ := ha.get ev
      have ed : ds.drop i = d1 :: ds.drop (i + 1) := by
        rw [List.drop_eq_getElem_cons hlt]
        congr 1
        exact (List.getElem?_eq_some_iff.mp hd1).2
      rw [ed] at ef
      have s2 : Same H (upd H1 t (.tup [.int (i : Nat), v])) := sm.new ht
      have ho2 : (upd H1 t (.tup [.int (i : Nat), v])) o = some (.lst (ns.map V.str)) := by
        rw [upd_ne (ne_of_none ho ht)]
        exact ho
      have hT : SqT K (upd H1 t (.tup [.int (i : Nat), v])) t [.int (i : Nat), v] := .inl (.inl upd_same)
      generalize upd H1 t (.tup [.int (i : Nat), v]) = H2 at s2 ho2 hT
      refine ⟨t, _, rfl, hT, rfl, .int (i : Nat), [v], rfl, v, [], rfl, rfl, ?_⟩
      refine ⟨_, rfl, _, _, rfl, rfl, _, rfl, ite2 (fun c => ?_) (fun c => ?_)⟩
      · have h8 : 8 ≤ i := by have := of_decide_eq_true c; omega
        have e : firstWrong L ds 0 [] = some i := by
          rw [ef]
          show (if (decide (8 ≤ i) || _) = true then some i else _) = _
          rw [decide_eq_true h8]
          exact if_pos rfl
        rw [e] at q
        exact iteT ⟨_, rfl, q H2 s2⟩
      · have h8 : ¬ 8 ≤ i := fun h => c (decide_eq_true (by omega))
        refine ⟨_, rfl, _, rfl, p, v, d1, L, rfl, h1.same s2, fun H3 s3 => ⟨_, rfl, ite2 (fun c1 => ?_) (fun c1 => ?_)⟩⟩
        · have e1 : isPass L d1 = false := by simpa using c1
          have e : firstWrong L ds 0 [] = some i := by
            rw [ef]
            show (if (decide (8 ≤ i) || (!isPass L d1 || _)) = true then some i else _) = _
            rw [e1, decide_eq_false h8]
            exact if_pos rfl
          rw [e] at q
          exact iteT ⟨_, rfl, q H3 (s2.trans s3)⟩
        · have e1 : isPass L d1 = true := by simpa using c1
          obtain ⟨z, m, f, tt, u, g, e', rfl, hz, _⟩ := passable e1
          obtain ⟨b, ys, rfl, hb, hab⟩ := h1.of_tup
          obtain ⟨x1, x2, x3, x4, x5, x6, x7, rfl, g1, _⟩ := hab.seven
          obtain rfl := g1.of_str
          have s4 := s2.trans s3
          have ho3 := s3 _ _ ho2
          have hb4 := s4.seqT hb
          refine ⟨_, rfl, b, _, 0, .str z, rfl, rfl, hb4, atI_nat (j := 0) rfl, _, rfl, o, _, rfl, .inl (SqL.of ho3), rfl, flat_strs ns, _, rfl, ite2 (fun c2 => ?_) (fun c2 => ?_)⟩
          · have c3 : ns.contains z = true := by rw [← inV_strs]; exact c2
            have e : firstWrong L ds 0 [] = some i := by
              rw [ef]
              show (if (decide (8 ≤ i) || (!isPass L _ || ns.contains z)) = true then some i else _) = _
              rw [c3, e1, decide_eq_false h8]
              exact if_pos rfl
            rw [e] at q
            exact ⟨_, rfl, q H3 s4⟩
          · have c3 : ns.contains z = false := by rw [← inV_strs]; exact Bool.eq_false_iff.mpr c2
            refine ⟨_, rfl, .inl ⟨rfl, _, SqL.of ho3⟩, _, rfl, b, _, 0, .str z, rfl, rfl, hb4, atI_nat (j := 0) rfl, o, _, _, rfl, rfl, ho3, ?_, ?_⟩
            · rw [List.length_map, sizeLine_eq]
              omega
            · refine ⟨ns ++ [z], _, _, rfl, fun w o' e => ?_, ?_, ?_, by omega, ?_⟩
              · rw [upd_ne (ne_of_none e no)]
                exact s4 w o' e
              · rw [upd_same, List.map_append]
                rfl
              · rw [List.length_append]
                exact Nat.succ_le_succ ln
              · rw [ef]
                show (if (decide (8 ≤ i) || (!isPass L _ || ns.contains z)) = true then some i else firstWrong L (ds.drop (i + 1)) (i + 1) (ns ++ [z])) = _
                rw [c3, e1, decide_eq_false h8]
                exact if_neg Bool.false_ne_true
    · rintro σ H' ⟨ns, y0, z0, rfl, sm, ho, ln, l8, ef⟩
      have e : firstWrong L ds 0 [] = none := by
        rw [ef, List.drop_of_length_le (Nat.le_of_eq l.symm)]
        rfl
      rw [e] at q
      exact q H' sm
set_option maxHeartbeats 1000000 in
theorem ok_Track_length (T : Txt w.params K mg) : FnOk P w K mg base CX0 1 T.Track_length.f T.Track_length.fd ["self"] (getSp T.C "_length") := by
  refine T.Track_length.F.ok scTrack_length (fun vs H Q E h => ?_) (fun cdv A outer s H vs Q E hr h => ?_)
  · obtain ⟨a, dx, fs, v, rfl, _⟩ := h
    rfl
  · obtain ⟨a, dx, fs, v, rfl, ea, l, q⟩ := h
    refine ⟨_, (pss_one (ps_ret (pe_fld (pv 0) rfl))), ?_⟩
    exact ⟨.ref a, rfl, a, T.C, dx, fs, v, rfl, ea, T.cl, T.n_length, l, q⟩
set_option maxHeartbeats 1000000 in
theorem ok_Track_passes (T : Txt w.params K mg) : FnOk P w K mg base CX0 1 T.Track_passes.f T.Track_passes.fd ["self"] (getSp T.C "_passes") := by
  refine T.Track_passes.F.ok scTrack_passes (fun vs H Q E h => ?_) (fun cdv A outer s H vs Q E hr h => ?_)
  · obtain ⟨a, dx, fs, v, rfl, _⟩ := h
    rfl
  · obtain ⟨a, dx, fs, v, rfl, ea, l, q⟩ := h
    refine ⟨_, (pss_one (ps_ret (pe_fld (pv 0) rfl))), ?_⟩
    exact ⟨.ref a, rfl, a, T.C, dx, fs, v, rfl, ea, T.cl, T.n_passes, l, q⟩
set_option maxHeartbeats 1000000 in
theorem ok_is_length (T : Txt w.params K mg) : FnOk P w K mg base CX0 3 T.is_length.f T.is_length.fd ["value"] (spLength K) := by
  refine T.is_length.F.ok scis_length (fun vs H Q E h => ?_) (fun cdv A outer s H vs Q E hr h => ?_)
  · obtain ⟨p, x, d, rfl, _⟩ := h
    rfl
  · obtain ⟨p, x, d, rfl, hd, q⟩ := h
    refine ⟨_, (pss_one (ps_ret (pe_call (ok_is_between T) (hr.mono (by decide)) (by rfl) T.is_between.g T.is_between.F.kp T.is_between.b .nil pass0 (pa_cons (pv 0) (pa_cons pe_int (pa_cons (pe_ci T.c_MOST_LENGTH) pa_nil)))))), ?_⟩
    exact ⟨x, rfl, p, x, d, 1, 1000000000000, rfl, hd, q⟩
set_option maxHeartbeats 1000000 in
theorem ok_Track_init (T : Txt w.params K mg) : FnOk P w K mg base CX0 7 T.Track_init.f T.Track_init.fd ["self", "length", "passes"] (spInit K T.C) := by
  refine T.Track_init.F.ok scTrack_init (fun vs H Q E h => ?_) (fun cdv A outer s H vs Q E hr h => ?_)
  · obtain ⟨p, x, dx, t, L, ds, rfl, _⟩ := h
    rfl
  · obtain ⟨p, x, dx, t, L, ds, rfl, hx, hd, hL, hf, q⟩ := h
    refine ⟨_, (pss_cons (ps_if (pt_not (pt_val (pe_call (ok_is_length T) (hr.mono (by decide)) (by rfl) T.is_length.g T.is_length.F.kp T.is_length.b .nil pass0 (pa_cons (pv 1) pa_nil)))) (pss_one (ps_never)) pss_nil)
      (pss_cons (ps_if (pt_not (pt_val (pe_callB call_isi (by rfl) T.z_isinstance (by decide +kernel) (pa_cons (pv 2) (pa_cons (pe_bltn (v := .ty "tuple") (by rfl) T.z_tuple (by decide +kernel) rfl) pa_nil))))) (pss_one (ps_never)) pss_nil)
      (pss_cons (ps_set (i := 3) scTrack_init.nd rfl (Or.inl rfl) (pe_call (ok_first_wrong T) (hr.mono (by decide)) (by rfl) T.first_wrong.g T.first_wrong.F.kp T.first_wrong.b .nil pass0 (pa_cons (pv 2) (pa_cons (pv 1) pa_nil))))
      (pss_cons (ps_if (pt_cmpR op_notN (pv 3) pe_non (nomark _)) (pss_one (ps_never)) pss_nil)
      (pss_cons (ps_fld (pv 0) (pv 1) rfl)
      (pss_one (ps_fld (pv 0) (pv 2) rfl))))))), ?_⟩
    obtain ⟨a, xs, e, hs, ha⟩ := hd.of_tup
    injection e with e
    subst e
    refine ⟨_, rfl, p, .int L, .int L, rfl, .int L, _, rfl, ite2 (fun c => ?_) (fun c => ?_)⟩
    · exfalso
      simp [btw, hL] at c
    · refine ⟨_, rfl, .ref t, .ty "tuple", _, _, _, rfl, .ty _, hd.ty, kit_ty (kit_tuple (.tuple ds)), _, rfl, ite2 (fun c => ?_) (fun c => ?_)⟩
      · exfalso
        simp [isT] at c
      · refine ⟨_, rfl, _, rfl, p, .ref t, ds, L, rfl, hd, fun H1 s1 => ?_⟩
        rw [hf]
        refine ⟨_, rfl, rfl, _, rfl, ite2 (fun c => ?_) (fun c => ?_)⟩
        · exact absurd c (by decide)
        · have h1 := s1 _ _ hx
          refine ⟨_, rfl, _, rfl, x, T.C, dx, [], rfl, h1, T.cl, T.n_length, by decide, ?_⟩
          refine ⟨_, rfl, _, rfl, x, T.C, dx, _, rfl, upd_same, T.cl, T.n_passes, (by show (1 : Nat) < 1000; decide), ?_⟩
          refine q _ (fun b o n e => ?_) upd_same
          rw [upd_ne n, upd_ne n]
          exact s1 _ _ e
set_option maxHeartbeats 1000000 in
theorem ok_Track_eq (T : Txt w.params K mg) : FnOk P w K mg base CX0 3 T.Track_eq.f T.Track_eq.fd ["self", "other"] (spEq (TwoTrk K T.C)) := by
  refine T.Track_eq.F.ok scTrack_eq (fun vs H Q E h => ?_) (fun cdv A outer s H vs Q E hr h => ?_)
  · obtain ⟨a, b, rfl, _⟩ := h
    rfl
  · obtain ⟨a, b, rfl, h2, q⟩ := h
    have hu := hr.units
    refine ⟨_, (pss_one (ps_ret (pe_and (pe_callB call_isi (by rfl) T.z_isinstance (by decide +kernel) (pa_cons (pv 1) (pa_cons (pe_glob (v := .ref T.C) rfl T.gC rfl) pa_nil))) (pe_and (pe_cmpR op_eq (pe_fld (pv 0) rfl) (pe_fld (pv 1) rfl) (nomark _)) (pe_one (pe_cmpR (op_eqN hu) (pe_fld (pv 0) rfl) (pe_fld (pv 1) rfl) (nomark _))))))), ?_⟩
    obtain ⟨p, L, ds, ha, hb, hsh, hev⟩ := h2
    obtain ⟨dx, t, hx, hd, _, _⟩ := ha
    obtain ⟨dy, u, hy, he, _, _⟩ := hb
    refine ⟨_, rfl, .ref b, .ref T.C, .ref T.C, .ref T.C, true, rfl, .own _, .base (.ins hy T.cl T.hca T.hcn T.hct T.hcm), by simp [PySem.W.kitOne], true, rfl, iteT ?_⟩
    refine ⟨.ref a, rfl, a, T.C, dx, _, .int L, rfl, hx, T.cl, T.n_length, rfl, .ref b, rfl, b, T.C, dy, _, .int L, rfl, hy, T.cl, T.n_length, rfl, rfl, _, rfl, ite2 (fun _ => ?_) (fun c => absurd (by simp) c)⟩
    refine ⟨.ref a, rfl, a, T.C, dx, _, .ref t, rfl, hx, T.cl, T.n_passes, rfl, .ref b, rfl, b, T.C, dy, _, .ref u, rfl, hy, T.cl, T.n_passes, rfl, p, _, _, hd, he, hsh, hsh, ?_⟩
    rw [hev]
    exact q H (Ext.rfl')
set_option maxHeartbeats 1000000 in
theorem ok_law_draw (T : Txt w.params K mg) : FnOk P w K mg base CX0 1 T.law_draw.f T.law_draw.fd ["purse", "size"] (spDraw) := by
  refine T.law_draw.F.ok sclaw_draw (fun vs H Q E h => ?_) (fun cdv A outer s H vs Q E hr h => ?_)
  · obtain ⟨p, n, m, rfl, _⟩ := h
    rfl
  · obtain ⟨p, n, m, rfl, ⟨d, z, c, hp, bd, z0, z1, c0, c1⟩, n0, n1, q⟩ := h
    refine ⟨_, (pss_cons (ps_par (i := 2) (j := 3) (by rfl) sclaw_draw.nd rfl rfl (by decide) rfl rfl (pa_cons (pe_ix ix_list (pv 0) pe_int (fun _ _ => rfl)) (pa_cons (pe_op op_add (pe_op op_mod (pe_callTy call_int1 (by rfl) T.z_int (by decide +kernel) (pa_cons (pe_ix ix_list (pv 0) pe_int (fun _ _ => rfl)) pa_nil)) pe_int) pe_int) pa_nil)) (by rfl))
      (pss_cons (ps_asg (pe_op op_add (pe_ix ix_list (pv 0) pe_int (fun _ _ => rfl)) pe_int) (pg_sub (pv 0) pe_int set_list))
      (pss_cons (ps_asg (pe_op op_mod (pe_callTy call_int1 (by rfl) T.z_int (by decide +kernel) (pa_cons (pe_op op_add (pe_op op_add (pe_op op_mulX (pv 2) (pv 3)) (pe_op op_mulX pe_int (pe_ix ix_list (pv 0) pe_int (fun _ _ => rfl)))) pe_int) pa_nil)) pe_int) (pg_sub (pv 0) pe_int set_list))
      (pss_cons (ps_if (pt_cmpR op_gt (pe_ix ix_list (pv 0) pe_int (fun _ _ => rfl)) pe_int (nomark _)) (pss_cons (ps_asg (pe_callB call_divmod (by rfl) T.z_divmod (by decide +kernel) (pa_cons (pe_ix ix_list (pv 0) pe_int (fun _ _ => rfl)) (pa_cons (pv 1) pa_nil))) (pg_tup (by rfl) (pgs_cons (pg_sub (pv 0) pe_int set_list) (pgs_cons (pg_name (i := 4) sclaw_draw.nd rfl (Or.inl rfl)) pgs_nil))))
      (pss_one (ps_ret (pv 4)))) pss_nil)
      (pss_one (ps_ret (pe_op op_mod (pe_callTy call_int1 (by rfl) T.z_int (by decide +kernel) (pa_cons (pe_op op_fdiv (pe_ix ix_list (pv 0) pe_int (fun _ _ => rfl)) pe_int) pa_nil)) (pv 1)))))))), ?_⟩
    have hs : SqL K H p [.int d, .int z, .int c] := SqL.of hp
    refine ⟨.ref p, rfl, p, _, 1, .int z, rfl, rfl, hs, atI_nat (j := 1) rfl, .ref p, rfl, p, _, 1, .int z, rfl, rfl, hs, atI_nat (j := 1) rfl, .inl ⟨_, rfl, ?_⟩⟩
    refine ⟨_, _, rfl, rfl, (by show (0 : Int) < 40009; decide), _, _, rfl, rfl, _, _, rfl, ?_⟩
    -- purse[2] = purse[2] + 1
    refine ⟨.ref p, rfl, p, _, 2, .int c, rfl, rfl, hs, atI_nat (j := 2) rfl, _, _, rfl, rfl, .ref p, rfl, p, _, 2, 2, rfl, rfl, hp, rfl, ?_⟩
    dsimp only
    have h1 : (upd H p (.lst ([V.int d, .int z, .int c].set 2 (.int (c + 1))))) p = some (.lst [.int d, .int z, .int (c + 1)]) := upd_same
    have m1 : Sm p H (upd H p (.lst ([V.int d, .int z, .int c].set 2 (.int (c + 1))))) := .at
    generalize upd H p (.lst ([V.int d, .int z, .int c].set 2 (.int (c + 1)))) = H1 at h1 m1
    have hs1 : SqL K H1 p [.int d, .int z, .int (c + 1)] := SqL.of h1
    have zb : z.natAbs < 2 ^ 64 := by omega
    have yb : (z % 40009 + 20021).natAbs < 2 ^ 64 := by
      have := Int.emod_nonneg z (by decide : (40009 : Int) ≠ 0)
      have := Int.emod_lt_of_pos z (by decide : (0 : Int) < 40009)
      omega
    -- purse[1] = ..
    refine ⟨_, rfl, _, rfl, _, _, rfl, rfl, CMulX.small zb yb, .ref p, rfl, p, _, 2, .int (c + 1), rfl, rfl, hs1, atI_nat (j := 2) rfl, _, _, rfl, rfl, CMulX.small (by decide) (by omega), _, _, rfl, rfl, _, _, rfl, rfl, .inl ⟨_, rfl, ?_⟩⟩
    refine ⟨_, _, rfl, rfl, (by show (0 : Int) < 2147483629; decide), .ref p, rfl, p, _, 1, 1, rfl, rfl, h1, rfl, ?_⟩
    dsimp only
    have z2 := Int.emod_nonneg (z * (z % 40009 + 20021) + 60013 * (c + 1) + 11) (by decide : (2147483629 : Int) ≠ 0)
    have z3 := Int.emod_lt_of_pos (z * (z % 40009 + 20021) + 60013 * (c + 1) + 11) (by decide : (0 : Int) < 2147483629)
    generalize (z * (z % 40009 + 20021) + 60013 * (c + 1) + 11) % 2147483629 = y at z2 z3
    have h2 : (upd H1 p (.lst ([V.int d, .int z, .int (c + 1)].set 1 (.int y)))) p = some (.lst [.int d, .int y, .int (c + 1)]) := upd_same
    have m2 : Sm p H (upd H1 p (.lst ([V.int d, .int z, .int (c + 1)].set 1 (.int y)))) := m1.trans .at
    generalize upd H1 p (.lst ([V.int d, .int z, .int (c + 1)].set 1 (.int y))) = H2 at h2 m2
    have hs2 : SqL K H2 p [.int d, .int y, .int (c + 1)] := SqL.of h2
    refine ⟨.ref p, rfl, p, _, 0, .int d, rfl, rfl, hs2, atI_nat (j := 0) rfl, _, _, rfl, rfl, _, rfl, ite2 (fun e => ?_) (fun e => ?_)⟩
    · have hd : 0 < d := of_decide_eq_true e
      refine ⟨.ref p, rfl, p, _, 0, .int d, rfl, rfl, hs2, atI_nat (j := 0) rfl, _, rfl, d, n, rfl, ⟨n0, n1⟩, fun t ht => ?_⟩
      have np : p ≠ t := ne_of_none h2 ht
      have h3 : (upd H2 t (.tup [.int (d / n), .int (d % n)])) p = some (.lst [.int d, .int y, .int (c + 1)]) := by
        rw [upd_ne np]; exact h2
      refine ⟨t, [.int (d / n), .int (d % n)], rfl, .inl (.inl upd_same), rfl, _, _, rfl, .ref p, rfl, p, _, 0, 0, rfl, rfl, h3, rfl, _, _, rfl, rfl, ?_⟩
      refine ⟨_, rfl, ?_⟩
      refine q _ _ (Int.emod_nonneg d (by omega)) (Int.emod_lt_of_pos d n0) ((m2.trans (.new ht)).trans .at) ⟨_, _, _, upd_same, ?_, z2, by omega, by omega, by omega⟩
      exact Nat.le_trans (bits_div (by omega) n0) bd
    · refine ⟨.ref p, rfl, p, _, 1, .int y, rfl, rfl, hs2, atI_nat (j := 1) rfl, _, _, rfl, rfl, ⟨by decide, by decide⟩, .inl ⟨_, rfl, ?_⟩⟩
      refine ⟨_, rfl, _, _, rfl, rfl, n0, ?_⟩
      exact q _ _ (Int.emod_nonneg _ (by omega)) (Int.emod_lt_of_pos _ n0) m2 ⟨_, _, _, h2, bd, z2, by omega, by omega, by omega⟩
set_option maxHeartbeats 1000000 in
theorem ok_law_pick (T : Txt w.params K mg) : FnOk P w K mg base CX0 2 T.law_pick.f T.law_pick.fd ["purse", "menu"] (spPick K) := by
  refine T.law_pick.F.ok sclaw_pick (fun vs H Q E h => ?_) (fun cdv A outer s H vs Q E hr h => ?_)
  · obtain ⟨p, m, xs, b, rfl, _⟩ := h
    rfl
  · obtain ⟨p, m, xs, b, rfl, hp, hm, nm, l0, l1, q⟩ := h
    refine ⟨_, (pss_one (ps_ret (pe_ix ix_list (pv 1) (pe_call (ok_law_draw T) (hr.mono (by decide)) (by rfl) T.law_draw.g T.law_draw.F.kp T.law_draw.b .nil pass0 (pa_cons (pv 0) (pa_cons (pe_callB call_len_seq (by rfl) T.z_len (by decide +kernel) (pa_cons (pv 1) pa_nil)) pa_nil))) (fun _ _ => rfl)))), ?_⟩
    refine ⟨_, rfl, _, rfl, _, rfl, m, xs, rfl, .inl hm, p, _, b, rfl, hp, by omega, by omega, fun i H' i0 i1 sm hp' => ?_⟩
    obtain ⟨n, rfl⟩ : ∃ n : Nat, i = n := ⟨i.toNat, by omega⟩
    have hi : n < xs.length := by omega
    exact ⟨m, xs, n, xs[n], rfl, rfl, sm.seq nm hm, atI_nat (List.getElem?_eq_getElem hi), q _ H' (List.getElem_mem hi) sm hp'⟩
set_option maxHeartbeats 1000000 in
theorem ok_law_long (T : Txt w.params K mg) : FnOk P w K mg base CX0 3 T.law_long.f T.law_long.fd ["purse"] (spLong) := by
  refine T.law_long.F.ok sclaw_long (fun vs H Q E h => ?_) (fun cdv A outer s H vs Q E hr h => ?_)
  · obtain ⟨p, b, rfl, _⟩ := h
    rfl
  · obtain ⟨p, b, rfl, hp, q⟩ := h
    refine ⟨_, (pss_one (ps_ret (pe_call (ok_law_pick T) (hr.mono (by decide)) (by rfl) T.law_pick.g T.law_pick.F.kp T.law_pick.b .nil pass0 (pa_cons (pv 0) (pa_cons (pe_lst (pa_cons pe_int (pa_cons pe_int (pa_cons pe_int (pa_cons pe_int (pa_cons (pe_op op_add pe_int (pe_call (ok_law_draw T) (hr.mono (by decide)) (by rfl) T.law_draw.g T.law_draw.F.kp T.law_draw.b .nil pass0 (pa_cons (pv 0) (pa_cons pe_int pa_nil)))) (pa_cons pe_int (pa_cons (pe_op op_pow pe_int pe_int) (pa_cons (pe_op op_sub (pe_op op_pow pe_int pe_int) pe_int) pa_nil))))))))) pa_nil))))), ?_⟩
    refine ⟨_, rfl, _, rfl, p, _, b + 1, rfl, hp, by decide, by decide, fun i H1 i0 i1 s1 hp1 => ?_⟩
    refine ⟨_, _, rfl, rfl, _, _, rfl, rfl, (by show (0 : Int) ≤ 12 ∧ (12 : Int) ≤ 1000000 ∧ (10 : Int).natAbs < 2 ^ 64; decide), _, _, rfl, rfl, (by show (0 : Int) ≤ 12 ∧ (12 : Int) ≤ 1000000 ∧ (10 : Int).natAbs < 2 ^ 64; decide), _, _, rfl, rfl, by show 8 ≤ sizeLine; decide, fun m hm => ?_⟩
    have nm : m ≠ p := hp1.ne hm
    refine ⟨p, m, _, b, rfl, hp1.same (same_new hm), .inl (.inl upd_same), nm, (by show 0 < 8; decide), (by show 8 < 1000; decide), fun x H2 hx s2 hp2 => ?_⟩
    have i40 : i < 40 := i1
    have e : ∃ L : Int, x = .int L ∧ 1 ≤ L ∧ L ≤ 1000000000000 := by
      simp only [List.mem_cons, List.not_mem_nil, or_false] at hx
      rcases hx with rfl | rfl | rfl | rfl | rfl | rfl | rfl | rfl
      · exact ⟨_, rfl, by decide, by decide⟩
      · exact ⟨_, rfl, by decide, by decide⟩
      · exact ⟨_, rfl, by decide, by decide⟩
      · exact ⟨_, rfl, by decide, by decide⟩
      · exact ⟨_, rfl, by omega, by omega⟩
      · exact ⟨_, rfl, by decide, by decide⟩
      · exact ⟨_, rfl, by decide, by decide⟩
      · exact ⟨_, rfl, by decide, by decide⟩
    obtain ⟨L, rfl, L0, L1⟩ := e
    exact q L H2 L0 L1 ((s1.same (same_new hm)).trans s2) hp2
set_option maxHeartbeats 1000000 in
theorem ok_law_words (T : Txt w.params K mg) : FnOk P w K mg base CX0 2 T.law_words.f T.law_words.fd ["purse"] (spWords K) := by
  refine T.law_words.F.ok sclaw_words (fun vs H Q E h => ?_) (fun cdv A outer s H vs Q E hr h => ?_)
  · obtain ⟨p, b, rfl, _⟩ := h
    rfl
  · obtain ⟨p, b, rfl, hp, q⟩ := h
    refine ⟨_, (pss_cons (ps_set (i := 1) sclaw_words.nd rfl (Or.inl rfl) (pe_lst (pa_cons pe_str (pa_cons pe_str (pa_cons pe_str (pa_cons pe_str (pa_cons pe_str (pa_cons pe_str (pa_cons pe_str (pa_cons pe_str (pa_cons pe_str (pa_cons pe_str (pa_cons pe_str (pa_cons pe_str (pa_cons pe_str (pa_cons pe_str pa_nil))))))))))))))))
      (pss_cons (ps_set (i := 2) sclaw_words.nd rfl (Or.inl rfl) (pe_call (ok_law_draw T) (hr.mono (by decide)) (by rfl) T.law_draw.g T.law_draw.F.kp T.law_draw.b .nil pass0 (pa_cons (pv 0) (pa_cons (pe_callB call_len_seq (by rfl) T.z_len (by decide +kernel) (pa_cons (pv 1) pa_nil)) pa_nil))))
      (pss_one (ps_ret (pe_slice sl_list (pe_op op_cat (pe_slice sl_list (pv 1) (po_some (pv 2)) po_none) (pe_slice sl_list (pv 1) po_none (po_some (pv 2)))) po_none (po_some pe_int)))))), ?_⟩
    refine ⟨by show 14 ≤ sizeLine; decide, fun o no => ?_⟩
    have s0 := same_new (o := HO.lst (words.map V.str)) no
    have no' : o ≠ p := hp.ne no
    have ho : (upd H o (.lst (words.map V.str))) o = some (.lst (words.map V.str)) := upd_same
    show tSeq _ _ _ _ (upd H o (.lst (words.map V.str)))
    have hp0 := hp.same s0
    generalize upd H o (.lst (words.map V.str)) = H0 at s0 ho hp0
    refine ⟨_, rfl, _, rfl, o, _, rfl, .inl (SqL.of ho), p, _, b, rfl, hp0, by decide, by decide, fun i H1 i0 i1 s1 hp1 => ?_⟩
    have ho1 := s1 _ _ no' ho
    obtain ⟨n, rfl⟩ : ∃ n : Nat, i = n := ⟨i.toNat, by omega⟩
    refine ⟨_, rfl, _, rfl, _, rfl, o, _, rfl, SqL.of ho1, fun c nc => ?_⟩
    have s2 := same_new (o := HO.lst (cutV (words.map V.str) (some (n : Int)) none)) nc
    have hc : (upd H1 c (.lst (cutV (words.map V.str) (some (n : Int)) none))) c = some (.lst ((words.map V.str).drop n)) := by rw [upd_same, cut_from]
    generalize upd H1 c (.lst (cutV (words.map V.str) (some (n : Int)) none)) = H2 at s2 hc
    refine ⟨_, rfl, _, rfl, _, rfl, o, _, rfl, SqL.of (s2 _ _ ho1), fun d nd => ?_⟩
    have s3 := same_new (o := HO.lst (cutV (words.map V.str) none (some (n : Int)))) nd
    have hd : (upd H2 d (.lst (cutV (words.map V.str) none (some (n : Int))))) d = some (.lst ((words.map V.str).take n)) := by rw [upd_same, cut_to]
    generalize upd H2 d (.lst (cutV (words.map V.str) none (some (n : Int)))) = H3 at s3 hd
    refine ⟨c, d, _, _, rfl, rfl, s3 _ _ hc, hd, ?_, fun e ne => ?_⟩
    · rw [List.length_drop, List.length_take, sizeLine_eq]
      have : (words.map V.str).length = 14 := rfl
      omega
    have s4 := same_new (o := HO.lst ((words.map V.str).drop n ++ (words.map V.str).take n)) ne
    have he : (upd H3 e (.lst ((words.map V.str).drop n ++ (words.map V.str).take n))) e = some (.lst ((words.map V.str).drop n ++ (words.map V.str).take n)) := upd_same
    generalize upd H3 e (.lst ((words.map V.str).drop n ++ (words.map V.str).take n)) = H4 at s4 he
    refine ⟨_, rfl, e, _, rfl, SqL.of he, fun r nr => ?_⟩
    have s14 : Same H1 H4 := (s2.trans s3).trans s4
    have hp4 := hp1.same s14
    have s04 : Sm p H H4 := ((Sm.of_same s0).trans s1).same s14
    refine q r n _ (by have : (n : Int) < 14 := i1; omega) (hp4.ne nr) (hp4.free s04 nr) (s04.same (same_new nr)) (hp4.same (same_new nr)) ?_
    rw [upd_same, show ((8 : Int)) = ((8 : Nat) : Int) from rfl, cut_to]
    unfold turned
    rw [List.map_take, List.map_append, List.map_drop, List.map_take]
set_option maxHeartbeats 1000000 in
theorem ok_law_touches (T : Txt w.params K mg) : FnOk P w K mg base CX0 3 T.law_touches.f T.law_touches.fd ["purse", "first", "last", "many", "wide"] (spMarks K) := by
  refine T.law_touches.F.ok sclaw_touches (fun vs H Q E h => ?_) (fun cdv A outer s H vs Q E hr h => ?_)
  · obtain ⟨p, first, last, wide, many, b, rfl, _⟩ := h
    rfl
  · obtain ⟨p, first, last, wide, many, b, rfl, hp, m6, f0, f1, la, w0, w1, q⟩ := h
    refine ⟨_, (pss_cons (ps_par (i := 5) (j := 6) (by rfl) sclaw_touches.nd rfl rfl (by decide) rfl rfl (pa_cons (pe_lst pa_nil) (pa_cons (pv 1) pa_nil)) (by rfl))
      (pss_cons (ps_for PassesOwn.never rfl (pi_range1 (by rfl) T.z_range (pa_cons (pv 3) pa_nil)) (pg_name (i := 7) sclaw_touches.nd rfl (Or.inl rfl)) (pss_cons (ps_set (i := 8) sclaw_touches.nd rfl (Or.inl rfl) (pe_op op_add (pv 6) (pe_op op_mulX (pe_call (ok_law_draw T) (hr.mono (by decide)) (by rfl) T.law_draw.g T.law_draw.F.kp T.law_draw.b .nil pass0 (pa_cons (pv 0) (pa_cons pe_int pa_nil))) (pe_call (ok_law_pick T) (hr.mono (by decide)) (by rfl) T.law_pick.g T.law_pick.F.kp T.law_pick.b .nil pass0 (pa_cons (pv 0) (pa_cons (pe_lst (pa_cons pe_int (pa_cons pe_int (pa_cons (pv 4) pa_nil)))) pa_nil))))))
      (pss_cons (ps_set (i := 9) sclaw_touches.nd rfl (Or.inl rfl) (pe_op op_add (pe_op op_add (pv 8) pe_int) (pe_op op_mulX (pe_call (ok_law_draw T) (hr.mono (by decide)) (by rfl) T.law_draw.g T.law_draw.F.kp T.law_draw.b .nil pass0 (pa_cons (pv 0) (pa_cons pe_int pa_nil))) (pe_call (ok_law_pick T) (hr.mono (by decide)) (by rfl) T.law_pick.g T.law_pick.F.kp T.law_pick.b .nil pass0 (pa_cons (pv 0) (pa_cons (pe_lst (pa_cons pe_int (pa_cons pe_int (pa_cons (pv 4) pa_nil)))) pa_nil))))))
      (pss_one (ps_if (pt_cmpR op_le (pv 9) (pv 2) (nomark _)) (pss_cons (ps_expr (pe_bm PySem.F.plainAttrs_list PySem.F.slot_list_append PySem.F.type_list_append mt_append (pv 5) (pa_cons (pe_tup (pa_cons (pv 8) (pa_cons (pv 9) pa_nil))) pa_nil)))
      (pss_one (ps_set (i := 6) sclaw_touches.nd rfl (Or.inl rfl) (pe_op op_add (pv 9) pe_int)))) pss_nil)))))
      (pss_one (ps_ret (pe_callTy call_tuple_of (by rfl) T.z_tuple (by decide +kernel) (pa_cons (pv 5) pa_nil)))))), ?_⟩
    refine ⟨Nat.zero_le _, fun o no => ?_⟩
    have no' : o ≠ p := hp.ne no
    have s0 := same_new (o := HO.lst []) no
    have ho : (upd H o (.lst [])) o = some (.lst []) := upd_same
    have hp0 := hp.same s0
    refine ⟨_, rfl, _, _, rfl, ?_⟩
    show tSeq _ _ _ _ (upd H o (.lst []))
    generalize upd H o (.lst []) = H0 at s0 ho hp0
    refine ⟨_, rfl, many, rfl, (by omega), (by omega), for_range (lo := 0) (n := many) (fun i σ H' => ∃ (at_ : Int) (ds : List PyData) (vs : List V) (y1 y2 y3 : Option V), σ = [some (.ref p), some (.int first), some (.int last), some (.int many), some (.int wide), some (.ref o), some (.int at_), y1, y2, y3] ∧
      Sm p H H' ∧ Pu (b + 4 * (many - i)) H' p ∧ H' o = some (.lst vs) ∧ Cells H' vs ds ∧ ds.length ≤ i ∧ touchesFrom last ds first = true ∧ (ds = [] → at_ = first) ∧ (∀ e, ds.getLast? = some e → at_ = sndI e + 1) ∧ 0 ≤ at_ ∧ at_ ≤ 1000000000001)
      ⟨first, [], [], none, none, none, rfl, .of_same s0, hp0, ho, .nil, Nat.zero_le _, rfl, fun _ => rfl, (fun _ h => by cases h), f0, by omega⟩ ?_ ?_⟩
    · rintro i σ H1 hi ⟨at_, ds, vs, y1, y2, y3, rfl, sm, hp1, ho1, hv, ld, ht, he, hl, a0, a1⟩
      have hp1' : Pu (b + 4 * (many - (i + 1)) + 4) H1 p := hp1.mono (by omega)
      generalize b + 4 * (many - (i + 1)) = b' at hp1'
      refine ⟨_, rfl, _, rfl, p, 4, b' + 3, rfl, hp1', by decide, by decide, fun d1 H2 d10 d11 s2 hp2 => ?_⟩
      refine ⟨_, rfl, _, rfl, by show 3 ≤ sizeLine; decide, fun m hm => ?_⟩
      refine ⟨p, m, _, b' + 2, rfl, hp2.same (same_new hm), .inl (.inl upd_same), hp2.ne hm, (by show 0 < 3; decide), (by show 3 < 1000; decide), fun x H3 hx s3 hp3 => ?_⟩
      obtain ⟨u, rfl, u0, u1⟩ : ∃ u : Int, x = .int u ∧ 1 ≤ u ∧ u ≤ 1000000000000 := by
        simp only [List.mem_cons, List.not_mem_nil, or_false] at hx
        rcases hx with rfl | rfl | rfl
        · exact ⟨1, rfl, by decide, by decide⟩
        · exact ⟨1, rfl, by decide, by decide⟩
        · exact ⟨wide, rfl, w0, w1⟩
      have d14 : d1 < 4 := d11
      have g0 : 0 ≤ d1 * u := Int.mul_nonneg d10 (by omega)
      have g1 : d1 * u ≤ 3 * u := Int.mul_le_mul_of_nonneg_right (by omega) (by omega)
      refine ⟨_, _, rfl, rfl, CMulX.small (by omega) (by omega), _, _, rfl, rfl, ?_⟩
      have s13 : Sm p H1 H3 := (s2.same (same_new hm)).trans s3
      refine ⟨_, rfl, _, _, rfl, rfl, _, rfl, p, 3, b' + 1, rfl, hp3, by decide, by decide, fun d2 H4 d20 d21 s4 hp4 => ?_⟩
      refine ⟨_, rfl, _, rfl, by show 3 ≤ sizeLine; decide, fun m2 hm2 => ?_⟩
      refine ⟨p, m2, _, b', rfl, hp4.same (same_new hm2), .inl (.inl upd_same), hp4.ne hm2, (by show 0 < 3; decide), (by show 3 < 1000; decide), fun x2 H5 hx2 s5 hp5 => ?_⟩
      obtain ⟨u2, rfl, u20, u21⟩ : ∃ u : Int, x2 = .int u ∧ 1 ≤ u ∧ u ≤ 1000000000000 := by
        simp only [List.mem_cons, List.not_mem_nil, or_false] at hx2
        rcases hx2 with rfl | rfl | rfl
        · exact ⟨1, rfl, by decide, by decide⟩
        · exact ⟨1, rfl, by decide, by decide⟩
        · exact ⟨wide, rfl, w0, w1⟩
      have d24 : d2 < 3 := d21
      have k0 : 0 ≤ d2 * u2 := Int.mul_nonneg d20 (by omega)
      have k1 : d2 * u2 ≤ 2 * u2 := Int.mul_le_mul_of_nonneg_right (by omega) (by omega)
      have s15 : Sm p H1 H5 := ((s13.trans s4).same (same_new hm2)).trans s5
      have ho5 := s15 _ _ no' ho1
      have hv5 := hv.mono (s15.tups (Pu.pl hp1))
      refine ⟨_, _, rfl, rfl, CMulX.small (by omega) (by omega), _, _, rfl, rfl, ?_⟩
      dsimp only
      generalize hA : at_ + d1 * u = A at *
      generalize hB : A + 1 + d2 * u2 = B at *
      refine ⟨_, rfl, _, rfl, _, _, rfl, rfl, _, rfl, ite2 (fun c => ?_) (fun c => ?_)⟩
      · have cB : B ≤ last := of_decide_eq_true c
        refine ⟨_, rfl, .inl ⟨rfl, _, SqL.of ho5⟩, _, rfl, _, rfl, by show 2 ≤ sizeLine; decide, fun t ht' => ?_⟩
        have s6 := same_new (o := HO.tup [V.int A, V.int B]) ht'
        have hT : (upd H5 t (.tup [V.int A, V.int B])) t = some (.tup [V.int A, V.int B]) := upd_same
        have ho6 := s6 _ _ ho5
        have hp6 := hp5.same s6
        have hv6 := hv5.mono fun b xs h => s6 _ _ h
        have s16 := s15.same s6
        generalize upd H5 t (.tup [V.int A, V.int B]) = H6 at s6 hT ho6 hp6 hv6 s16
        refine ⟨o, _, _, rfl, rfl, ho6, ?_, ?_⟩
        · rw [hv.length, sizeLine_eq]
          omega
        · refine ⟨_, rfl, _, _, rfl, rfl, ?_⟩
          have hst : isStretch (.tuple [.int A, .int B]) at_ last = true := by
            show (decide (at_ ≤ A ∧ A ≤ last) && decide (A + 1 ≤ B ∧ B ≤ last)) = true
            rw [decide_eq_true (show at_ ≤ A ∧ A ≤ last by omega), decide_eq_true (show A + 1 ≤ B ∧ B ≤ last by omega)]
            rfl
          refine ⟨_, ds ++ [.tuple [.int A, .int B]], vs ++ [.ref t], _, _, _, rfl, fun c w n e => ?_, ?_, upd_same, ?_, ?_, ?_, ?_, ?_, by omega, by omega⟩
          · rw [upd_ne (ne_of_none e no)]
            exact (sm.trans s16) c w n e
          · obtain ⟨dd, ss, cc, e1, e2⟩ := hp6
            exact ⟨dd, ss, cc, by rw [upd_ne (Ne.symm no')]; exact e1, e2⟩
          · exact (hv6.snoc hT).mono (put_tups ho6)
          · rw [List.length_append]
            exact Nat.succ_le_succ ld
          · exact tend_append last _ ds first at_ (fun _ => rfl) he hl ht hst
          · intro z
            simp at z
          · intro e ee
            rw [List.getLast?_append] at ee
            simp at ee
            subst ee
            rfl
      · refine ⟨_, ds, vs, _, _, _, rfl, sm.trans s15, hp5, ho5, hv5, by omega, ht, he, hl, a0, a1⟩
    · rintro σ H1 ⟨at_, ds, vs, y1, y2, y3, rfl, sm, hp1, ho1, hv, ld, ht, he, hl, a0, a1⟩
      refine ⟨_, rfl, o, vs, rfl, .inl ⟨SqL.of ho1, fun r hr => ?_⟩⟩
      refine q r (.tuple ds) _ (sm.same (same_new hr)) ((hp1.mono (by omega)).same (same_new hr)) (.tup (.inl (.inl upd_same)) ((hv.all).same (same_new hr))) ?_
      show (decide (ds.length ≤ 6) && touchesFrom last ds first) = true
      rw [ht, decide_eq_true (show ds.length ≤ 6 by omega)]
      rfl
set_option maxHeartbeats 1000000 in
theorem ok_law_wide (T : Txt w.params K mg) : FnOk P w K mg base CX0 2 T.law_wide.f T.law_wide.fd ["purse", "size"] (spWide) := by
  refine T.law_wide.F.ok sclaw_wide (fun vs H Q E h => ?_) (fun cdv A outer s H vs Q E hr h => ?_)
  · obtain ⟨p, n, b, rfl, _⟩ := h
    rfl
  · obtain ⟨p, n, b, rfl, hp, n0, q⟩ := h
    refine ⟨_, (pss_one (ps_ret (pe_op op_mod (pe_callTy call_int1 (by rfl) T.z_int (by decide +kernel) (pa_cons (pe_op op_add (pe_op op_mulX (pe_call (ok_law_draw T) (hr.mono (by decide)) (by rfl) T.law_draw.g T.law_draw.F.kp T.law_draw.b .nil pass0 (pa_cons (pv 0) (pa_cons (pe_op op_pow pe_int pe_int) pa_nil))) (pe_op op_pow pe_int pe_int)) (pe_call (ok_law_draw T) (hr.mono (by decide)) (by rfl) T.law_draw.g T.law_draw.F.kp T.law_draw.b .nil pass0 (pa_cons (pv 0) (pa_cons (pe_op op_pow pe_int pe_int) pa_nil)))) pa_nil)) (pv 1)))), ?_⟩
    refine ⟨_, rfl, _, _, rfl, rfl, (by show (0 : Int) ≤ 6 ∧ (6 : Int) ≤ 1000000 ∧ (10 : Int).natAbs < 2 ^ 64; decide), p, _, b + 1, rfl, hp, by decide, by decide, fun i H1 i0 i1 s1 hp1 => ?_⟩
    refine ⟨_, _, rfl, rfl, (by show (0 : Int) ≤ 6 ∧ (6 : Int) ≤ 1000000 ∧ (10 : Int).natAbs < 2 ^ 64; decide), _, _, rfl, rfl, CMulX.small (by have : i < 1000000 := i1; omega) (by decide), ?_⟩
    refine ⟨_, rfl, _, _, rfl, rfl, (by show (0 : Int) ≤ 6 ∧ (6 : Int) ≤ 1000000 ∧ (10 : Int).natAbs < 2 ^ 64; decide), p, _, b, rfl, hp1, by decide, by decide, fun j H2 j0 j1 s2 hp2 => ?_⟩
    refine ⟨_, _, rfl, rfl, .inl ⟨_, rfl, _, rfl, _, _, rfl, rfl, n0, ?_⟩⟩
    exact q _ H2 (Int.emod_nonneg _ (by omega)) (Int.emod_lt_of_pos _ n0) (s1.trans s2) hp2
set_option maxHeartbeats 1000000 in
theorem ok_law_fader (T : Txt w.params K mg) : FnOk P w K mg base CX0 4 T.law_fader.f T.law_fader.fd ["purse", "word", "long"] (spFader K) := by
  refine T.law_fader.F.ok sclaw_fader (fun vs H Q E h => ?_) (fun cdv A outer s H vs Q E hr h => ?_)
  · obtain ⟨p, z, L, b, rfl, _⟩ := h
    rfl
  · obtain ⟨p, z, L, b, rfl, hp, hz, zo, L0, L1, q⟩ := h
    refine ⟨_, (pss_cons (ps_set (i := 3) sclaw_fader.nd rfl (Or.inr rfl) (pe_call (ok_law_pick T) (hr.mono (by decide)) (by rfl) T.law_pick.g T.law_pick.F.kp T.law_pick.b .nil pass0 (pa_cons (pv 0) (pa_cons (pe_lst (pa_cons pe_int (pa_cons (pe_call (ok_law_wide T) (hr.mono (by decide)) (by rfl) T.law_wide.g T.law_wide.F.kp T.law_wide.b .nil pass0 (pa_cons (pv 0) (pa_cons (pv 2) pa_nil))) (pa_cons (pe_call (ok_law_wide T) (hr.mono (by decide)) (by rfl) T.law_wide.g T.law_wide.F.kp T.law_wide.b .nil pass0 (pa_cons (pv 0) (pa_cons (pv 2) pa_nil))) pa_nil)))) pa_nil))))
      (pss_cons (ps_set (i := 4) sclaw_fader.nd rfl (Or.inl rfl) (pe_op op_cat (pe_lst (pa_cons (pv 2) pa_nil)) (pe_lc (own := [("k", 5)]) (g := gName 5) (tt := tYes) rfl sclaw_fader.nd (pi_range1 (by rfl) T.z_range (pa_cons pe_int pa_nil)) (blkOk_by (N := ["purse", "word", "long", "first", "some", "k", "last", "wide", "marks", "mode", "slide", "tail"]) (sc := defScope slaw_fader) (by decide +kernel)) (fun _ _ _ _ _ => pg_name (i := 5) sclaw_fader.nd rfl (Or.inl rfl)) (fun _ _ _ _ _ => pts_nil) (fun _ _ _ _ _ => (pe_op op_add (pe_op op_add (pv 3) pe_int) (pe_call (ok_law_wide T) (hr.mono (by decide)) (by rfl) T.law_wide.g T.law_wide.F.kp T.law_wide.b .nil pass0 (pa_cons (pv 0) (pa_cons (pe_op op_sub (pv 2) (pv 3)) pa_nil))))))))
      (pss_cons (ps_set (i := 6) sclaw_fader.nd rfl (Or.inl rfl) (pe_call (ok_law_pick T) (hr.mono (by decide)) (by rfl) T.law_pick.g T.law_pick.F.kp T.law_pick.b .nil pass0 (pa_cons (pv 0) (pa_cons (pv 4) pa_nil))))
      (pss_cons (ps_set (i := 7) sclaw_fader.nd rfl (Or.inl rfl) (pe_call (ok_law_pick T) (hr.mono (by decide)) (by rfl) T.law_pick.g T.law_pick.F.kp T.law_pick.b .nil pass0 (pa_cons (pv 0) (pa_cons (pe_lst (pa_cons pe_int (pa_cons pe_int (pa_cons (pe_callB (call_max2 rfl) (by rfl) T.z_max (by decide +kernel) (pa_cons pe_int (pa_cons (pe_op op_fdiv (pe_op op_sub (pv 6) (pv 3)) pe_int) pa_nil))) pa_nil)))) pa_nil))))
      (pss_cons (ps_set (i := 8) sclaw_fader.nd rfl (Or.inl rfl) (pe_call (ok_law_touches T) (hr.mono (by decide)) (by rfl) T.law_touches.g T.law_touches.F.kp T.law_touches.b .nil pass0 (pa_cons (pv 0) (pa_cons (pv 3) (pa_cons (pv 6) (pa_cons (pe_call (ok_law_draw T) (hr.mono (by decide)) (by rfl) T.law_draw.g T.law_draw.F.kp T.law_draw.b .nil pass0 (pa_cons (pv 0) (pa_cons pe_int pa_nil))) (pa_cons (pv 7) pa_nil)))))))
      (pss_cons (ps_set (i := 9) sclaw_fader.nd rfl (Or.inl rfl) (pe_call (ok_law_pick T) (hr.mono (by decide)) (by rfl) T.law_pick.g T.law_pick.F.kp T.law_pick.b .nil pass0 (pa_cons (pv 0) (pa_cons (pe_lst (pa_cons pe_str (pa_cons pe_str (pa_cons pe_str (pa_cons pe_str (pa_cons pe_str pa_nil)))))) pa_nil))))
      (pss_cons (ps_par (i := 10) (j := 11) (by rfl) sclaw_fader.nd rfl rfl (by decide) rfl rfl (pa_cons (pe_call (ok_law_pick T) (hr.mono (by decide)) (by rfl) T.law_pick.g T.law_pick.F.kp T.law_pick.b .nil pass0 (pa_cons (pv 0) (pa_cons (pe_lst (pa_cons pe_int (pa_cons pe_int (pa_cons pe_int (pa_cons pe_int (pa_cons pe_int (pa_cons pe_int (pa_cons pe_int pa_nil)))))))) pa_nil))) (pa_cons (pe_call (ok_law_pick T) (hr.mono (by decide)) (by rfl) T.law_pick.g T.law_pick.F.kp T.law_pick.b .nil pass0 (pa_cons (pv 0) (pa_cons (pe_lst (pa_cons pe_str (pa_cons pe_str (pa_cons pe_str pa_nil)))) pa_nil))) pa_nil)) (by rfl))
      (pss_one (ps_ret (pe_tup (pa_cons (pv 1) (pa_cons (pv 9) (pa_cons (pv 3) (pa_cons (pv 6) (pa_cons (pv 8) (pa_cons (pv 10) (pa_cons (pv 11) pa_nil))))))))))))))))), ?_⟩
    -- first
    refine ⟨_, rfl, _, rfl, _, rfl, p, L, b + 62, rfl, hp, by omega, fun a1 H1 a10 a11 s1 hp1 => ?_⟩
    refine ⟨_, rfl, _, rfl, p, L, b + 60, rfl, hp1, by omega, fun a2 H2 a20 a21 s2 hp2 => ⟨by show 3 ≤ sizeLine; decide, fun m hm => ?_⟩⟩
    refine ⟨p, m, _, b + 59, rfl, hp2.same (same_new hm), .inl (.inl upd_same), hp2.ne hm, (by show 0 < 3; decide), (by show 3 < 1000; decide), fun x H3 hx s3 hp3 => ?_⟩
    obtain ⟨f, rfl, f0, f1⟩ : ∃ f : Int, x = .int f ∧ 0 ≤ f ∧ f < L := by
      simp only [List.mem_cons, List.not_mem_nil, or_false] at hx
      rcases hx with rfl | rfl | rfl
      · exact ⟨0, rfl, by decide, by omega⟩
      · exact ⟨_, rfl, a10, a11⟩
      · exact ⟨_, rfl, a20, a21⟩
    have t3 : Sm p H H3 := ((s1.trans s2).same (same_new hm)).trans s3
    -- some
    refine ⟨_, rfl, by show 1 ≤ sizeLine; decide, fun m2 hm2 => ?_⟩
    have u1 := same_new (o := HO.lst [V.int L]) hm2
    have hm2' : (upd H3 m2 (.lst [V.int L])) m2 = some (.lst [V.int L]) := upd_same
    have nm2 : m2 ≠ p := hp3.ne hm2
    have hp4 := hp3.same u1
    have t4 := t3.same u1
    refine ⟨2, rfl, (by decide), (by decide), fun D hD => ?_⟩
    have nD : D ≠ p := hp4.ne hD
    have nmD : m2 ≠ D := ne_of_none hm2' hD
    refine lc_range (lo := 0) (n := 2) (fun i H' => Sm p H H' ∧ Pu (b + 59 - 2 * i) H' p ∧ H' m2 = some (.lst [.int L]) ∧ ∃ vs, H' D = some (.lst vs) ∧ vs.length = i ∧ ∀ v ∈ vs, ∃ t : Int, v = .int t ∧ f < t ∧ t ≤ L) ⟨t4.same (same_new hD), hp4.same (same_new hD), by rw [upd_ne nmD]; exact hm2', [], upd_same, rfl, fun _ h => by cases h⟩ ?_ ?_
    · rintro i H5 hi ⟨t5, hp5, hm5, vs, hD5, lv, hv⟩
      have hp5' : Pu (b + 59 - 2 * (i + 1) + 2) H5 p := hp5.mono (by omega)
      refine ⟨rfl, tYes_rd ?_⟩
      refine ⟨_, rfl, _, _, rfl, rfl, _, rfl, _, rfl, _, rfl, _, _, rfl, rfl, p, L - f, _, rfl, hp5', by omega, fun t H6 t0 t1 s6 hp6 => ?_⟩
      refine ⟨_, _, rfl, rfl, vs, s6 _ _ nD hD5, ?_, ?_, ?_, ?_, vs ++ [.int (f + 1 + t)], upd_same, ?_, ?_⟩
      · rw [lv, sizeLine_eq]; omega
      · exact fun c w n e => by
          by_cases h : c = D
          · subst h
            exact absurd e (by rw [(hp4.free t4 hD)]; exact fun z => by cases z)
          · rw [upd_ne h]; exact (t5.trans s6) c w n e
      · obtain ⟨dd, ss, cc, e1, e2⟩ := hp6
        exact ⟨dd, ss, cc, by rw [upd_ne (Ne.symm nD)]; exact e1, e2⟩
      · rw [upd_ne nmD]; exact s6 _ _ nm2 hm5
      · rw [List.length_append, lv]; rfl
      · intro v hv'
        rcases List.mem_append.mp hv' with h | h
        · exact hv v h
        · obtain rfl := List.mem_singleton.mp h
          exact ⟨_, rfl, by omega, by omega⟩
    · rintro H5 ⟨t5, hp5, hm5, vs, hD5, lv, hv⟩
      have hp5' : Pu (b + 54 + 1) H5 p := hp5.mono (by omega)
      refine ⟨m2, D, _, _, rfl, rfl, hm5, hD5, ?_, fun o no => ?_⟩
      · rw [lv, sizeLine_eq]; exact (by decide : 1 + 2 ≤ 16777216)
      -- last
      refine ⟨_, rfl, _, rfl, p, o, _, b + 54, rfl, hp5'.same (same_new no), .inl (.inl upd_same), hp5'.ne no, ?_, ?_, fun x H6 hx s6 hp6 => ?_⟩
      · rw [List.length_append]; exact Nat.lt_of_lt_of_le (by decide : 0 < 1) (Nat.le_add_right 1 _)
      · rw [List.length_append, lv]; exact (by decide : 1 + 2 < 1000)
      obtain ⟨t, rfl, ft, tL⟩ : ∃ t : Int, x = .int t ∧ f < t ∧ t ≤ L := by
        rcases List.mem_append.mp hx with h | h
        · obtain rfl := List.mem_singleton.mp h
          exact ⟨L, rfl, f1, Int.le_refl _⟩
        · exact hv x h
      have t6 : Sm p H H6 := (t5.same (same_new no)).trans s6
      -- wide
      refine ⟨_, rfl, _, rfl, _, rfl, _, _, rfl, rfl, _, _, rfl, rfl, ⟨by decide, by decide⟩, _, _, rfl, by show 3 ≤ sizeLine; decide, fun m3 hm3 => ?_⟩
      refine ⟨p, m3, _, b + 53, rfl, hp6.same (same_new hm3), .inl (.inl upd_same), hp6.ne hm3, (by show 0 < 3; decide), (by show 3 < 1000; decide), fun x H7 hx s7 hp7 => ?_⟩
      have q20 : 0 ≤ (t - f) / 20 ∧ (t - f) / 20 ≤ t - f := ⟨Int.ediv_nonneg (by omega) (by decide), Int.ediv_le_self _ (by omega)⟩
      obtain ⟨y, rfl, y0, y1⟩ : ∃ y : Int, x = .int y ∧ 1 ≤ y ∧ y ≤ 1000000000000 := by
        simp only [List.mem_cons, List.not_mem_nil, or_false] at hx
        rcases hx with rfl | rfl | rfl
        · exact ⟨1, rfl, by decide, by decide⟩
        · exact ⟨1, rfl, by decide, by decide⟩
        · refine ⟨_, rfl, ?_, ?_⟩ <;> split <;> omega
      have t7 : Sm p H H7 := (t6.same (same_new hm3)).trans s7
      -- marks
      refine ⟨_, rfl, _, rfl, _, rfl, _, rfl, p, 7, b + 52, rfl, hp7, by decide, by decide, fun n H8 n0 n1 s8 hp8 => ?_⟩
      obtain ⟨n, rfl⟩ : ∃ k : Nat, n = k := ⟨n.toNat, by omega⟩
      have n7 : (n : Int) < 7 := n1
      have hp8' : Pu (b + 28 + 4 * n) H8 p := hp8.mono (by omega)
      refine ⟨_, rfl, p, f, t, y, n, b + 28, rfl, hp8', by omega, f0, by omega, by omega, y0, y1, fun r u H9 s9 hp9 hu tu => ?_⟩
      have t9 : Sm p H H9 := (t7.trans s8).trans s9
      -- mode
      refine ⟨_, rfl, by show 5 ≤ sizeLine; decide, fun m4 hm4 => ?_⟩
      refine ⟨p, m4, _, b + 27, rfl, Pu.mono (hp9.same (same_new hm4)) (by omega), .inl (.inl upd_same), hp9.ne hm4, (by show 0 < 5; decide), (by show 5 < 1000; decide), fun x HA hx sA hpA => ?_⟩
      obtain ⟨mo, rfl, hmo⟩ : ∃ mo : Str, x = .str mo ∧ mo ∈ modes := by
        simp only [List.mem_cons, List.not_mem_nil, or_false] at hx
        rcases hx with rfl | rfl | rfl | rfl | rfl <;> exact ⟨_, rfl, by decide +kernel⟩
      -- slide, tail
      refine ⟨_, rfl, by show 7 ≤ sizeLine; decide, fun m5 hm5' => ?_⟩
      refine ⟨p, m5, _, b + 26, rfl, hpA.same (same_new hm5'), .inl (.inl upd_same), hpA.ne hm5', (by show 0 < 7; decide), (by show 7 < 1000; decide), fun x HB hx sB hpB => ?_⟩
      obtain ⟨g, rfl, g0, g1⟩ : ∃ g : Int, x = .int g ∧ 0 ≤ g ∧ g ≤ 100 := by
        simp only [List.mem_cons, List.not_mem_nil, or_false] at hx
        rcases hx with rfl | rfl | rfl | rfl | rfl | rfl | rfl <;> exact ⟨_, rfl, by decide, by decide⟩
      refine ⟨_, rfl, by show 3 ≤ sizeLine; decide, fun m6 hm6 => ?_⟩
      refine ⟨p, m6, _, b + 25, rfl, hpB.same (same_new hm6), .inl (.inl upd_same), hpB.ne hm6, (by show 0 < 3; decide), (by show 3 < 1000; decide), fun x HC hx sC hpC => ?_⟩
      obtain ⟨ta, rfl, hta⟩ : ∃ ta : Str, x = .str ta ∧ ta ∈ tails := by
        simp only [List.mem_cons, List.not_mem_nil, or_false] at hx
        rcases hx with rfl | rfl | rfl <;> exact ⟨_, rfl, by decide +kernel⟩
      refine ⟨_, _, rfl, ?_⟩
      have sAC : Sm p H9 HC := ((((Sm.of_same (same_new hm4)).trans sA).same (same_new hm5')).trans sB |>.same (same_new hm6)).trans sC
      refine ⟨_, rfl, _, rfl, _, rfl, _, rfl, _, rfl, _, rfl, _, rfl, by show 7 ≤ sizeLine; decide, fun r7 nr7 => ?_⟩
      have lz : Sok z := nameOk_ok hz
      have w1 : isWord (.str mo) modes = true := by simpa [isWord] using hmo
      have w2 : isWord (.str ta) tails = true := by simpa [isWord] using hta
      have lm : ∀ x ∈ modes, Sok x := by decide +kernel
      have lt : ∀ x ∈ tails, Sok x := by decide +kernel
      have same7 := same_new (o := HO.tup [V.str z, .str mo, .int f, .int t, .ref r, .int g, .str ta]) nr7
      refine q r7 (.tuple [.str z, .str mo, .int f, .int t, u, .int g, .str ta]) _ ((t9.trans sAC).same same7) (Pu.mono (hpC.same same7) (by omega)) (.tup (.inl (.inl upd_same)) ?_) (isPass_mk hz zo w1 w2 ⟨f0, ft, tL⟩ tu ⟨g0, g1⟩) rfl
      exact .cons (.str z lz) (.cons (.str mo (lm mo hmo)) (.cons (.int f) (.cons (.int t) (.cons ((hu.sm sAC (Pu.pl hp9)).same same7) (.cons (.int g) (.cons (.str ta (lt ta hta)) .nil))))))
set_option maxHeartbeats 1000000 in
theorem ok_law_faders (T : Txt w.params K mg) : FnOk P w K mg base CX0 5 T.law_faders.f T.law_faders.fd ["purse", "long", "many"] (spFaders K) := by
  refine T.law_faders.F.ok sclaw_faders (fun vs H Q E h => ?_) (fun cdv A outer s H vs Q E hr h => ?_)
  · obtain ⟨p, L, many, b, rfl, _⟩ := h
    rfl
  · obtain ⟨p, L, many, b, rfl, hp, m8, L0, L1, q⟩ := h
    refine ⟨_, (pss_cons (ps_set (i := 3) sclaw_faders.nd rfl (Or.inr rfl) (pe_call (ok_law_words T) (hr.mono (by decide)) (by rfl) T.law_words.g T.law_words.F.kp T.law_words.b .nil pass0 (pa_cons (pv 0) pa_nil)))
      (pss_one (ps_ret (pe_callTy call_tuple_of (by rfl) T.z_tuple (by decide +kernel) (pa_cons (pe_lc (own := [("k", 4)]) (g := gName 4) (tt := tYes) rfl sclaw_faders.nd (pi_range1 (by rfl) T.z_range (pa_cons (pe_call (ok_law_draw T) (hr.mono (by decide)) (by rfl) T.law_draw.g T.law_draw.F.kp T.law_draw.b .nil pass0 (pa_cons (pv 0) (pa_cons (pe_op op_add (pv 2) pe_int) pa_nil))) pa_nil)) (blkOk_by (N := ["purse", "long", "many", "words", "k"]) (sc := defScope slaw_faders) (by decide +kernel)) (fun _ _ _ _ _ => pg_name (i := 4) sclaw_faders.nd rfl (Or.inl rfl)) (fun _ _ _ _ _ => pts_nil) (fun _ _ _ _ _ => (pe_call (ok_law_fader T) (hr.mono (by decide)) (by rfl) T.law_fader.g T.law_fader.F.kp T.law_fader.b .nil pass0 (pa_cons (pv 0) (pa_cons (pe_ix (show IxR _ (rIxL K) from ix_list) (pv 3) (pv 4) (fun _ _ => rfl)) (pa_cons (pv 1) pa_nil)))))) pa_nil))))), ?_⟩
    refine ⟨_, rfl, p, b + 599, rfl, hp, fun o i H1 i14 no nH s1 hp1 ho => ?_⟩
    obtain ⟨t8, tn, tw⟩ := turned_ok i i14
    refine ⟨_, rfl, _, rfl, _, _, rfl, rfl, p, (many : Int) + 1, b + 598, rfl, hp1, by omega, by omega, fun n H2 n0 n1 s2 hp2 => ?_⟩
    obtain ⟨n, rfl⟩ : ∃ k : Nat, n = k := ⟨n.toNat, by omega⟩
    have nm : n ≤ many := by omega
    have ho2 := s2 _ _ no ho
    refine ⟨n, rfl, (by omega), (by omega), fun D hD => ?_⟩
    have nD : D ≠ p := hp2.ne hD
    have noD : o ≠ D := ne_of_none ho2 hD
    have t2 : Sm p H H2 := s1.trans s2
    refine lc_range (lo := 0) (n := n) (fun j H' => Sm p H H' ∧ Pu (b + 64 * (n - j)) H' p ∧ H' o = some (.lst ((turned i).map V.str)) ∧ ∃ vs ds, H' D = some (.lst vs) ∧ DnAll K D H' vs ds ∧ ds.length = j ∧ (∀ d ∈ ds, isPass L d = true) ∧ ds.map nameOf = (turned i).take j)
      ⟨t2.same (same_new hD), Pu.mono (hp2.same (same_new hD)) (by omega), by rw [upd_ne noD]; exact ho2, [], [], upd_same, .nil, rfl, (fun _ h => by cases h), rfl⟩ ?_ ?_
    · rintro j H3 hj ⟨t3, hp3, ho3, vs, ds, hD3, hv, ld, hpass, hname⟩
      have hp3' : Pu (b + 64 * (n - (j + 1)) + 64) H3 p := hp3.mono (by omega)
      have jl : j < (turned i).length := by omega
      have ej : ((turned i).map V.str)[j]? = some (.str (turned i)[j]) := by rw [List.getElem?_map, List.getElem?_eq_getElem jl]; rfl
      obtain ⟨zo, zold, z8, _⟩ := tw _ (List.getElem_mem jl)
      refine ⟨rfl, tYes_rd ?_⟩
      refine ⟨_, rfl, _, rfl, _, rfl, o, _, (0 : Int) + (j : Nat), _, rfl, rfl, SqL.of ho3, by rw [Int.zero_add]; exact atI_nat ej, _, rfl, p, (turned i)[j], L, _, rfl, hp3', zo, zold, L0, L1, fun r d H4 s4 hp4 hd hdp hdn => ?_⟩
      have hD4 := s4 _ _ nD hD3
      refine ⟨vs, hD4, ?_, ?_, ?_, ?_, vs ++ [.ref r], ds ++ [d], upd_same, ?_, ?_, ?_, ?_⟩
      · rw [hv.length, ld, sizeLine_eq]; omega
      · intro c w nc e
        by_cases h : c = D
        · subst h
          rw [hp2.free t2 hD] at e
          cases e
        · rw [upd_ne h]; exact (t3.trans s4) c w nc e
      · obtain ⟨dd, ss, cc, e1, e2⟩ := hp4
        exact ⟨dd, ss, cc, by rw [upd_ne (Ne.symm nD)]; exact e1, e2⟩
      · rw [upd_ne noD]; exact s4 _ _ no ho3
      · have k1 : DnAll K D (upd H4 D (.lst (vs ++ [.ref r]))) vs ds := hv.tk ((Tk.of_sm s4 (Pu.pl hp3)).trans (.put hD4)) (flatA_all fun d hd => pass_flat (hpass d hd))
        exact k1.append (.cons (hd.tk (.put hD4) (pass_flat hdp)) .nil)
      · rw [List.length_append, ld]; rfl
      · intro e he
        rcases List.mem_append.mp he with h | h
        · exact hpass e h
        · obtain rfl := List.mem_singleton.mp h
          exact hdp
      · rw [List.map_append, hname, List.take_add_one, List.getElem?_eq_getElem jl]
        simp [hdn]
    · rintro H3 ⟨t3, hp3, ho3, vs, ds, hD3, hv, ld, hpass, hname⟩
      refine ⟨D, vs, rfl, .inl ⟨SqL.of hD3, fun r hr => ?_⟩⟩
      refine q r ds i _ (t3.same (same_new hr)) (Pu.mono (hp3.same (same_new hr)) (by omega)) (.tup (.inl (.inl upd_same)) ?_) ⟨i14, by omega, hpass, by rw [hname, ld]⟩
      exact hv.tk (.of_same (same_new hr)) (flatA_all fun d hd => pass_flat (hpass d hd))
set_option maxHeartbeats 1000000 in
theorem ok_law_same (T : Txt w.params K mg) : FnG P w K mg base CX0 3 T.law_same.f T.law_same.fd ["mine", "long", "some"] (spSame K T.C) := by
  refine T.law_same.F.okG sclaw_same (fun vs H Q E h => ?_) (fun cdv A outer s H vs Q E hg hr h => ?_)
  · obtain ⟨p, x, t, L, ds, rfl, _⟩ := h
    rfl
  · obtain ⟨p, x, t, L, ds, rfl, ht, hd, q⟩ := h
    have hu := hr.units
    refine ⟨_, (pss_one (ps_ret (pe_cmpR op_eq (pe_callB (call_repr hg hu) (by rfl) T.z_repr (by decide +kernel) (pa_cons (pe_lst (pa_cons (pe_prop (pv 0) T.cl T.Track_length.P (ok_Track_length T) (hr.mono (by decide)) T.Track_length.b .nil pass0 rfl) (pa_cons (pe_prop (pv 0) T.cl T.Track_passes.P (ok_Track_passes T) (hr.mono (by decide)) T.Track_passes.b .nil pass0 rfl) pa_nil))) pa_nil)) (pe_callB (call_repr hg hu) (by rfl) T.z_repr (by decide +kernel) (pa_cons (pe_lst (pa_cons (pv 1) (pa_cons (pv 2) pa_nil))) pa_nil)) (nomark _)))), ?_⟩
    have hf := ht.facts
    obtain ⟨dx, t0, hx, hd0, hL, _⟩ := ht
    have sh := track_sh (by omega) hL.2 hf.2 hf.1
    have fl := passes_flat hf.1
    refine ⟨.ref x, rfl, x, dx, _, rfl, hx, x, dx, _, .int L, rfl, hx, rfl, .ref x, rfl, x, dx, _, rfl, hx, x, dx, _, .ref t0, rfl, hx, rfl, by show 2 ≤ sizeLine; decide, fun o no => ?_⟩
    have s1 := same_new (o := HO.lst [V.int L, .ref t0]) no
    refine ⟨o, o + 1, .list [.int L, .tuple ds], rfl, .lst (Nat.ne_of_lt (Nat.lt_succ_self o)) (.inl (.inl upd_same)) (.cons (.int L) (.cons (hd0.tk (.of_same s1) fl) .nil)), sh.nd, sh.sh, Nat.le_trans sh.dp (by decide), sh.shown (by decide), ?_⟩
    refine ⟨_, rfl, _, rfl, by show 2 ≤ sizeLine; decide, fun o2 no2 => ?_⟩
    have s2 := s1.trans (same_new (o := HO.lst [V.int L, .ref t]) no2)
    refine ⟨o2, o2 + 1, .list [.int L, .tuple ds], rfl, .lst (Nat.ne_of_lt (Nat.lt_succ_self o2)) (.inl (.inl upd_same)) (.cons (.int L) (.cons (hd.tk (.of_same s2) fl) .nil)), sh.nd, sh.sh, Nat.le_trans sh.dp (by decide), sh.shown (by decide), ?_⟩
    refine ⟨rfl, ?_⟩
    show Q (.bl (decide (V.str _ = V.str _))) _
    rw [decide_eq_true rfl]
    exact q _ s2
set_option maxHeartbeats 1000000 in
theorem ok_put_in (T : Txt w.params K mg) : FnOk P w K mg base CX0 1 T.put_in.f T.put_in.fd ["row", "at", "new"] (spPutIn K) := by
  refine T.put_in.F.ok scput_in (fun vs H Q E h => ?_) (fun cdv A outer s H vs Q E hr h => ?_)
  · obtain ⟨a, xs, i, x, rfl, _⟩ := h
    rfl
  · obtain ⟨a, xs, i, x, rfl, hs, lx, q⟩ := h
    refine ⟨_, (pss_one (ps_ret (pe_op op_catA (pe_op op_catA (pe_slice sl_tupA (pv 0) po_none (po_some (pv 1))) (pe_tup (pa_cons (pv 2) pa_nil))) (pe_slice sl_tupA (pv 0) (po_some (pv 1)) po_none)))), ?_⟩
    have ev := evS_cat (K := K) (evS_cat (evS_sl (tl := tNoPart) (th := tPart (tVar 1)) (evS_var (σ := [some (.ref a), some (.int (i : Nat)), some x]) (i := 0) rfl hs) (fun _ _ => part_none) fun _ _ => part_var rfl)
      (fun H' _ => evS_tup1 (te := tVar 2) (v := x) fun R h => ⟨_, rfl, h⟩) ?_) (fun H' s => evS_sl (tl := tPart (tVar 1)) (th := tNoPart) (evS_var (i := 0) rfl (s.seqT hs)) (fun _ _ => part_var rfl) fun _ _ => part_none) ?_
    · refine ev _ fun r H' s hr => q r H' s ?_
      rw [cut_to, cut_from, List.append_assoc] at hr
      exact hr
    · have := cutV_length xs none (some (i : Int))
      rw [sizeLine_eq]
      simp only [List.length_cons, List.length_nil]
      omega
    · have := cutV_length xs none (some (i : Int))
      have := cutV_length xs (some (i : Int)) none
      rw [sizeLine_eq]
      simp only [List.length_append, List.length_cons, List.length_nil]
      omega
set_option maxHeartbeats 1000000 in
theorem ok_place_of (T : Txt w.params K mg) : FnOk P w K mg base CX0 1 T.place_of.f T.place_of.fd ["passes", "name"] (spPlace K) := by
  refine T.place_of.F.ok scplace_of (fun vs H Q E h => ?_) (fun cdv A outer s H vs Q E hr h => ?_)
  · obtain ⟨p, p', x, y, ds, e, rfl, _⟩ := h
    rfl
  · obtain ⟨p, p', x, y, ds, e, rfl, hd, nm, he, q⟩ := h
    refine ⟨_, (pss_cons (ps_if (pt_val (pe_callB call_isi (by rfl) T.z_isinstance (by decide +kernel) (pa_cons (pv 1) (pa_cons (pe_bltn (v := .ty "str") (by rfl) T.z_str (by decide +kernel) rfl) pa_nil)))) (pss_one (ps_for PassesOwn.never rfl (pi_enumT (by rfl) T.z_enumerate (pa_cons (pv 0) pa_nil)) (pg_tup (by rfl) (pgs_cons (pg_name (i := 2) scplace_of.nd rfl (Or.inl rfl)) (pgs_cons (pg_name (i := 3) scplace_of.nd rfl (Or.inl rfl)) pgs_nil))) (pss_one (ps_if (pt_cmpR op_eq (pe_ix ix_tup (pv 3) pe_int (fun _ _ => rfl)) (pv 1) (nomark _)) (pss_one (ps_ret (pv 2))) pss_nil)))) pss_nil)
      (pss_one (ps_ret pe_non))), ?_⟩
    obtain ⟨a, xs, rfl, hs, ha⟩ := hd.of_tup
    have l := ha.length
    refine ⟨_, rfl, y, .ty "str", _, _, _, rfl, .ty _, he.ty, kit_ty (kit_str e), _, rfl, ite2 (fun c => ?_) (fun c => ?_)⟩
    · obtain ⟨z, rfl⟩ : ∃ z, e = .str z := by cases e <;> simp_all [isS]
      obtain rfl := he.of_str
      refine ⟨_, rfl, a, xs, rfl, hs, for_it (walk_enumT (K := K) (a := a) (xs := xs)) (fun i σ H' => ∃ (u v : Option V), σ = [some (.ref a), some (.str z), u, v] ∧ Same H H' ∧ plOf z ds 0 = plOf z (ds.drop i) i) ⟨none, none, rfl, .refl H, rfl⟩ (fun i σ H' _ h => ?_) ?_ ?_⟩
      · obtain ⟨_, _, _, sm, _⟩ := h
        exact sm.seqT hs
      · rintro i y H1 H2 H3 hi ⟨u, v, rfl, sm, ef⟩ ⟨t, u', v', rfl, ht, rfl, eu, ev⟩
        obtain rfl := Option.some.inj eu
        have hlt : i < ds.length := by omega
        obtain ⟨d1, hd1, h1⟩ := ha.get ev
        have ed : ds.drop i = d1 :: ds.drop (i + 1) := by
          rw [List.drop_eq_getElem_cons hlt]
          congr 1
          exact (List.getElem?_eq_some_iff.mp hd1).2
        rw [ed] at ef
        have s2 : Same H (upd H2 t (.tup [.int (i : Nat), v'])) := sm.new ht
        have hT : SqT K (upd H2 t (.tup [.int (i : Nat), v'])) t [.int (i : Nat), v'] := .inl (.inl upd_same)
        generalize upd H2 t (.tup [.int (i : Nat), v']) = H4 at s2 hT
        obtain ⟨w1, r1, rfl⟩ := nm d1 (List.mem_of_getElem? hd1)
        obtain ⟨b, ys, rfl, hb, hab⟩ := h1.of_tup
        obtain ⟨g1, r2, rfl, k1, _⟩ := hab.c1
        obtain rfl := k1.of_str
        have hb4 := s2.seqT hb
        refine ⟨t, _, rfl, hT, rfl, .int (i : Nat), [.ref b], rfl, .ref b, [], rfl, rfl, ?_⟩
        refine ⟨_, rfl, b, _, 0, .str w1, rfl, rfl, hb4, atI_nat (j := 0) rfl, _, rfl, rfl, _, rfl, ite2 (fun c2 => ?_) (fun c2 => ?_)⟩
        · have c3 : w1 = z := by
            have := of_decide_eq_true c2
            injection this
          have e : plOf z ds 0 = some i := by
            rw [ef]
            exact if_pos c3
          rw [show sOf (.str z) = some z from rfl, Option.bind_some, e] at q
          exact ⟨_, rfl, q H4 s2⟩
        · have c3 : ¬ w1 = z := fun h => c2 (decide_eq_true (by rw [h]))
          refine ⟨_, _, rfl, s2, ?_⟩
          rw [ef]
          exact if_neg c3
      · rintro σ H' ⟨u, v, rfl, sm, ef⟩
        have e : plOf z ds 0 = none := by
          rw [ef, List.drop_of_length_le (Nat.le_of_eq l.symm)]
          rfl
        rw [show sOf (.str z) = some z from rfl, Option.bind_some, e] at q
        exact q H' sm
    · have e2 : sOf e = none := by cases e <;> simp_all [isS, sOf]
      rw [e2] at q
      exact q H (.refl H)
set_option maxHeartbeats 1000000 in
theorem ok_Track_put (T : Txt w.params K mg) : FnOk P w K mg base CX0 9 T.Track_put.f T.Track_put.fd ["self", "one_pass", "place"] (spPut K T.C) := by
  refine T.Track_put.F.ok scTrack_put (fun vs H Q E h => ?_) (fun cdv A outer s H vs Q E hr h => ?_)
  · obtain ⟨p, x, L, ds, v, w', d, i, rfl, _⟩ := h
    rfl
  · obtain ⟨p, x, L, ds, v, w', d, i, rfl, ht, hv, hi, hw', l8, hw, hp, hn, q⟩ := h
    refine ⟨_, (pss_cons (ps_set (i := 3) scTrack_put.nd rfl (Or.inl rfl) (pe_callB call_len_seq (by rfl) T.z_len (by decide +kernel) (pa_cons (pe_fld (pv 0) rfl) pa_nil)))
      (pss_cons (ps_if (PW.pt (pw_or (pt_not (pt_val (pe_call (ok_is_pass T) (hr.mono (by decide)) (by rfl) T.is_pass.g T.is_pass.F.kp T.is_pass.b .nil pass0 (pa_cons (pv 1) (pa_cons (pe_fld (pv 0) rfl) pa_nil))))) (pw_or1 (pt_cmpR op_notN (pe_call (ok_place_of T) (hr.mono (by decide)) (by rfl) T.place_of.g T.place_of.F.kp T.place_of.b .nil pass0 (pa_cons (pe_fld (pv 0) rfl) (pa_cons (pe_ix ix_tup (pv 1) pe_int (fun _ _ => rfl)) pa_nil))) pe_non (nomark _))))) (pss_one (ps_never)) pss_nil)
      (pss_cons (ps_if (PW.pt (pw_and (pt_cmpR op_notN (pv 2) pe_non (nomark _)) (pw_and1 (pt_not (pt_val (pe_call (ok_is_between T) (hr.mono (by decide)) (by rfl) T.is_between.g T.is_between.F.kp T.is_between.b .nil pass0 (pa_cons (pv 2) (pa_cons pe_int (pa_cons (pv 3) pa_nil))))))))) (pss_one (ps_never)) pss_nil)
      (pss_cons (ps_if (pt_cmpR op_ge (pv 3) (pe_ci T.c_MOST_PASSES) (nomark _)) (pss_one (ps_never)) pss_nil)
      (pss_cons (ps_set (i := 4) scTrack_put.nd rfl (Or.inl rfl) (pe_ifExp (pt_cmpR op_isN (pv 2) pe_non (nomark _)) (pv 3) (pv 2)))
      (pss_one (ps_ret (pe_make ⟨T.makes, T.Track_init.m.at_, T.Track_init.m.fn, T.kC⟩ (ok_Track_init T) (hr.mono (by decide)) (by rfl) T.gC T.Track_init.b .nil pass0 (pa_cons (pe_fld (pv 0) rfl) (pa_cons (pe_call (ok_put_in T) (hr.mono (by decide)) (by rfl) T.put_in.g T.put_in.F.kp T.put_in.b .nil pass0 (pa_cons (pe_fld (pv 0) rfl) (pa_cons (pv 4) (pa_cons (pv 1) pa_nil)))) pa_nil)))))))))), ?_⟩
    have hf := ht.facts
    obtain ⟨dx, t, hx, hd, hL, h0⟩ := id ht
    obtain ⟨a, xs, e, hs, ha⟩ := hd.of_tup
    injection e with e
    subst e
    have l := ha.length
    refine ⟨.ref x, rfl, x, T.C, dx, _, .ref t, rfl, hx, T.cl, T.n_passes, rfl, t, xs, rfl, .inr hs, ?_⟩
    refine ⟨v, rfl, .ref x, rfl, x, T.C, dx, _, .int L, rfl, hx, T.cl, T.n_length, rfl, p, v, d, L, rfl, hv, fun H1 s1 => ⟨_, rfl, ite2 (fun c => ?_) (fun c => ?_)⟩⟩
    · rw [hp] at c
      cases c
    · have hx1 := s1 _ _ hx
      obtain ⟨z, m, f, tt, u, g, e', rfl, hz, _⟩ := passable hp
      obtain ⟨b, ys, rfl, hb, hab⟩ := hv.of_tup
      obtain ⟨x1, x2, x3, x4, x5, x6, x7, rfl, g1, _⟩ := hab.seven
      have lz : Sok z := g1.str_ok
      obtain rfl := g1.of_str
      have hb1 := s1.seqT hb
      refine ⟨.ref x, rfl, x, T.C, dx, _, .ref t, rfl, hx1, T.cl, T.n_passes, rfl, _, rfl, b, _, 0, .str z, rfl, rfl, hb1, atI_nat (j := 0) rfl, p, p, .ref t, .str z, ds, .str z, rfl, hd.same s1, named_of hf.1, .str z lz, fun H2 s2 => ?_⟩
      have hn' : plOf z ds 0 = none := hn
      rw [show sOf (.str z) = some z from rfl, Option.bind_some, hn']
      have s12 := s1.trans s2
      have hx2 := s12 _ _ hx
      refine ⟨rfl, _, rfl, ite2 (fun c => ?_) (fun c => ?_)⟩
      · exact absurd c (by simp [optV])
      · -- the place
        have key : ∀ (n : Int) (nl : n = (i : Nat)), tSeq (tRet (tMake T.C (spInit K T.C) [] E0 (tCons (tFld K (tVar 0) "_length") (tCons (tCall (spPutIn K) [] E0 (tCons (tFld K (tVar 0) "_passes") (tCons (tVar 4) (tCons (tVar 1) tNil)))) tNil)))) tNext { nx := fun _ H' => Q .non H', rt := Q } [some (.ref x), some (.ref b), some w', some (.int (xs.length : Int)), some (.int n)] H2 := by
          intro n nl
          subst nl
          refine ⟨.ref x, rfl, x, T.C, dx, _, .int L, rfl, hx2, T.cl, T.n_length, rfl, .ref x, rfl, x, T.C, dx, _, .ref t, rfl, hx2, T.cl, T.n_passes, rfl, _, rfl, _, rfl, t, xs, i, .ref b, rfl, s12.seqT hs, by omega, fun r H3 s3 h3 => ?_⟩
          intro y dy ny ndy ne
          have hd3 : Dn K p H3 (.ref r) (.tuple (ds.take i ++ PyData.tuple [.str z, m, .int f, .int tt, u, .int g, e'] :: ds.drop i)) :=
            .tup h3 (((ha.take i).append (.cons hv (ha.drop i))).same (s12.trans s3))
          have s4 : Same H3 (upd (upd H3 dy (.own y)) y (.ins T.C dy [])) := (same_new ndy).new (by rw [upd_ne (Ne.symm ne)]; exact ny)
          refine ⟨p, y, dy, r, L, _, rfl, upd_same, hd3.same s4, hL, hw, fun H5 s5 h5 => ⟨rfl, ?_⟩⟩
          have s6 : Same H3 H5 := fun b o e => s5 b o (ne_of_none e ny) (s4 b o e)
          exact q y H5 ((s12.trans s3).trans s6) ⟨dy, r, h5, hd3.same s6, hL, hw⟩
        have many : ∀ (rest : L2.St → Hp → Prop), rest [some (.ref x), some (.ref b), some w', some (.int (xs.length : Int)), none] H2 →
            tTest (tOp (rI0 fun i j => .bl (decide (j ≤ i))) (tVar 3) (tC (.int 8))) [some (.ref x), some (.ref b), some w', some (.int (xs.length : Int)), none] H2 (fun b' H' => if b' = true then False else rest [some (.ref x), some (.ref b), some w', some (.int (xs.length : Int)), none] H') := by
          intro rest h
          refine ⟨_, rfl, _, _, rfl, rfl, _, rfl, ite2 (fun c => ?_) (fun c => h)⟩
          have := of_decide_eq_true c
          omega
        rcases hw' with rfl | ⟨rfl, rfl⟩
        · refine ⟨_, rfl, rfl, _, rfl, ite2 (fun c => ?_) (fun c => absurd (by simp) c)⟩
          refine ⟨_, rfl, _, rfl, p, .int (i : Nat), .int (i : Nat), 0, _, rfl, .int _, _, rfl, ite2 (fun c => ?_) (fun c => ?_)⟩
          · exfalso
            simp [btw] at c
            omega
          · refine many _ ?_
            refine ⟨_, rfl, rfl, _, rfl, ite2 (fun c => absurd c (by simp)) (fun c => ?_)⟩
            exact ⟨_, rfl, key _ rfl⟩
        · refine ⟨_, rfl, rfl, _, rfl, ite2 (fun c => absurd c (by simp)) (fun c => ?_)⟩
          refine iteF (many _ ?_)
          refine ⟨_, rfl, rfl, _, rfl, ite2 (fun c => ?_) (fun c => absurd (by simp) c)⟩
          exact ⟨_, rfl, key _ (by omega)⟩
set_option maxHeartbeats 1000000 in
theorem ok_law_put_right (T : Txt w.params K mg) : FnG P w K mg base CX0 10 T.law_put_right.f T.law_put_right.fd ["mine", "fader"] (spPutRight K T.C) := by
  refine T.law_put_right.F.okN sclaw_put_right (fun vs H Q E h => ?_) (fun cdv A outer s H vs Q E hg hr h => ?_)
  · obtain ⟨p, x, L, ds, v, d, rfl, _⟩ := h
    rfl
  · obtain ⟨p, x, L, ds, v, d, rfl, ht, l8, hv, hp, hn, q⟩ := h
    have hu := hr.units
    obtain ⟨its1, hv1, hb1⟩ := T.Track_put.b1; obtain ⟨_, kb_a⟩ := KB_put_a T; obtain ⟨_, kb_b⟩ := KB_put_b T
    refine ⟨_, (pss_cons (ps_par (i := 2) (j := 3) (by rfl) sclaw_put_right.nd rfl rfl (by decide) rfl rfl (pa_cons (pe_prop (pv 0) T.cl T.Track_length.P (ok_Track_length T) (hr.mono (by decide)) T.Track_length.b .nil pass0 rfl) (pa_cons (pe_prop (pv 0) T.cl T.Track_passes.P (ok_Track_passes T) (hr.mono (by decide)) T.Track_passes.b .nil pass0 rfl) pa_nil)) (by rfl))
      (pss_cons (ps_for PassesOwn.never rfl (pi_range1 (by rfl) T.z_range (pa_cons (pe_op op_add (pe_callB call_len_seq (by rfl) T.z_len (by decide +kernel) (pa_cons (pv 3) pa_nil)) pe_int) pa_nil)) (pg_name (i := 4) sclaw_put_right.nd rfl (Or.inl rfl)) (pss_cons (ps_set (i := 5) sclaw_put_right.nd rfl (Or.inl rfl) (pe_op op_catA (pe_op op_catA (pe_slice sl_tupA (pv 3) po_none (po_some (pv 4))) (pe_tup (pa_cons (pv 1) pa_nil))) (pe_slice sl_tupA (pv 3) (po_some (pv 4)) po_none)))
      (pss_one (ps_for PassesOwn.never rfl (pi_list (pe_lst (pa_cons (pe_meth (pv 0) T.cl T.Track_put.m (ok_Track_put T) (hr.mono (by decide)) T.Track_put.b .nil pass0 (pa_cons (pv 1) (pa_cons (pv 4) pa_nil))) (pa_cons (pe_methK0 (ks := ["place", "one_pass"]) (pv 0) T.cl T.Track_put.m (ok_Track_put T) (hr.mono (by decide)) kb_a pass0 (pk_cons (pv 4) (pk_cons (pv 1) pk_nil))) pa_nil)))) (pg_name (i := 6) sclaw_put_right.nd rfl (Or.inl rfl)) (pss_one (ps_if (pt_not (pt_val (pe_callG hg (ok_law_same T) (hr.mono (by decide)) (by rfl) T.law_same.g T.law_same.F.kp T.law_same.b .nil pass0 (pa_cons (pv 6) (pa_cons (pv 2) (pa_cons (pv 5) pa_nil)))))) (pss_one (ps_ret pe_bl)) pss_nil))))))
      (pss_cons (ps_for PassesOwn.never rfl (pi_list (pe_lst (pa_cons (pe_meth (pv 0) T.cl T.Track_put.m (ok_Track_put T) (hr.mono (by decide)) hb1 hv1 pass0 (pa_cons (pv 1) pa_nil)) (pa_cons (pe_meth (pv 0) T.cl T.Track_put.m (ok_Track_put T) (hr.mono (by decide)) T.Track_put.b .nil pass0 (pa_cons (pv 1) (pa_cons pe_non pa_nil))) (pa_cons (pe_methK0 (ks := ["one_pass", "place"]) (pv 0) T.cl T.Track_put.m (ok_Track_put T) (hr.mono (by decide)) kb_b pass0 (pk_cons (pv 1) (pk_cons pe_non pk_nil))) pa_nil))))) (pg_name (i := 6) sclaw_put_right.nd rfl (Or.inl rfl)) (pss_one (ps_if (pt_not (pt_val (pe_callG hg (ok_law_same T) (hr.mono (by decide)) (by rfl) T.law_same.g T.law_same.F.kp T.law_same.b .nil pass0 (pa_cons (pv 6) (pa_cons (pv 2) (pa_cons (pe_op op_catA (pv 3) (pe_tup (pa_cons (pv 1) pa_nil))) pa_nil)))))) (pss_one (ps_ret pe_bl)) pss_nil)))
      (pss_one (ps_ret pe_bl))))), ?_⟩
    have hf := ht.facts
    have hr0 := ht.right
    have npl : plOf (nameOf d) ds 0 = none := plOf_none hn
    obtain ⟨dx, t, hx, hd, hL, h0⟩ := id ht
    obtain ⟨a, xs, e, hs, ha⟩ := hd.of_tup
    injection e with e
    subst e
    have l := ha.length
    refine ⟨.ref x, rfl, x, dx, _, rfl, hx, x, dx, _, .int L, rfl, hx, rfl, .ref x, rfl, x, dx, _, rfl, hx, x, dx, _, .ref t, rfl, hx, rfl, _, _, rfl, ?_⟩
    refine ⟨_, rfl, t, xs, rfl, .inr hs, _, _, rfl, rfl, _, rfl, ?_, ?_, for_range (lo := 0) (n := xs.length + 1) (fun i σ H' => ∃ y5 y6 y7, σ = [some (.ref x), some v, some (.int L), some (.ref t), y5, y6, y7] ∧ Same H H') ⟨_, _, _, rfl, .refl H⟩ ?_ ?_⟩
    · omega
    · omega
    · rintro i σ H1 hi ⟨y5, y6, y7, rfl, s1⟩
      rw [Int.zero_add]
      refine evS_put (σ := [some (.ref x), some v, some (.int L), some (.ref t), some (.int (i : Nat)), y6, y7]) (i := i) (m := 3) rfl (s1.seqT hs) (fun _ _ => part_var rfl) (fun _ _ _ h => ⟨_, rfl, h⟩) (by omega) _ fun D1 H2 s2 hD => ?_
      have s02 := s1.trans s2
      have fw := fw_put i hr0 l8 hp hn
      have put : ∀ {H'} (s : Same H H') {Q' : VK}, NewTrk K T.C p H' L (ds.take i ++ d :: ds.drop i) Q' → spPut K T.C [.ref x, v, .int (i : Nat)] H' Q' E0 := fun {H'} s {Q'} h => ⟨p, x, L, ds, v, _, d, i, rfl, ht.same s, hv.same s, by omega, .inl rfl, l8, fw, hp, npl, h⟩
      refine ⟨.ref x, rfl, x, dx, _, rfl, s02 _ _ hx, rfl, _, rfl, _, rfl, put s02 fun m1 H3 s3 t1 => ?_⟩
      have s03 := s02.trans s3
      refine ⟨.ref x, rfl, x, dx, _, rfl, s03 _ _ hx, rfl, _, rfl, _, rfl, rfl, rfl, put s03 fun m2 H4 s4 t2 => ?_⟩
      have s04 := s03.trans s4
      refine ⟨by show 2 ≤ sizeLine; decide, fun o no => ?_⟩
      have s5 := same_new (o := HO.lst [V.ref m1, .ref m2]) no
      refine ⟨o, rfl, ⟨_, SqL.of upd_same⟩, for_mates (p := p) (m := 6) (l := 2) (ys := [m1, m2]) (es := ds.take i ++ d :: ds.drop i) (L := L) (y0 := y7) rfl (by simp) (by decide) rfl (.inl (.inl upd_same)) ?_ ?_ ?_⟩
      · intro y hy
        rcases List.mem_cons.mp hy with rfl | hy
        · exact t1.same (s4.trans s5)
        · obtain rfl := List.mem_singleton.mp hy
          exact t2.same s5
      · intro y H' s Q' h
        refine ⟨_, rfl, h D1 H' (.refl _) (.tup ((((s3.trans s4).trans s5).trans s).seqT hD) (((ha.take i).append (.cons hv (ha.drop i))).same ((s04.trans s5).trans s)))⟩
      · intro y H' s
        exact ⟨_, _, _, rfl, (s04.trans s5).trans s⟩
    · rintro σ H1 ⟨y5, y6, y7, rfl, s1⟩
      have fw : firstWrong L (ds ++ [d]) 0 [] = none := by
        have := fw_put ds.length hr0 l8 hp hn
        rwa [List.take_length, List.drop_length] at this
      have put : ∀ {H'} (s : Same H H') {Q' : VK}, NewTrk K T.C p H' L (ds ++ [d]) Q' → spPut K T.C [.ref x, v, .non] H' Q' E0 := fun {H'} s {Q'} h => ⟨p, x, L, ds, v, _, d, ds.length, rfl, ht.same s, hv.same s, Nat.le_refl _, .inr ⟨rfl, rfl⟩, l8, by rw [List.take_length, List.drop_length]; exact fw, hp, npl, by rw [List.take_length, List.drop_length]; exact h⟩
      refine ⟨.ref x, rfl, x, dx, _, rfl, s1 _ _ hx, rfl, _, rfl, put s1 fun m1 H2 s2 t1 => ?_⟩
      have s02 := s1.trans s2
      refine ⟨.ref x, rfl, x, dx, _, rfl, s02 _ _ hx, rfl, _, rfl, put s02 fun m2 H3 s3 t2 => ?_⟩
      have s03 := s02.trans s3
      refine ⟨.ref x, rfl, x, dx, _, rfl, s03 _ _ hx, rfl, _, rfl, rfl, rfl, put s03 fun m3 H4 s4 t3 => ?_⟩
      have s04 := s03.trans s4
      refine ⟨by show 3 ≤ sizeLine; decide, fun o no => ?_⟩
      have s5 := same_new (o := HO.lst [V.ref m1, .ref m2, .ref m3]) no
      refine ⟨o, rfl, ⟨_, SqL.of upd_same⟩, for_mates (p := p) (m := 6) (l := 2) (ys := [m1, m2, m3]) (es := ds ++ [d]) (L := L) (y0 := y7) rfl (by simp) (by decide) rfl (.inl (.inl upd_same)) ?_ ?_ ?_⟩
      · intro y hy
        rcases List.mem_cons.mp hy with rfl | hy
        · exact t1.same ((s3.trans s4).trans s5)
        rcases List.mem_cons.mp hy with rfl | hy
        · exact t2.same (s4.trans s5)
        · obtain rfl := List.mem_singleton.mp hy
          exact t3.same s5
      · intro y H' s Q' h
        have s06 := (s04.trans s5).trans s
        refine evS_cat (evS_var (i := 3) rfl (s06.seqT hs)) (fun H'' _ => evS_tup1 (te := tVar 1) (v := v) fun R h => ⟨_, rfl, h⟩) (by rw [sizeLine_eq]; simp only [List.length_cons, List.length_nil]; omega) _ fun r H'' s7 hr => ?_
        exact h r H'' s7 (.tup hr ((ha.append (.cons hv .nil)).same (s06.trans s7)))
      · intro y H' s
        exact q H' ((s04.trans s5).trans s)
set_option maxHeartbeats 1000000 in
theorem ok_Track_known_place (T : Txt w.params K mg) : FnOk P w K mg base CX0 3 T.Track_known_place.f T.Track_known_place.fd ["self", "name"] (spKnown K T.C) := by
  refine T.Track_known_place.F.ok scTrack_known_place (fun vs H Q E h => ?_) (fun cdv A outer s H vs Q E hr h => ?_)
  · obtain ⟨p, x, L, ds, z, i, rfl, _⟩ := h
    rfl
  · obtain ⟨p, x, L, ds, z, i, rfl, lz, ht, hi, q⟩ := h
    refine ⟨_, (pss_cons (ps_set (i := 2) scTrack_known_place.nd rfl (Or.inl rfl) (pe_call (ok_place_of T) (hr.mono (by decide)) (by rfl) T.place_of.g T.place_of.F.kp T.place_of.b .nil pass0 (pa_cons (pe_fld (pv 0) rfl) (pa_cons (pv 1) pa_nil))))
      (pss_cons (ps_if (pt_cmpR op_isN (pv 2) pe_non (nomark _)) (pss_one (ps_never)) pss_nil)
      (pss_one (ps_ret (pv 2))))), ?_⟩
    have hf := ht.facts
    obtain ⟨dx, t, hx, hd, hL, _⟩ := ht
    refine ⟨.ref x, rfl, x, T.C, dx, _, .ref t, rfl, hx, T.cl, T.n_passes, rfl, _, rfl, p, p, .ref t, .str z, ds, .str z, rfl, hd, named_of hf.1, .str z lz, fun H1 s1 => ?_⟩
    rw [show sOf (.str z) = some z from rfl, Option.bind_some, hi]
    refine ⟨_, rfl, rfl, _, rfl, ite2 (fun c => ?_) (fun c => ?_)⟩
    · exact absurd c (by simp [optV])
    · exact ⟨_, rfl, q H1 s1⟩
set_option maxHeartbeats 1000000 in
theorem ok_taken_out (T : Txt w.params K mg) : FnOk P w K mg base CX0 1 T.taken_out.f T.taken_out.fd ["row", "at"] (spTakenOut K) := by
  refine T.taken_out.F.ok sctaken_out (fun vs H Q E h => ?_) (fun cdv A outer s H vs Q E hr h => ?_)
  · obtain ⟨a, xs, i, rfl, _⟩ := h
    rfl
  · obtain ⟨a, xs, i, rfl, hs, lx, q⟩ := h
    refine ⟨_, (pss_one (ps_ret (pe_op op_catA (pe_slice sl_tupA (pv 0) po_none (po_some (pv 1))) (pe_slice sl_tupA (pv 0) (po_some (pe_op op_add (pv 1) pe_int)) po_none)))), ?_⟩
    have ev := evS_cat (K := K) (evS_sl (tl := tNoPart) (th := tPart (tVar 1)) (evS_var (σ := [some (.ref a), some (.int (i : Nat))]) (i := 0) rfl hs) (fun _ _ => part_none) fun _ _ => part_var rfl)
      (fun H' s => evS_sl (tl := tPart (tOp (rI0 fun i j => .int (i + j)) (tVar 1) (tC (.int 1)))) (th := tNoPart) (evS_var (i := 0) rfl (s.seqT hs)) (fun _ _ => part_succ rfl) fun _ _ => part_none) ?_
    · refine ev _ fun r H' s hr => q r H' s ?_
      rw [cut_to, show ((i : Nat) : Int) + 1 = ((i + 1 : Nat) : Int) by omega, cut_from] at hr
      exact hr
    · have := cutV_length xs none (some (i : Int))
      have := cutV_length xs (some ((i : Int) + 1)) none
      rw [sizeLine_eq]
      omega
set_option maxHeartbeats 1000000 in
theorem ok_Track_moved (T : Txt w.params K mg) : FnOk P w K mg base CX0 9 T.Track_moved.f T.Track_moved.fd ["self", "name", "place"] (spMoved K T.C) := by
  refine T.Track_moved.F.ok scTrack_moved (fun vs H Q E h => ?_) (fun cdv A outer s H vs Q E hr h => ?_)
  · obtain ⟨p, x, L, ds, z, i, j, d, rfl, _⟩ := h
    rfl
  · obtain ⟨p, x, L, ds, z, i, j, d, rfl, lz, ht, hi, hdi, hj, hw, q⟩ := h
    refine ⟨_, (pss_cons (ps_set (i := 3) scTrack_moved.nd rfl (Or.inl rfl) (pe_meth (pv 0) T.cl T.Track_known_place.m (ok_Track_known_place T) (hr.mono (by decide)) T.Track_known_place.b .nil pass0 (pa_cons (pv 1) pa_nil)))
      (pss_cons (ps_if (pt_not (pt_val (pe_call (ok_is_between T) (hr.mono (by decide)) (by rfl) T.is_between.g T.is_between.F.kp T.is_between.b .nil pass0 (pa_cons (pv 2) (pa_cons pe_int (pa_cons (pe_op op_sub (pe_callB call_len_seq (by rfl) T.z_len (by decide +kernel) (pa_cons (pe_fld (pv 0) rfl) pa_nil)) pe_int) pa_nil)))))) (pss_one (ps_never)) pss_nil)
      (pss_one (ps_ret (pe_make ⟨T.makes, T.Track_init.m.at_, T.Track_init.m.fn, T.kC⟩ (ok_Track_init T) (hr.mono (by decide)) (by rfl) T.gC T.Track_init.b .nil pass0 (pa_cons (pe_fld (pv 0) rfl) (pa_cons (pe_call (ok_put_in T) (hr.mono (by decide)) (by rfl) T.put_in.g T.put_in.F.kp T.put_in.b .nil pass0 (pa_cons (pe_call (ok_taken_out T) (hr.mono (by decide)) (by rfl) T.taken_out.g T.taken_out.F.kp T.taken_out.b .nil pass0 (pa_cons (pe_fld (pv 0) rfl) (pa_cons (pv 3) pa_nil))) (pa_cons (pv 2) (pa_cons (pe_ix ix_tup (pe_fld (pv 0) rfl) (pv 3) (fun _ _ => rfl)) pa_nil)))) pa_nil))))))), ?_⟩
    have hf := ht.facts
    obtain ⟨dx, t, hx, hd, hL, h0⟩ := id ht
    obtain ⟨_, il, _⟩ := place_lt hi
    refine ⟨.ref x, rfl, x, dx, _, rfl, hx, rfl, _, rfl, p, x, L, ds, z, i, rfl, lz, ht, hi, fun H1 s1 => ?_⟩
    have hx1 := s1 _ _ hx
    obtain ⟨a, xs, e, hs, ha⟩ := (hd.same s1).of_tup
    injection e with e
    subst e
    have l := ha.length
    refine ⟨_, rfl, .ref x, rfl, x, T.C, dx, _, .ref t, rfl, hx1, T.cl, T.n_passes, rfl, t, xs, rfl, .inr hs, _, _, rfl, rfl, p, .int j, .int j, 0, _, rfl, .int _, _, rfl, ite2 (fun c => ?_) (fun c => ?_)⟩
    · exfalso
      simp [btw] at c
      omega
    · refine ⟨.ref x, rfl, x, T.C, dx, _, .int L, rfl, hx1, T.cl, T.n_length, rfl, .ref x, rfl, x, T.C, dx, _, .ref t, rfl, hx1, T.cl, T.n_passes, rfl, _, rfl, t, xs, i, rfl, hs, by omega, fun r H2 s2 h2 => ?_⟩
      have hx2 := s2 _ _ hx1
      obtain ⟨v, hv, kv⟩ := ha.getD hdi
      refine ⟨_, rfl, .ref x, rfl, x, T.C, dx, _, .ref t, rfl, hx2, T.cl, T.n_passes, rfl, _, rfl, t, xs, i, v, rfl, rfl, s2.seqT hs, atI_nat hv, r, _, j, v, rfl, h2, ?_, fun r2 H3 s3 h3 => ?_⟩
      · rw [List.length_append, List.length_take, List.length_drop]
        omega
      · intro y dy ny ndy ne
        have hb : DnAll K p H1 (xs.take i ++ xs.drop (i + 1)) (ds.take i ++ ds.drop (i + 1)) := (ha.take i).append (ha.drop (i + 1))
        have hd3 : Dn K p H3 (.ref r2) (.tuple ((ds.take i ++ ds.drop (i + 1)).take j ++ d :: (ds.take i ++ ds.drop (i + 1)).drop j)) :=
          .tup h3 (((hb.take j).append (.cons kv (hb.drop j))).same (s2.trans s3))
        have s4 : Same H3 (upd (upd H3 dy (.own y)) y (.ins T.C dy [])) := (same_new ndy).new (by rw [upd_ne (Ne.symm ne)]; exact ny)
        refine ⟨p, y, dy, r2, L, _, rfl, upd_same, hd3.same s4, hL, hw, fun H5 s5 h5 => ⟨rfl, ?_⟩⟩
        have s6 : Same H3 H5 := fun b o e => s5 b o (ne_of_none e ny) (s4 b o e)
        exact q y H5 (((s1.trans s2).trans s3).trans s6) ⟨dy, r2, h5, hd3.same s6, hL, hw⟩
set_option maxHeartbeats 1000000 in
theorem ok_Track_without (T : Txt w.params K mg) : FnOk P w K mg base CX0 9 T.Track_without.f T.Track_without.fd ["self", "name"] (spWithout K T.C) := by
  refine T.Track_without.F.ok scTrack_without (fun vs H Q E h => ?_) (fun cdv A outer s H vs Q E hr h => ?_)
  · obtain ⟨p, x, L, ds, z, i, rfl, _⟩ := h
    rfl
  · obtain ⟨p, x, L, ds, z, i, rfl, lz, ht, hi, hw, q⟩ := h
    refine ⟨_, (pss_one (ps_ret (pe_make ⟨T.makes, T.Track_init.m.at_, T.Track_init.m.fn, T.kC⟩ (ok_Track_init T) (hr.mono (by decide)) (by rfl) T.gC T.Track_init.b .nil pass0 (pa_cons (pe_fld (pv 0) rfl) (pa_cons (pe_call (ok_taken_out T) (hr.mono (by decide)) (by rfl) T.taken_out.g T.taken_out.F.kp T.taken_out.b .nil pass0 (pa_cons (pe_fld (pv 0) rfl) (pa_cons (pe_meth (pv 0) T.cl T.Track_known_place.m (ok_Track_known_place T) (hr.mono (by decide)) T.Track_known_place.b .nil pass0 (pa_cons (pv 1) pa_nil)) pa_nil))) pa_nil))))), ?_⟩
    have hf := ht.facts
    obtain ⟨dx, t, hx, hd, hL, h0⟩ := id ht
    obtain ⟨_, il, _⟩ := place_lt hi
    refine ⟨.ref x, rfl, x, T.C, dx, _, .int L, rfl, hx, T.cl, T.n_length, rfl, .ref x, rfl, x, T.C, dx, _, .ref t, rfl, hx, T.cl, T.n_passes, rfl, .ref x, rfl, x, dx, _, rfl, hx, rfl, _, rfl, p, x, L, ds, z, i, rfl, lz, ht, hi, fun H1 s1 => ?_⟩
    obtain ⟨a, xs, e, hs, ha⟩ := (hd.same s1).of_tup
    injection e with e
    subst e
    have l := ha.length
    refine ⟨t, xs, i, rfl, hs, by omega, fun r H2 s2 h2 => ?_⟩
    intro y dy ny ndy ne
    have hd2 : Dn K p H2 (.ref r) (.tuple (ds.take i ++ ds.drop (i + 1))) := .tup h2 (((ha.take i).append (ha.drop (i + 1))).same s2)
    have s3 : Same H2 (upd (upd H2 dy (.own y)) y (.ins T.C dy [])) := (same_new ndy).new (by rw [upd_ne (Ne.symm ne)]; exact ny)
    refine ⟨p, y, dy, r, L, _, rfl, upd_same, hd2.same s3, hL, hw, fun H4 s4 h4 => ⟨rfl, ?_⟩⟩
    have s5 : Same H2 H4 := fun b o e => s4 b o (ne_of_none e ny) (s3 b o e)
    exact q y H4 ((s1.trans s2).trans s5) ⟨dy, r, h4, hd2.same s5, hL, hw⟩
set_option maxHeartbeats 1000000 in
theorem ok_law_turned_right (T : Txt w.params K mg) : FnG P w K mg base CX0 10 T.law_turned_right.f T.law_turned_right.fd ["mine"] (spTurnedRight K T.C) := by
  refine T.law_turned_right.F.okN sclaw_turned_right (fun vs H Q E h => ?_) (fun cdv A outer s H vs Q E hg hr h => ?_)
  · obtain ⟨p, x, L, ds, rfl, _⟩ := h
    rfl
  · obtain ⟨p, x, L, ds, rfl, ht, q⟩ := h
    have hu := hr.units
    refine ⟨_, (pss_cons (ps_par (i := 1) (j := 2) (by rfl) sclaw_turned_right.nd rfl rfl (by decide) rfl rfl (pa_cons (pe_prop (pv 0) T.cl T.Track_length.P (ok_Track_length T) (hr.mono (by decide)) T.Track_length.b .nil pass0 rfl) (pa_cons (pe_prop (pv 0) T.cl T.Track_passes.P (ok_Track_passes T) (hr.mono (by decide)) T.Track_passes.b .nil pass0 rfl) pa_nil)) (by rfl))
      (pss_cons (ps_for PassesOwn.never rfl (pi_range1 (by rfl) T.z_range (pa_cons (pe_callB call_len_seq (by rfl) T.z_len (by decide +kernel) (pa_cons (pv 2) pa_nil)) pa_nil)) (pg_name (i := 3) sclaw_turned_right.nd rfl (Or.inl rfl)) (pss_cons (ps_par (i := 4) (j := 5) (by rfl) sclaw_turned_right.nd rfl rfl (by decide) rfl rfl (pa_cons (pe_ix ix_tup (pe_ix ix_tup (pv 2) (pv 3) (fun _ _ => rfl)) pe_int (fun _ _ => rfl)) (pa_cons (pe_op op_catA (pe_slice sl_tupA (pv 2) po_none (po_some (pv 3))) (pe_slice sl_tupA (pv 2) (po_some (pe_op op_add (pv 3) pe_int)) po_none)) pa_nil)) (by rfl))
      (pss_cons (ps_if (PW.pt (pw_or (pt_not (pt_val (pe_callG hg (ok_law_same T) (hr.mono (by decide)) (by rfl) T.law_same.g T.law_same.F.kp T.law_same.b .nil pass0 (pa_cons (pe_meth (pv 0) T.cl T.Track_without.m (ok_Track_without T) (hr.mono (by decide)) T.Track_without.b .nil pass0 (pa_cons (pv 4) pa_nil)) (pa_cons (pv 1) (pa_cons (pv 5) pa_nil)))))) (pw_or1 (pt_not (pt_val (pe_callG hg (ok_law_same T) (hr.mono (by decide)) (by rfl) T.law_same.g T.law_same.F.kp T.law_same.b .nil pass0 (pa_cons (pe_methK0 (ks := ["name"]) (pv 0) T.cl T.Track_without.m (ok_Track_without T) (hr.mono (by decide)) (KB_without T) pass0 (pk_cons (pv 4) pk_nil)) (pa_cons (pv 1) (pa_cons (pv 5) pa_nil))))))))) (pss_one (ps_ret pe_bl)) pss_nil)
      (pss_one (ps_for PassesOwn.never rfl (pi_range1 (by rfl) T.z_range (pa_cons (pe_callB call_len_seq (by rfl) T.z_len (by decide +kernel) (pa_cons (pv 2) pa_nil)) pa_nil)) (pg_name (i := 6) sclaw_turned_right.nd rfl (Or.inl rfl)) (pss_cons (ps_set (i := 7) sclaw_turned_right.nd rfl (Or.inl rfl) (pe_op op_catA (pe_op op_catA (pe_slice sl_tupA (pv 5) po_none (po_some (pv 6))) (pe_tup (pa_cons (pe_ix ix_tup (pv 2) (pv 3) (fun _ _ => rfl)) pa_nil))) (pe_slice sl_tupA (pv 5) (po_some (pv 6)) po_none)))
      (pss_one (ps_for PassesOwn.never rfl (pi_list (pe_lst (pa_cons (pe_meth (pv 0) T.cl T.Track_moved.m (ok_Track_moved T) (hr.mono (by decide)) T.Track_moved.b .nil pass0 (pa_cons (pv 4) (pa_cons (pv 6) pa_nil))) (pa_cons (pe_methK0 (ks := ["place", "name"]) (pv 0) T.cl T.Track_moved.m (ok_Track_moved T) (hr.mono (by decide)) (KB_moved T) pass0 (pk_cons (pv 6) (pk_cons (pv 4) pk_nil))) pa_nil)))) (pg_name (i := 8) sclaw_turned_right.nd rfl (Or.inl rfl)) (pss_one (ps_if (pt_not (pt_val (pe_callG hg (ok_law_same T) (hr.mono (by decide)) (by rfl) T.law_same.g T.law_same.F.kp T.law_same.b .nil pass0 (pa_cons (pv 8) (pa_cons (pv 1) (pa_cons (pv 7) pa_nil)))))) (pss_one (ps_ret pe_bl)) pss_nil))))))))))
      (pss_one (ps_ret pe_bl)))), ?_⟩
    have hf := ht.facts
    have hr0 := ht.right
    obtain ⟨dx, t, hx, hd, hL, h0⟩ := id ht
    obtain ⟨a, xs, e, hs, ha⟩ := hd.of_tup
    injection e with e
    subst e
    have l := ha.length
    refine ⟨.ref x, rfl, x, dx, _, rfl, hx, x, dx, _, .int L, rfl, hx, rfl, .ref x, rfl, x, dx, _, rfl, hx, x, dx, _, .ref t, rfl, hx, rfl, _, _, rfl, ?_⟩
    refine ⟨_, rfl, t, xs, rfl, .inr hs, _, rfl, ?_, ?_, for_range (lo := 0) (n := xs.length) (fun i σ H' => ∃ y3 y4 y5 y6 y7 y8, σ = [some (.ref x), some (.int L), some (.ref t), y3, y4, y5, y6, y7, y8] ∧ Same H H') ⟨_, _, _, _, _, _, rfl, .refl H⟩ ?_ ?_⟩
    · omega
    · omega
    · rintro i σ H1 hi ⟨y3, y4, y5, y6, y7, y8, rfl, s1⟩
      rw [Int.zero_add]
      obtain ⟨b, ys, z, es, hb, hdi, hsb, hab, lz, hnm, l7, _, _⟩ := row_at ha hf.1 hi
      have hpl : plOf z ds 0 = some i := by
        have := plOf_at (i := 0) ht.nodup hdi
        rw [hnm, Nat.zero_add] at this
        exact this
      refine ⟨_, rfl, _, rfl, t, xs, i, .ref b, rfl, rfl, s1.seqT hs, atI_nat hb, b, _, 0, .str z, rfl, rfl, s1.seqT hsb, atI_nat (j := 0) rfl, ?_⟩
      refine evS_out (i := i) (m := 2) (n := 3) rfl rfl (s1.seqT hs) (by omega) _ fun R1 H2 s2 hR => ⟨_, _, rfl, ?_⟩
      have s02 := s1.trans s2
      have fwo := fw_without hr0 hdi
      have hD : ∀ {H'}, Same H2 H' → Dn K p H' (.ref R1) (.tuple (ds.take i ++ ds.drop (i + 1))) := fun {H'} s => .tup (s.seqT hR) (((ha.take i).append (ha.drop (i + 1))).same (s02.trans s))
      have out : ∀ {H'} (s : Same H H') {Q' : VK}, NewTrk K T.C p H' L (ds.take i ++ ds.drop (i + 1)) Q' → spWithout K T.C [.ref x, .str z] H' Q' E0 := fun {H'} s {Q'} h => ⟨p, x, L, ds, z, i, rfl, lz, ht.same s, hpl, fwo, h⟩
      refine ⟨.ref x, rfl, x, dx, _, rfl, s02 _ _ hx, rfl, _, rfl, out s02 fun m1 H3 s3 t1 => ⟨_, rfl, _, rfl, p, m1, R1, L, _, rfl, t1, hD s3, fun H4 s4 => ⟨true, rfl, iteF ?_⟩⟩⟩
      have s04 := (s02.trans s3).trans s4
      refine ⟨.ref x, rfl, x, dx, _, rfl, s04 _ _ hx, rfl, _, rfl, rfl, rfl, out s04 fun m2 H5 s5 t2 => ⟨_, rfl, _, rfl, p, m2, R1, L, _, rfl, t2, hD ((s3.trans s4).trans s5), fun H6 s6 => ⟨true, rfl, iteF ?_⟩⟩⟩
      have s26 := ((s3.trans s4).trans s5).trans s6
      have s06 := s02.trans s26
      refine ⟨_, rfl, t, xs, rfl, .inr (s06.seqT hs), _, rfl, ?_, ?_, for_range (lo := 0) (n := xs.length) (fun j σ H' => ∃ y6 y7 y8, σ = [some (.ref x), some (.int L), some (.ref t), some (.int (i : Nat)), some (.str z), some (.ref R1), y6, y7, y8] ∧ Same H6 H') ⟨_, _, _, rfl, .refl H6⟩ ?_ ?_⟩
      · omega
      · omega
      · rintro j σ H7 hj ⟨z6, z7, z8, rfl, s7⟩
        rw [Int.zero_add]
        have s07 := s06.trans s7
        have lr : (xs.take i ++ xs.drop (i + 1)).length ≤ 1000 := by
          rw [List.length_append, List.length_take, List.length_drop]
          omega
        refine evS_put (σ := [some (.ref x), some (.int L), some (.ref t), some (.int (i : Nat)), some (.str z), some (.ref R1), some (.int (j : Nat)), z7, z8]) (i := j) (m := 5) (v := .ref b) rfl ((s26.trans s7).seqT hR) (fun _ _ => part_var rfl) (fun H' s R h => ⟨_, rfl, _, rfl, t, xs, i, .ref b, rfl, rfl, (s07.trans s).seqT hs, atI_nat hb, h⟩) lr _ fun D1 H8 s8 hD1 => ?_
        have s08 := s07.trans s8
        have fwm := fw_moved (j := j) hr0 hdi
        have mov : ∀ {H'} (s : Same H H') {Q' : VK}, NewTrk K T.C p H' L ((ds.take i ++ ds.drop (i + 1)).take j ++ .tuple (.str z :: es) :: (ds.take i ++ ds.drop (i + 1)).drop j) Q' → spMoved K T.C [.ref x, .str z, .int (j : Nat)] H' Q' E0 := fun {H'} s {Q'} h => ⟨p, x, L, ds, z, i, j, _, rfl, lz, ht.same s, hpl, hdi, by omega, fwm, h⟩
        refine ⟨.ref x, rfl, x, dx, _, rfl, s08 _ _ hx, rfl, _, rfl, _, rfl, mov s08 fun m1 H9 s9 t1 => ?_⟩
        have s09 := s08.trans s9
        refine ⟨.ref x, rfl, x, dx, _, rfl, s09 _ _ hx, rfl, _, rfl, _, rfl, rfl, rfl, mov s09 fun m2 HA sA t2 => ?_⟩
        have s0A := s09.trans sA
        refine ⟨by show 2 ≤ sizeLine; decide, fun o no => ?_⟩
        have sB := same_new (o := HO.lst [V.ref m1, .ref m2]) no
        have hbd : DnAll K p H (xs.take i ++ xs.drop (i + 1)) (ds.take i ++ ds.drop (i + 1)) := (ha.take i).append (ha.drop (i + 1))
        obtain ⟨vb, hvb, kb⟩ := ha.getD hdi
        rw [hb] at hvb
        injection hvb with hvb
        subst hvb
        refine ⟨o, rfl, ⟨_, SqL.of upd_same⟩, for_mates (p := p) (m := 8) (l := 1) (ys := [m1, m2]) (es := (ds.take i ++ ds.drop (i + 1)).take j ++ .tuple (.str z :: es) :: (ds.take i ++ ds.drop (i + 1)).drop j) (L := L) (y0 := z8) rfl (by simp) (by decide) rfl (.inl (.inl upd_same)) ?_ ?_ ?_⟩
        · intro y hy
          rcases List.mem_cons.mp hy with rfl | hy
          · exact t1.same (sA.trans sB)
          · obtain rfl := List.mem_singleton.mp hy
            exact t2.same sB
        · intro y H' s Q' h
          exact ⟨_, rfl, h D1 H' (.refl _) (.tup ((((s9.trans sA).trans sB).trans s).seqT hD1) (((hbd.take j).append (.cons kb (hbd.drop j))).same ((s0A.trans sB).trans s)))⟩
        · intro y H' s
          exact ⟨_, _, _, rfl, (((s7.trans s8).trans s9).trans sA).trans (sB.trans s)⟩
      · rintro σ H7 ⟨z6, z7, z8, rfl, s7⟩
        exact ⟨_, _, _, _, _, _, rfl, s06.trans s7⟩
    · rintro σ H1 ⟨y3, y4, y5, y6, y7, y8, rfl, s1⟩
      exact q H1 s1
set_option maxHeartbeats 1000000 in
theorem ok_law_is_from (T : Txt w.params K mg) : FnOk P w K mg base CX0 1 T.law_is_from.f T.law_is_from.fd ["value", "low", "high"] (spBtw K) := by
  refine T.law_is_from.F.ok sclaw_is_from (fun vs H Q E h => ?_) (fun cdv A outer s H vs Q E hr h => ?_)
  · obtain ⟨p, x, d, lo, hi, rfl, _⟩ := h
    rfl
  · obtain ⟨p, x, d, lo, hi, rfl, hd, q⟩ := h
    refine ⟨_, (pss_one (ps_ret (pe_and (pe_callB call_isi (by rfl) T.z_isinstance (by decide +kernel) (pa_cons (pv 0) (pa_cons (pe_bltn (v := .ty "int") (by rfl) T.z_int (by decide +kernel) rfl) pa_nil))) (pe_and (pe_not (pe_callB call_isi (by rfl) T.z_isinstance (by decide +kernel) (pa_cons (pv 0) (pa_cons (pe_bltn (v := .ty "bool") (by rfl) T.z_bool (by decide +kernel) rfl) pa_nil)))) (pe_one (pe_chain op_le op_le (pv 1) (pv 0) (pv 2))))))), ?_⟩
    refine ⟨x, rfl, x, .ty "int", _, _, _, rfl, .ty _, hd.ty, kit_ty (kit_int d), _, rfl, ite2 (fun c => ?_) (fun c => ?_)⟩
    · refine ⟨x, rfl, x, .ty "bool", _, _, _, rfl, .ty _, hd.ty, kit_ty (kit_bool d), _, rfl, _, rfl, ite2 (fun c0 => ?_) (fun c0 => ?_)⟩
      · obtain ⟨i, rfl⟩ : ∃ i, d = .int i := by cases d <;> simp_all [isI, isB]
        obtain rfl := hd.of_int
        refine ⟨_, rfl, _, rfl, _, _, rfl, rfl, _, rfl, ite2 (fun c1 => ?_) (fun c1 => ?_)⟩
        · refine ⟨_, rfl, _, _, rfl, rfl, ?_⟩
          have e : btw (.int i) lo hi = decide (i ≤ hi) := by
            have := of_decide_eq_true c1
            simp [btw, this]
          rw [e] at q
          exact q
        · have e : btw (.int i) lo hi = false := by
            have c2 : ¬ lo ≤ i := fun z => c1 (decide_eq_true z)
            simp [btw, c2]
          rw [e] at q
          exact q
      · have e : btw d lo hi = false := by cases d <;> simp_all [isI, isB, btw]
        rw [e] at q
        exact q
    · have e : btw d lo hi = false := by cases d <;> simp_all [isI, isB, btw]
      rw [e] at q
      exact q
set_option maxHeartbeats 1000000 in
theorem ok_law_is_word (T : Txt w.params K mg) : FnOk P w K mg base CX0 1 T.law_is_word.f T.law_is_word.fd ["value"] (spName K) := by
  refine T.law_is_word.F.ok sclaw_is_word (fun vs H Q E h => ?_) (fun cdv A outer s H vs Q E hr h => ?_)
  · obtain ⟨p, x, d, rfl, _⟩ := h
    rfl
  · obtain ⟨p, x, d, rfl, hd, q⟩ := h
    refine ⟨_, (pss_cons (ps_if (PW.pt (pw_or (pt_not (pt_val (pe_callB call_isi (by rfl) T.z_isinstance (by decide +kernel) (pa_cons (pv 0) (pa_cons (pe_bltn (v := .ty "str") (by rfl) T.z_str (by decide +kernel) rfl) pa_nil))))) (pw_or (pt_not (pt_chain op_le op_le pe_int (pe_callB call_len_str (by rfl) T.z_len (by decide +kernel) (pa_cons (pv 0) pa_nil)) pe_int)) (pw_or1 (pt_cmpR op_notIn_sign (pe_ix ix_str (pv 0) pe_int (fun _ _ => rfl)) pe_str (by rfl)))))) (pss_one (ps_ret pe_bl)) pss_nil)
      (pss_one (ps_ret (pe_cmpR (op_eqD hr.units) (pe_lc (own := [("sign", 1)]) (g := gName 1) (tt := _) rfl sclaw_is_word.nd (pi_str (pv 0)) (blkOk_by (N := ["value", "sign"]) (sc := defScope slaw_is_word) (by decide +kernel)) (fun _ _ _ _ _ => pg_name (i := 1) sclaw_is_word.nd rfl (Or.inl rfl)) (fun _ _ _ _ _ => (pts_one (pt_cmpR op_notIn_sign (pv 1) pe_str (by rfl)))) (fun _ _ _ _ _ => (pv 1))) (pe_lst pa_nil) (nomark _))))), ?_⟩
    refine ⟨x, rfl, x, .ty "str", _, _, _, rfl, .ty _, hd.ty, kit_ty (kit_str d), _, rfl, ite2 (fun c => ?_) (fun c => ?_)⟩
    · have e : isName d = false := by cases d <;> simp_all [isS, isName]
      rw [e] at q
      exact iteT (q H (.refl H))
    · obtain ⟨z, rfl⟩ : ∃ z, d = .str z := by cases d <;> simp_all [isS]
      obtain rfl := hd.of_str
      have lz := hd.str_len
      have zok := hd.str_ok.2
      refine ⟨_, rfl, z, rfl, lz, _, _, rfl, rfl, _, rfl, ite2 (fun c1 => ?_) (fun c1 => ?_)⟩
      · refine ⟨_, _, rfl, rfl, _, rfl, ite2 (fun c2 => ?_) (fun c2 => ?_)⟩
        · have e : isName (.str z) = false := by
            have c3 : ¬ z.length ≤ 8 := fun h => by
              have : decide ((z.length : Int) ≤ 8) = true := decide_eq_true (by omega)
              rw [this] at c2
              cases c2
            simp [isName, nameOk, c3]
          rw [e] at q
          exact iteT (q H (.refl H))
        · have l1 : 1 ≤ z.length := by have := of_decide_eq_true c1; omega
          have l8 : z.length ≤ 8 := by
            by_cases h : z.length ≤ 8
            · exact h
            · exact absurd (by simp; omega) c2
          obtain ⟨c, r, ez⟩ := name_split l1 l8
          have at0 : atI z.cps.toList 0 = some c := by rw [ez]; exact atI_nat (j := 0) rfl
          refine ⟨_, rfl, z, 0, c, rfl, rfl, lz, at0, c, letters, rfl, rfl, _, rfl, ite2 (fun c3 => ?_) (fun c3 => ?_)⟩
          · have e : isName (.str z) = false := by
              have c4 : decide (c ∈ letters.cps.toList) = false := by simpa using c3
              show nameOk z = false
              unfold nameOk headOk
              rw [ez]
              show (_ && (decide (c ∈ letters.cps.toList) && _)) = false
              rw [c4]
              simp
            rw [e] at q
            exact q H (.refl H)
          · have c4 : decide (c ∈ letters.cps.toList) = true := by simpa using c3
            refine ⟨_, rfl, z, rfl, fun D hD => lc_it walk_str (fun i H' => Same H H' ∧ H' D = some (.lst (((z.cps.toList.take i).filter fun c => !decide (c ∈ alnums.cps.toList)).map fun c => V.str ⟨#[c]⟩))) ⟨same_new hD, upd_same⟩ (fun _ _ _ _ => True.intro) ?_ ?_⟩
            · rintro i y H1 H2 hi ⟨sm, hl⟩ ⟨rfl, c', hc, rfl⟩
              have hc' : z.cps.toList[i]? = some c' := by rw [Array.getElem?_toList]; exact hc
              have ht : z.cps.toList.take (i + 1) = z.cps.toList.take i ++ [c'] := by rw [List.take_add_one, hc']; rfl
              refine ⟨rfl, _, rfl, c', alnums, rfl, rfl, _, rfl, ite2 (fun c5 => ?_) (fun c5 => ?_)⟩
              · refine ⟨_, rfl, _, hl, ?_, fun b o e => ?_, ?_⟩
                · rw [List.length_map, sizeLine_eq]
                  have h1 := List.length_filter_le (fun c => !decide (c ∈ alnums.cps.toList)) (z.cps.toList.take i)
                  have h2 : (z.cps.toList.take i).length ≤ 8 := Nat.le_trans (List.length_take_le' i _) (by rw [Array.length_toList]; exact l8)
                  omega
                · rw [upd_ne (ne_of_none e hD)]
                  exact sm b o e
                · rw [upd_same, ht, List.filter_append, List.map_append]
                  have c6 : (!decide (c' ∈ alnums.cps.toList)) = true := c5
                  rw [List.filter_cons, if_pos c6]
                  rfl
              · refine ⟨sm, ?_⟩
                have c6 : ¬ (!decide (c' ∈ alnums.cps.toList)) = true := c5
                rw [hl, ht, List.filter_append, List.filter_cons, if_neg c6, List.filter_nil, List.append_nil]
            · rintro H1 ⟨sm, hl⟩
              refine ⟨Nat.zero_le _, fun o no => ?_⟩
              have s2 := same_new (o := HO.lst []) no
              have hz : z.cps.toList.take z.cps.size = z.cps.toList := List.take_of_length_le (by rw [Array.length_toList]; exact Nat.le_refl _)
              rw [hz] at hl
              have hD2 := s2 _ _ hl
              refine ⟨_, .list [], .lst (.inl (.inl hD2)) (signs_dp _), .lst (.inl (.inl upd_same)) .nil, ?_, by decide, ?_⟩
              · exact signs_shaped _ fun c hc => by
                  have h1 := (List.mem_filter.mp hc).1
                  unfold PyData.strOk at zok
                  have h2 := Array.all_eq_true.mp zok
                  obtain ⟨i, hi, e⟩ := List.getElem_of_mem h1
                  have := h2 i (by simpa using hi)
                  rw [← e]
                  simpa using this
              · have e : isName (.str z) = PyData.eqv (.list ((z.cps.toList.filter fun c => !decide (c ∈ alnums.cps.toList)).map fun c => PyData.str ⟨#[c]⟩)) (.list []) := by
                  rw [signs_eqv]
                  show nameOk z = _
                  unfold nameOk
                  rw [decide_eq_true l1, decide_eq_true l8]
                  have hh : headOk z = true := by
                    unfold headOk
                    rw [ez]
                    exact c4
                  rw [hh, filter_none]
                  rfl
                rw [e] at q
                exact q _ (sm.trans s2)
      · have e : isName (.str z) = false := by
          have c3 : ¬ 1 ≤ z.length := fun h => c1 (decide_eq_true (by omega))
          simp [isName, nameOk, c3]
        rw [e] at q
        exact ⟨_, rfl, iteT (q H (.refl H))⟩
set_option maxHeartbeats 1000000 in
theorem ok_law_are_marks (T : Txt w.params K mg) : FnOk P w K mg base CX0 2 T.law_are_marks.f T.law_are_marks.fd ["value", "first", "last"] (spTouches K) := by
  refine T.law_are_marks.F.ok sclaw_are_marks (fun vs H Q E h => ?_) (fun cdv A outer s H vs Q E hr h => ?_)
  · obtain ⟨p, x, d, lo, hi, rfl, _⟩ := h
    rfl
  · obtain ⟨p, x, d, lo, hi, rfl, hd, q⟩ := h
    refine ⟨_, (pss_cons (ps_if (PW.pt (pw_or (pt_not (pt_val (pe_callB call_isi (by rfl) T.z_isinstance (by decide +kernel) (pa_cons (pv 0) (pa_cons (pe_bltn (v := .ty "tuple") (by rfl) T.z_tuple (by decide +kernel) rfl) pa_nil))))) (pw_or1 (pt_cmpR op_gt (pe_callB call_len_seq (by rfl) T.z_len (by decide +kernel) (pa_cons (pv 0) pa_nil)) pe_int (nomark _))))) (pss_one (ps_ret pe_bl)) pss_nil)
      (pss_cons (ps_set (i := 3) sclaw_are_marks.nd rfl (Or.inl rfl) (pe_op op_sub (pv 1) pe_int))
      (pss_cons (ps_for PassesOwn.never rfl (pi_tup (pv 0)) (pg_name (i := 4) sclaw_are_marks.nd rfl (Or.inl rfl)) (pss_cons (ps_if (PW.pt (pw_or (pt_not (pt_val (pe_callB call_isi (by rfl) T.z_isinstance (by decide +kernel) (pa_cons (pv 4) (pa_cons (pe_bltn (v := .ty "tuple") (by rfl) T.z_tuple (by decide +kernel) rfl) pa_nil))))) (pw_or (pt_cmpR op_ne (pe_callB call_len_seq (by rfl) T.z_len (by decide +kernel) (pa_cons (pv 4) pa_nil)) pe_int (nomark _)) (pw_or1 (pt_not (pt_val (pe_call (ok_law_is_from T) (hr.mono (by decide)) (by rfl) T.law_is_from.g T.law_is_from.F.kp T.law_is_from.b .nil pass0 (pa_cons (pe_ix ix_tup (pv 4) pe_int (fun _ _ => rfl)) (pa_cons (pe_op op_add (pv 3) pe_int) (pa_cons (pv 2) pa_nil)))))))))) (pss_one (ps_ret pe_bl)) pss_nil)
      (pss_cons (ps_if (pt_not (pt_val (pe_call (ok_law_is_from T) (hr.mono (by decide)) (by rfl) T.law_is_from.g T.law_is_from.F.kp T.law_is_from.b .nil pass0 (pa_cons (pe_ix ix_tup (pv 4) pe_int (fun _ _ => rfl)) (pa_cons (pe_op op_add (pe_ix ix_tup (pv 4) pe_int (fun _ _ => rfl)) pe_int) (pa_cons (pv 2) pa_nil)))))) (pss_one (ps_ret pe_bl)) pss_nil)
      (pss_one (ps_set (i := 3) sclaw_are_marks.nd rfl (Or.inl rfl) (pe_ix ix_tup (pv 4) pe_int (fun _ _ => rfl)))))))
      (pss_one (ps_ret pe_bl))))), ?_⟩
    refine ⟨x, rfl, x, .ty "tuple", _, _, _, rfl, .ty _, hd.ty, kit_ty (kit_tuple d), _, rfl, ite2 (fun c => ?_) (fun c => ?_)⟩
    · have e : touchesOk d lo hi = false := by cases d <;> simp_all [isT, touchesOk]
      rw [e] at q
      exact iteT q
    · obtain ⟨ds, rfl⟩ : ∃ ds, d = .tuple ds := by cases d <;> simp_all [isT]
      obtain ⟨a, xs, rfl, hs, ha⟩ := hd.of_tup
      have l := ha.length
      refine ⟨_, rfl, a, xs, rfl, .inr hs, _, _, rfl, rfl, _, rfl, ite2 (fun c1 => ?_) (fun c1 => ?_)⟩
      · have e : touchesOk (.tuple ds) lo hi = false := by
          have := of_decide_eq_true c1
          have : ¬ ds.length ≤ 6 := by omega
          simp [touchesOk, this]
        rw [e] at q
        exact q
      · have l6 : ds.length ≤ 6 := by
          by_cases h : ds.length ≤ 6
          · exact h
          · exact absurd (decide_eq_true (by omega)) c1
        have e0 : touchesOk (.tuple ds) lo hi = touchesFrom hi ds lo := by simp [touchesOk, l6]
        rw [e0] at q
        refine ⟨_, rfl, _, _, rfl, rfl, ?_⟩
        refine ⟨.ref a, rfl, a, rfl, ⟨_, hs⟩, for_tup (K := K) (a := a) (xs := xs) (fun i σ H' => ∃ (cur : Int) (y : Option V), σ = [some (.ref a), some (.int lo), some (.int hi), some (.int (cur - 1)), y] ∧ H' = H ∧ touchesFrom hi ds lo = touchesFrom hi (ds.drop i) cur) ⟨lo, none, rfl, rfl, rfl⟩ (fun i σ H' _ h => ?_) ?_ ?_⟩
        · obtain ⟨_, _, _, rfl, _⟩ := h
          exact hs
        · rintro i y σ H' hi' ⟨cur, y0, rfl, rfl, et⟩
          obtain ⟨d1, hd1, h1⟩ := ha.get hi'
          have ed : ds.drop i = d1 :: ds.drop (i + 1) := by
            have hlt := (List.getElem?_eq_some_iff.mp hd1).1
            rw [List.drop_eq_getElem_cons hlt]
            congr 1
            exact (List.getElem?_eq_some_iff.mp hd1).2
          rw [ed] at et
          have bad : isStretch d1 cur hi = false → Q (.bl false) H' := fun e2 => by
            have e : touchesFrom hi ds lo = false := by
              rw [et]
              show (isStretch d1 cur hi && _) = false
              rw [e2]
              rfl
            rw [e] at q
            exact q
          refine ⟨y, rfl, y, .ty "tuple", _, _, _, rfl, .ty _, h1.ty, kit_ty (kit_tuple d1), _, rfl, ite2 (fun c2 => ?_) (fun c2 => ?_)⟩
          · exact iteT (bad (by cases d1 <;> simp_all [isT, isStretch]))
          · obtain ⟨es, rfl⟩ : ∃ es, d1 = .tuple es := by cases d1 <;> simp_all [isT]
            obtain ⟨b, ys, rfl, hb, hab⟩ := h1.of_tup
            have ly := hab.length
            refine ⟨_, rfl, b, ys, rfl, .inr hb, rfl, _, rfl, ite2 (fun c3 => ?_) (fun c3 => ?_)⟩
            · refine iteT (bad ?_)
              match es, ly with
              | [u, v], ly =>
                exfalso
                rw [ly] at c3
                simp at c3
              | [], _ => rfl
              | [_], _ => rfl
              | _ :: _ :: _ :: _, _ => rfl
            · have l2 : es.length = 2 := by
                by_cases z : (ys.length : Int) = 2
                · omega
                · exact absurd (by simp [z]) c3
              obtain ⟨u, v, rfl⟩ : ∃ u v, es = [u, v] := by
                match es, l2 with
                | [u, v], _ => exact ⟨u, v, rfl⟩
              obtain ⟨w1, w2, rfl, g1, g2⟩ := hab.two
              refine ⟨_, rfl, b, _, 0, w1, rfl, rfl, hb, atI_nat (j := 0) rfl, _, rfl, _, _, rfl, rfl, _, rfl, p, w1, u, cur - 1 + 1, hi, rfl, g1, _, rfl, ite2 (fun c4 => ?_) (fun c4 => ?_)⟩
              · refine bad ?_
                rw [Int.sub_add_cancel] at c4
                have e4 : btw u cur hi = false := by simpa using c4
                show (btw u cur hi && _) = false
                rw [e4]
                rfl
              · rw [Int.sub_add_cancel] at c4
                have e4 : btw u cur hi = true := by simpa using c4
                obtain ⟨i1, rfl⟩ : ∃ i1, u = .int i1 := by cases u <;> simp_all [btw]
                obtain rfl := g1.of_int
                refine ⟨_, rfl, b, _, 1, w2, rfl, rfl, hb, atI_nat (j := 1) rfl, _, rfl, b, _, 0, .int i1, rfl, rfl, hb, atI_nat (j := 0) rfl, _, _, rfl, rfl, _, rfl, p, w2, v, i1 + 1, hi, rfl, g2, _, rfl, ite2 (fun c5 => ?_) (fun c5 => ?_)⟩
                · refine bad ?_
                  have e5 : btw v (i1 + 1) hi = false := by simpa using c5
                  show (_ && btw v (i1 + 1) hi) = false
                  rw [e5]
                  simp
                · have e5 : btw v (i1 + 1) hi = true := by simpa using c5
                  obtain ⟨i2, rfl⟩ : ∃ i2, v = .int i2 := by cases v <;> simp_all [btw]
                  obtain rfl := g2.of_int
                  refine ⟨_, rfl, b, _, 1, .int i2, rfl, rfl, hb, atI_nat (j := 1) rfl, i2 + 1, some (.ref b), ?_, rfl, ?_⟩
                  · rw [Int.add_sub_cancel]
                    rfl
                  · rw [et]
                    show ((btw (.int i1) cur hi && btw (.int i2) (i1 + 1) hi) && touchesFrom hi (ds.drop (i + 1)) (i2 + 1)) = _
                    rw [e4, e5]
                    rfl
        · rintro σ H' ⟨cur, y0, rfl, rfl, et⟩
          have e : touchesFrom hi ds lo = true := by
            rw [et, List.drop_of_length_le (Nat.le_of_eq l.symm)]
            rfl
          rw [e] at q
          exact q
set_option maxHeartbeats 1000000 in
theorem ok_law_is_fader (T : Txt w.params K mg) : FnOk P w K mg base CX0 3 T.law_is_fader.f T.law_is_fader.fd ["value", "long", "words"] (spReads K) := by
  refine T.law_is_fader.F.ok sclaw_is_fader (fun vs H Q E h => ?_) (fun cdv A outer s H vs Q E hr h => ?_)
  · obtain ⟨p, x, d, L, o, ns, rfl, _⟩ := h
    rfl
  · obtain ⟨p, x, d, L, o, ns, rfl, hd, ho, q⟩ := h
    refine ⟨_, (pss_cons (ps_if (PW.pt (pw_or (pt_not (pt_val (pe_callB call_isi (by rfl) T.z_isinstance (by decide +kernel) (pa_cons (pv 0) (pa_cons (pe_bltn (v := .ty "tuple") (by rfl) T.z_tuple (by decide +kernel) rfl) pa_nil))))) (pw_or (pt_cmpR op_ne (pe_callB call_len_seq (by rfl) T.z_len (by decide +kernel) (pa_cons (pv 0) pa_nil)) pe_int (nomark _)) (pw_or1 (pt_not (pt_val (pe_call (ok_law_is_word T) (hr.mono (by decide)) (by rfl) T.law_is_word.g T.law_is_word.F.kp T.law_is_word.b .nil pass0 (pa_cons (pe_ix ix_tup (pv 0) pe_int (fun _ _ => rfl)) pa_nil)))))))) (pss_one (ps_ret pe_bl)) pss_nil)
      (pss_cons (ps_if (PW.pt (pw_or (pt_cmpR op_eq (pe_ix ix_tup (pv 0) pe_int (fun _ _ => rfl)) pe_str (nomark _)) (pw_or (pt_cmpR op_in_seq (pe_ix ix_tup (pv 0) pe_int (fun _ _ => rfl)) (pv 2) (by rfl)) (pw_or1 (pt_not (pt_val (pe_callB call_isi (by rfl) T.z_isinstance (by decide +kernel) (pa_cons (pe_ix ix_tup (pv 0) pe_int (fun _ _ => rfl)) (pa_cons (pe_bltn (v := .ty "str") (by rfl) T.z_str (by decide +kernel) rfl) pa_nil))))))))) (pss_one (ps_ret pe_bl)) pss_nil)
      (pss_cons (ps_if (PW.pt (pw_or (pt_cmpR op_notIn_seq (pe_ix ix_tup (pv 0) pe_int (fun _ _ => rfl)) (pe_lst (pa_cons pe_str (pa_cons pe_str (pa_cons pe_str (pa_cons pe_str pa_nil))))) (by rfl)) (pw_or1 (pt_not (pt_val (pe_call (ok_law_is_from T) (hr.mono (by decide)) (by rfl) T.law_is_from.g T.law_is_from.F.kp T.law_is_from.b .nil pass0 (pa_cons (pe_ix ix_tup (pv 0) pe_int (fun _ _ => rfl)) (pa_cons pe_int (pa_cons (pv 1) pa_nil))))))))) (pss_one (ps_ret pe_bl)) pss_nil)
      (pss_cons (ps_if (PW.pt (pw_or (pt_not (pt_val (pe_call (ok_law_is_from T) (hr.mono (by decide)) (by rfl) T.law_is_from.g T.law_is_from.F.kp T.law_is_from.b .nil pass0 (pa_cons (pe_ix ix_tup (pv 0) pe_int (fun _ _ => rfl)) (pa_cons (pe_op op_add (pe_ix ix_tup (pv 0) pe_int (fun _ _ => rfl)) pe_int) (pa_cons (pv 1) pa_nil)))))) (pw_or1 (pt_not (pt_val (pe_call (ok_law_are_marks T) (hr.mono (by decide)) (by rfl) T.law_are_marks.g T.law_are_marks.F.kp T.law_are_marks.b .nil pass0 (pa_cons (pe_ix ix_tup (pv 0) pe_int (fun _ _ => rfl)) (pa_cons (pe_ix ix_tup (pv 0) pe_int (fun _ _ => rfl)) (pa_cons (pe_ix ix_tup (pv 0) pe_int (fun _ _ => rfl)) pa_nil))))))))) (pss_one (ps_ret pe_bl)) pss_nil)
      (pss_one (ps_ret (pe_and (pe_call (ok_law_is_from T) (hr.mono (by decide)) (by rfl) T.law_is_from.g T.law_is_from.F.kp T.law_is_from.b .nil pass0 (pa_cons (pe_ix ix_tup (pv 0) pe_int (fun _ _ => rfl)) (pa_cons pe_int (pa_cons pe_int pa_nil)))) (pe_and (pe_callB call_isi (by rfl) T.z_isinstance (by decide +kernel) (pa_cons (pe_ix ix_tup (pv 0) pe_int (fun _ _ => rfl)) (pa_cons (pe_bltn (v := .ty "str") (by rfl) T.z_str (by decide +kernel) rfl) pa_nil))) (pe_one (pe_cmpR op_in_seq (pe_ix ix_tup (pv 0) pe_int (fun _ _ => rfl)) (pe_lst (pa_cons pe_str (pa_cons pe_str pa_nil))) (by rfl))))))))))), ?_⟩
    have bad : ∀ H', Same H H' → isPass L d = false → Q (.bl false) H' := fun H' s e => by
      have := q H' s
      rw [e] at this
      exact this
    refine ⟨x, rfl, x, .ty "tuple", _, _, _, rfl, .ty _, hd.ty, kit_ty (kit_tuple d), _, rfl, ite2 (fun c => ?_) (fun c => ?_)⟩
    · exact iteT (bad H (.refl H) (by cases d <;> simp_all [isT, isPass]))
    · obtain ⟨ds, rfl⟩ : ∃ ds, d = .tuple ds := by cases d <;> simp_all [isT]
      obtain ⟨a, xs, rfl, hs, ha⟩ := hd.of_tup
      have l := ha.length
      refine ⟨_, rfl, a, xs, rfl, .inr hs, rfl, _, rfl, ite2 (fun c1 => ?_) (fun c1 => ?_)⟩
      · refine iteT (bad H (.refl H) ?_)
        by_cases h7 : ds.length = 7
        · exfalso
          rw [l, h7] at c1
          simp at c1
        · exact isPass_len h7
      · have h7 : ds.length = 7 := by
          by_cases z : (xs.length : Int) = 7
          · omega
          · exact absurd (by simp [z]) c1
        obtain ⟨d1, d2, d3, d4, d5, d6, d7, rfl⟩ := seven_of h7
        obtain ⟨x1, x2, x3, x4, x5, x6, x7, rfl, h1, h2, h3, h4, h5, h6, k7⟩ := ha.seven
        rw [isPass_eq] at q bad
        refine ⟨_, rfl, a, _, 0, x1, rfl, rfl, hs, atI_nat (j := 0) rfl, p, x1, d1, rfl, h1, fun H1 s1 => ⟨_, rfl, ite2 (fun c2 => ?_) (fun c2 => ?_)⟩⟩
        · have e : isName d1 = false := by simpa using c2
          exact bad H1 s1 (by rw [e]; rfl)
        · have e1 : isName d1 = true := by simpa using c2
          obtain ⟨z, rfl⟩ : ∃ z, d1 = .str z := by cases d1 <;> simp_all [isName]
          obtain rfl := h1.of_str
          have hs1 := s1.seqT hs
          rw [e1] at q bad
          refine ⟨_, rfl, a, _, 0, .str z, rfl, rfl, hs1, atI_nat (j := 0) rfl, rfl, _, rfl, ite2 (fun c3 => ?_) (fun c3 => ?_)⟩
          · have e : isOld (.str z) = true := by
              have := of_decide_eq_true c3
              injection this with this
              simp [isOld, this]
            exact iteT (bad H1 s1 (by rw [e]; rfl))
          · have e0 : isOld (.str z) = false := by
              have : ¬ z = "old" := fun h => c3 (decide_eq_true (by rw [h]))
              simp [isOld, this]
            rw [e0] at q bad
            refine ⟨_, rfl, a, _, 0, .str z, rfl, rfl, hs1, atI_nat (j := 0) rfl, _, rfl, o, _, rfl, .inl (s1.seq ho), rfl, flat_strs ns, _, rfl, ite2 (fun c4 => ?_) (fun c4 => ?_)⟩
            · have c5 : ns.contains z = true := by rw [← inV_strs]; exact c4
              have := q H1 s1
              rw [show nameOf (.tuple [.str z, d2, d3, d4, d5, d6, d7]) = z from rfl, c5] at this
              rw [show (!true) = false from rfl, Bool.and_false] at this
              exact iteT this
            · have c5 : ns.contains z = false := by rw [← inV_strs]; exact Bool.eq_false_iff.mpr c4
              rw [show nameOf (.tuple [.str z, d2, d3, d4, d5, d6, d7]) = z from rfl, c5, show (!false) = true from rfl, Bool.and_true] at q
              refine ⟨_, rfl, a, _, 1, x2, rfl, rfl, hs1, atI_nat (j := 1) rfl, x2, .ty "str", _, _, _, rfl, .ty _, (h2.same s1).ty, kit_ty (kit_str d2), _, rfl, ite2 (fun c6 => ?_) (fun c6 => ?_)⟩
              · have e : isWord d2 modes = false := by cases d2 <;> simp_all [isS, isWord]
                exact bad H1 s1 (by rw [e]; rfl)
              · obtain ⟨m, rfl⟩ : ∃ m, d2 = .str m := by cases d2 <;> simp_all [isS]
                obtain rfl := h2.of_str
                refine ⟨_, rfl, a, _, 1, .str m, rfl, rfl, hs1, atI_nat (j := 1) rfl, by show 4 ≤ sizeLine; decide, fun o2 no2 => ?_⟩
                have s2 := s1.new (o := HO.lst (modes.map V.str)) no2
                have hs2 := s2.seqT hs
                have ho2 : SqL K (upd H1 o2 (.lst (modes.map V.str))) o2 (modes.map V.str) := .inl (.inl upd_same)
                generalize hH2 : upd H1 o2 (.lst (modes.map V.str)) = H2 at s2 hs2 ho2
                refine ⟨o2, modes.map V.str, rfl, .inl (hH2 ▸ ho2), rfl, flat_strs modes, _, rfl, ite2 (fun c7 => ?_) (fun c7 => ?_)⟩
                · have e : isWord (.str m) modes = false := by
                    show modes.contains m = false
                    rw [← inV_strs]
                    simpa using c7
                  refine iteT (bad _ (hH2 ▸ s2) (by rw [e]; rfl))
                · have e2 : isWord (.str m) modes = true := by
                    show modes.contains m = true
                    rw [← inV_strs]
                    simpa using c7
                  rw [e2] at q bad
                  show tNot _ _ (upd H1 o2 (.lst (modes.map V.str))) _
                  rw [hH2]
                  clear hH2
                  refine ⟨_, rfl, a, _, 2, x3, rfl, rfl, hs2, atI_nat (j := 2) rfl, _, rfl, p, x3, d3, 0, L, rfl, h3.same s2, _, rfl, ite2 (fun c8 => ?_) (fun c8 => ?_)⟩
                  · have e : btw d3 0 L = false := by simpa using c8
                    refine bad _ s2 ?_
                    show (_ && ((_ && _) && ((btw d3 0 L && _) && _))) = false
                    rw [e]
                    simp
                  · have e3 : btw d3 0 L = true := by simpa using c8
                    obtain ⟨i, rfl⟩ : ∃ i, d3 = .int i := by cases d3 <;> simp_all [btw]
                    obtain rfl := h3.of_int
                    refine ⟨_, rfl, a, _, 3, x4, rfl, rfl, hs2, atI_nat (j := 3) rfl, _, rfl, a, _, 2, .int i, rfl, rfl, hs2, atI_nat (j := 2) rfl, _, _, rfl, rfl, _, rfl, p, x4, d4, i + 1, L, rfl, h4.same s2, _, rfl, ite2 (fun c9 => ?_) (fun c9 => ?_)⟩
                    · have e : btw d4 (i + 1) L = false := by simpa using c9
                      refine iteT (bad _ s2 ?_)
                      show (_ && ((_ && _) && ((_ && btw d4 (i + 1) L) && _))) = false
                      rw [e]
                      simp
                    · have e4 : btw d4 (i + 1) L = true := by simpa using c9
                      obtain ⟨j, rfl⟩ : ∃ j, d4 = .int j := by cases d4 <;> simp_all [btw]
                      obtain rfl := h4.of_int
                      have e34 : isStretch (.tuple [.int i, .int j]) 0 L = true := by
                        show (btw (.int i) 0 L && btw (.int j) (i + 1) L) = true
                        rw [e3, e4]
                        rfl
                      rw [e34] at q bad
                      refine ⟨_, rfl, a, _, 4, x5, rfl, rfl, hs2, atI_nat (j := 4) rfl, _, rfl, a, _, 2, .int i, rfl, rfl, hs2, atI_nat (j := 2) rfl, _, rfl, a, _, 3, .int j, rfl, rfl, hs2, atI_nat (j := 3) rfl, p, x5, d5, i, j, rfl, h5.same s2, _, rfl, ite2 (fun cA => ?_) (fun cA => ?_)⟩
                      · have e : touchesOk d5 i j = false := by simpa using cA
                        refine bad _ s2 ?_
                        show (_ && ((_ && _) && (_ && (touchesOk d5 i j && _)))) = false
                        rw [e]
                        simp
                      · have e5 : touchesOk d5 i j = true := by simpa using cA
                        rw [show touchesOk d5 (getI (.int i)) (getI (.int j)) = true from e5] at q bad
                        refine ⟨_, rfl, a, _, 5, x6, rfl, rfl, hs2, atI_nat (j := 5) rfl, p, x6, d6, 0, 100, rfl, h6.same s2, _, rfl, ite2 (fun cB => ?_) (fun cB => ?_)⟩
                        · rw [show btw d6 0 100 = true from cB] at q bad
                          refine ⟨_, rfl, a, _, 6, x7, rfl, rfl, hs2, atI_nat (j := 6) rfl, x7, .ty "str", _, _, _, rfl, .ty _, (k7.same s2).ty, kit_ty (kit_str d7), _, rfl, ite2 (fun cC => ?_) (fun cC => ?_)⟩
                          · obtain ⟨e', rfl⟩ : ∃ e', d7 = .str e' := by cases d7 <;> simp_all [isS]
                            obtain rfl := k7.of_str
                            refine ⟨_, rfl, a, _, 6, .str e', rfl, rfl, hs2, atI_nat (j := 6) rfl, by show 2 ≤ sizeLine; decide, fun o3 no3 => ?_⟩
                            refine ⟨o3, tails.map V.str, rfl, .inl (.inl (.inl upd_same)), rfl, flat_strs tails, ?_⟩
                            have := q _ (s2.new (o := HO.lst (tails.map V.str)) no3)
                            rw [show isWord (.str e') tails = inV (.str e') (tails.map V.str) from (inV_strs e' tails).symm] at this
                            simp only [Bool.true_and, Bool.and_true, Bool.not_false] at this
                            exact this
                          · have e : isWord d7 tails = false := by cases d7 <;> simp_all [isS, isWord]
                            exact bad _ s2 (by rw [e]; rfl)
                        · have e : btw d6 0 100 = false := Bool.eq_false_iff.mpr cB
                          exact bad _ s2 (by rw [e]; simp)
set_option maxHeartbeats 1000000 in
theorem ok_replaced (T : Txt w.params K mg) : FnOk P w K mg base CX0 2 T.replaced.f T.replaced.fd ["row", "at", "new"] (spReplaced K) := by
  refine T.replaced.F.ok screplaced (fun vs H Q E h => ?_) (fun cdv A outer s H vs Q E hr h => ?_)
  · obtain ⟨a, xs, i, x, rfl, _⟩ := h
    rfl
  · obtain ⟨a, xs, i, x, rfl, hs, hi, lx, q⟩ := h
    refine ⟨_, (pss_one (ps_ret (pe_call (ok_put_in T) (hr.mono (by decide)) (by rfl) T.put_in.g T.put_in.F.kp T.put_in.b .nil pass0 (pa_cons (pe_call (ok_taken_out T) (hr.mono (by decide)) (by rfl) T.taken_out.g T.taken_out.F.kp T.taken_out.b .nil pass0 (pa_cons (pv 0) (pa_cons (pv 1) pa_nil))) (pa_cons (pv 1) (pa_cons (pv 2) pa_nil)))))), ?_⟩
    refine ⟨_, rfl, _, rfl, a, xs, i, rfl, hs, by omega, fun r H1 s1 h1 => ?_⟩
    refine ⟨_, rfl, _, rfl, r, _, i, x, rfl, h1, ?_, fun r2 H2 s2 h2 => ?_⟩
    · rw [List.length_append, List.length_take, List.length_drop]
      omega
    · rw [set_parts xs i x hi] at h2
      exact q r2 H2 (s1.trans s2) h2
theorem parts_at (T : Txt w.params K mg) {pt : Str} {j : Nat} (h : partIx pt = some j) : ∃ t, PySem.W.nsIn K T.a_PARTS pt = some (some (.int j t)) := by rcases partIx_cases h with ⟨rfl, rfl⟩ | ⟨rfl, rfl⟩ | ⟨rfl, rfl⟩ | ⟨rfl, rfl⟩ | ⟨rfl, rfl⟩ | ⟨rfl, rfl⟩ <;> first | exact T.i_PARTS_mode | exact T.i_PARTS_from | exact T.i_PARTS_to | exact T.i_PARTS_touches | exact T.i_PARTS_glide | exact T.i_PARTS_tail
set_option maxHeartbeats 1000000 in
theorem ok_is_change (T : Txt w.params K mg) : FnOk P w K mg base CX0 2 T.is_change.f T.is_change.fd ["value", "passes"] (spIsChange K) := by
  refine T.is_change.F.ok scis_change (fun vs H Q E h => ?_) (fun cdv A outer s H vs Q E hr h => ?_)
  · obtain ⟨p, c, t, ds, z, pt, e, i, j, es, rfl, _⟩ := h
    rfl
  · obtain ⟨p, c, t, ds, z, pt, e, i, j, es, rfl, hd, nm, hc, q⟩ := h
    refine ⟨_, (pss_cons (ps_if (PW.pt (pw_or (pt_not (pt_val (pe_callB call_isi (by rfl) T.z_isinstance (by decide +kernel) (pa_cons (pv 0) (pa_cons (pe_bltn (v := .ty "tuple") (by rfl) T.z_tuple (by decide +kernel) rfl) pa_nil))))) (pw_or1 (pt_cmpR op_ne (pe_callB call_len_seq (by rfl) T.z_len (by decide +kernel) (pa_cons (pv 0) pa_nil)) pe_int (nomark _))))) (pss_one (ps_ret pe_bl)) pss_nil)
      (pss_cons (ps_asg (pv 0) (pg_tup (by rfl) (pgs_cons (pg_name (i := 2) scis_change.nd rfl (Or.inl rfl)) (pgs_cons (pg_name (i := 3) scis_change.nd rfl (Or.inl rfl)) (pgs_cons (pg_name (i := 4) scis_change.nd rfl (Or.inl rfl)) pgs_nil)))))
      (pss_one (ps_ret (pe_and (pe_cmpR op_notN (pe_call (ok_place_of T) (hr.mono (by decide)) (by rfl) T.place_of.g T.place_of.F.kp T.place_of.b .nil pass0 (pa_cons (pv 1) (pa_cons (pv 2) pa_nil))) pe_non (nomark _)) (pe_and (pe_callB call_isi (by rfl) T.z_isinstance (by decide +kernel) (pa_cons (pv 3) (pa_cons (pe_bltn (v := .ty "str") (by rfl) T.z_str (by decide +kernel) rfl) pa_nil))) (pe_one (pe_cmpR my_in_kd (pv 3) (pe_glob (v := .ref T.a_PARTS) rfl T.g_PARTS rfl) (by rfl))))))))), ?_⟩
    obtain ⟨v, hs, hv⟩ := hc.at_
    obtain ⟨tk, hin⟩ := parts_at T hc.part
    refine ⟨.ref c, rfl, .ref c, .ty "tuple", _, _, _, rfl, .ty _, ty_tup hs, kit_ty (kit_tuple (.tuple [])), _, rfl, ite2 (fun c1 => ?_) (fun c1 => ?_)⟩
    · exact absurd c1 (by decide)
    · refine ⟨_, rfl, c, _, rfl, .inr hs, rfl, _, rfl, ite2 (fun c2 => ?_) (fun c2 => ?_)⟩
      · exact absurd c2 (by simp)
      · refine ⟨_, rfl, c, _, rfl, hs, rfl, .str z, _, rfl, .str pt, _, rfl, v, _, rfl, rfl, ?_⟩
        refine ⟨_, rfl, _, rfl, p, p, .ref t, .str z, ds, .str z, rfl, hd, nm, .str z hc.lz, fun H1 s1 => ?_⟩
        rw [show sOf (.str z) = some z from rfl, Option.bind_some, hc.place]
        refine ⟨rfl, _, rfl, ite2 (fun _ => ?_) (fun c3 => absurd (by simp [optV]) c3)⟩
        refine ⟨_, rfl, .str pt, .ty "str", _, _, _, rfl, .ty _, .base (.str pt), kit_ty (kit_str (.str pt)), _, rfl, ite2 (fun _ => ?_) (fun c3 => absurd (by rfl) c3)⟩
        exact ⟨_, rfl, T.a_PARTS, pt, _, _, _, rfl, rfl, T.l_PARTS, T.k_PARTS, hin, T.s_PARTS, q H1 s1⟩
set_option maxHeartbeats 1000000 in
theorem ok_behind_change (T : Txt w.params K mg) : FnOk P w K mg base CX0 3 T.behind_change.f T.behind_change.fd ["passes", "change"] (spBehind K) := by
  refine T.behind_change.F.ok scbehind_change (fun vs H Q E h => ?_) (fun cdv A outer s H vs Q E hr h => ?_)
  · obtain ⟨p, c, t, ds, z, pt, e, i, j, es, rfl, _⟩ := h
    rfl
  · obtain ⟨p, c, t, ds, z, pt, e, i, j, es, rfl, hd, nm, l8, hc, q⟩ := h
    refine ⟨_, (pss_cons (ps_asg (pv 1) (pg_tup (by rfl) (pgs_cons (pg_name (i := 2) scbehind_change.nd rfl (Or.inl rfl)) (pgs_cons (pg_name (i := 3) scbehind_change.nd rfl (Or.inl rfl)) (pgs_cons (pg_name (i := 4) scbehind_change.nd rfl (Or.inl rfl)) pgs_nil)))))
      (pss_cons (ps_set (i := 5) scbehind_change.nd rfl (Or.inl rfl) (pe_call (ok_place_of T) (hr.mono (by decide)) (by rfl) T.place_of.g T.place_of.F.kp T.place_of.b .nil pass0 (pa_cons (pv 0) (pa_cons (pv 2) pa_nil))))
      (pss_one (ps_ret (pe_call (ok_replaced T) (hr.mono (by decide)) (by rfl) T.replaced.g T.replaced.F.kp T.replaced.b .nil pass0 (pa_cons (pv 0) (pa_cons (pv 5) (pa_cons (pe_call (ok_replaced T) (hr.mono (by decide)) (by rfl) T.replaced.g T.replaced.F.kp T.replaced.b .nil pass0 (pa_cons (pe_ix ix_tup (pv 0) (pv 5) (fun _ _ => rfl)) (pa_cons (pe_ix ix_kdict (pe_glob (v := .ref T.a_PARTS) rfl T.g_PARTS rfl) (pv 3) (fun _ _ => rfl)) (pa_cons (pv 4) pa_nil)))) pa_nil)))))))), ?_⟩
    obtain ⟨v, hs, hv⟩ := hc.at_
    obtain ⟨tk, hin⟩ := parts_at T hc.part
    obtain ⟨j1, j6⟩ := partIx_le hc.part
    obtain ⟨a, xs, e1, ht, ha⟩ := hd.of_tup
    injection e1 with e1
    subst e1
    have l := ha.length
    obtain ⟨_, il, _⟩ := place_lt hc.place
    refine ⟨_, rfl, c, _, rfl, hs, rfl, .str z, _, rfl, .str pt, _, rfl, v, _, rfl, rfl, ?_⟩
    refine ⟨_, rfl, _, rfl, p, p, .ref t, .str z, ds, .str z, rfl, hd, nm, .str z hc.lz, fun H1 s1 => ?_⟩
    rw [show sOf (.str z) = some z from rfl, Option.bind_some, hc.place]
    obtain ⟨w1, hw1, kw⟩ := ha.getD hc.pass
    obtain ⟨b, ys, rfl, hb, hab⟩ := kw.of_tup
    have ly := hab.length
    refine ⟨_, rfl, _, rfl, _, rfl, _, rfl, t, xs, i, .ref b, rfl, rfl, s1.seqT ht, atI_nat hw1, _, rfl, T.a_PARTS, pt, .int j, rfl, rfl, ⟨_, _, _, T.l_PARTS, T.k_PARTS, hin, _, rfl⟩, _, rfl, b, ys, j, v, rfl, s1.seqT hb, ?_, ?_, fun r H2 s2 h2 => ?_⟩
    · have := hc.seven
      omega
    · have := hc.seven
      omega
    · refine ⟨t, xs, i, .ref r, rfl, (s1.trans s2).seqT ht, by omega, by omega, fun r2 H3 s3 h3 => ?_⟩
      refine q r2 H3 ((s1.trans s2).trans s3) (.tup h3 (DnAll.set (.tup (s3.seqT h2) ?_) i (ha.same ((s1.trans s2).trans s3))))
      exact DnAll.set (hv.same ((s1.trans s2).trans s3)) j (hab.same ((s1.trans s2).trans s3))
set_option maxHeartbeats 1000000 in
theorem ok_Track_changed (T : Txt w.params K mg) : FnOk P w K mg base CX0 9 T.Track_changed.f T.Track_changed.fd ["self", "change"] (spChanged K T.C) := by
  refine T.Track_changed.F.ok scTrack_changed (fun vs H Q E h => ?_) (fun cdv A outer s H vs Q E hr h => ?_)
  · obtain ⟨p, x, c, L, ds, z, pt, e, i, j, es, rfl, _⟩ := h
    rfl
  · obtain ⟨p, x, c, L, ds, z, pt, e, i, j, es, rfl, ht, hc, hw, q⟩ := h
    refine ⟨_, (pss_cons (ps_if (pt_not (pt_val (pe_call (ok_is_change T) (hr.mono (by decide)) (by rfl) T.is_change.g T.is_change.F.kp T.is_change.b .nil pass0 (pa_cons (pv 1) (pa_cons (pe_fld (pv 0) rfl) pa_nil))))) (pss_one (ps_never)) pss_nil)
      (pss_cons (ps_set (i := 2) scTrack_changed.nd rfl (Or.inl rfl) (pe_call (ok_behind_change T) (hr.mono (by decide)) (by rfl) T.behind_change.g T.behind_change.F.kp T.behind_change.b .nil pass0 (pa_cons (pe_fld (pv 0) rfl) (pa_cons (pv 1) pa_nil))))
      (pss_cons (ps_if (pt_cmpR op_notN (pe_call (ok_first_wrong T) (hr.mono (by decide)) (by rfl) T.first_wrong.g T.first_wrong.F.kp T.first_wrong.b .nil pass0 (pa_cons (pv 2) (pa_cons (pe_fld (pv 0) rfl) pa_nil))) pe_non (nomark _)) (pss_one (ps_never)) pss_nil)
      (pss_one (ps_ret (pe_make ⟨T.makes, T.Track_init.m.at_, T.Track_init.m.fn, T.kC⟩ (ok_Track_init T) (hr.mono (by decide)) (by rfl) T.gC T.Track_init.b .nil pass0 (pa_cons (pe_fld (pv 0) rfl) (pa_cons (pv 2) pa_nil)))))))), ?_⟩
    have hf := ht.facts
    obtain ⟨dx, t, hx, hd, hL, h0⟩ := id ht
    refine ⟨_, rfl, .ref x, rfl, x, T.C, dx, _, .ref t, rfl, hx, T.cl, T.n_passes, rfl, p, c, t, ds, z, pt, e, i, j, es, rfl, hd, named_of hf.1, hc, fun H1 s1 => ⟨_, rfl, ite2 (fun c1 => absurd c1 (by decide)) (fun _ => ?_)⟩⟩
    have hx1 := s1 _ _ hx
    refine ⟨.ref x, rfl, x, T.C, dx, _, .ref t, rfl, hx1, T.cl, T.n_passes, rfl, _, rfl, p, c, t, ds, z, pt, e, i, j, es, rfl, hd.same s1, named_of hf.1, hf.2, hc.same s1, fun r H2 s2 h2 => ?_⟩
    have hx2 := s2 _ _ hx1
    refine ⟨_, rfl, .ref x, rfl, x, T.C, dx, _, .int L, rfl, hx2, T.cl, T.n_length, rfl, p, .ref r, _, L, rfl, h2, fun H3 s3 => ?_⟩
    rw [hw]
    refine ⟨rfl, _, rfl, ite2 (fun c1 => absurd c1 (by decide)) (fun _ => ?_)⟩
    have hx3 := s3 _ _ hx2
    refine ⟨.ref x, rfl, x, T.C, dx, _, .int L, rfl, hx3, T.cl, T.n_length, rfl, _, rfl, ?_⟩
    intro y dy ny ndy ne
    have s4 : Same H3 (upd (upd H3 dy (.own y)) y (.ins T.C dy [])) := (same_new ndy).new (by rw [upd_ne (Ne.symm ne)]; exact ny)
    refine ⟨p, y, dy, r, L, _, rfl, upd_same, (h2.same s3).same s4, hL, hw, fun H5 s5 h5 => ⟨rfl, ?_⟩⟩
    have s6 : Same H3 H5 := fun b o e => s5 b o (ne_of_none e ny) (s4 b o e)
    exact q y H5 (((s1.trans s2).trans s3).trans s6) ⟨dy, r, h5, (h2.same s3).same s6, hL, hw⟩
set_option maxHeartbeats 1000000 in
theorem ok_law_changed_right (T : Txt w.params K mg) : FnG P w K mg base CX0 10 T.law_changed_right.f T.law_changed_right.fd ["purse", "mine"] (spChangedRight K T.C) := by
  refine T.law_changed_right.F.okN sclaw_changed_right (fun vs H Q E h => ?_) (fun cdv A outer s H vs Q E hg hr h => ?_)
  · obtain ⟨p, x, L, ds, b, rfl, _⟩ := h
    rfl
  · obtain ⟨p, x, L, ds, b, rfl, ht, l7, hp, q⟩ := h
    have hu := hr.units
    refine ⟨_, (pss_cons (ps_par (i := 2) (j := 3) (by rfl) sclaw_changed_right.nd rfl rfl (by decide) rfl rfl (pa_cons (pe_prop (pv 1) T.cl T.Track_length.P (ok_Track_length T) (hr.mono (by decide)) T.Track_length.b .nil pass0 rfl) (pa_cons (pe_prop (pv 1) T.cl T.Track_passes.P (ok_Track_passes T) (hr.mono (by decide)) T.Track_passes.b .nil pass0 rfl) pa_nil)) (by rfl))
      (pss_cons (ps_set (i := 4) sclaw_changed_right.nd rfl (Or.inl rfl) (pe_lst (pa_cons pe_str (pa_cons pe_str (pa_cons pe_str (pa_cons pe_str (pa_cons pe_str (pa_cons pe_str pa_nil))))))))
      (pss_cons (ps_for PassesOwn.never rfl (pi_range1 (by rfl) T.z_range (pa_cons (pe_callB call_len_seq (by rfl) T.z_len (by decide +kernel) (pa_cons (pv 3) pa_nil)) pa_nil)) (pg_name (i := 5) sclaw_changed_right.nd rfl (Or.inl rfl)) (pss_cons (ps_set (i := 6) sclaw_changed_right.nd rfl (Or.inl rfl) (pe_call (ok_law_fader T) (hr.mono (by decide)) (by rfl) T.law_fader.g T.law_fader.F.kp T.law_fader.b .nil pass0 (pa_cons (pv 0) (pa_cons (pe_ix ix_tup (pe_ix ix_tup (pv 3) (pv 5) (fun _ _ => rfl)) pe_int (fun _ _ => rfl)) (pa_cons (pv 2) pa_nil)))))
      (pss_one (ps_for PassesOwn.never rfl (pi_range1 (by rfl) T.z_range (pa_cons pe_int pa_nil)) (pg_name (i := 7) sclaw_changed_right.nd rfl (Or.inl rfl)) (pss_cons (ps_set (i := 8) sclaw_changed_right.nd rfl (Or.inl rfl) (pe_op op_catA (pe_op op_catA (pe_slice sl_tupA (pe_ix ix_tup (pv 3) (pv 5) (fun _ _ => rfl)) po_none (po_some (pe_op op_add (pv 7) pe_int))) (pe_tup (pa_cons (pe_ix ix_tup (pv 6) (pe_op op_add (pv 7) pe_int) (fun _ _ => rfl)) pa_nil))) (pe_slice sl_tupA (pe_ix ix_tup (pv 3) (pv 5) (fun _ _ => rfl)) (po_some (pe_op op_add (pv 7) pe_int)) po_none)))
      (pss_one (ps_if (pt_val (pe_call (ok_law_is_fader T) (hr.mono (by decide)) (by rfl) T.law_is_fader.g T.law_is_fader.F.kp T.law_is_fader.b .nil pass0 (pa_cons (pv 8) (pa_cons (pv 2) (pa_cons (pe_lst pa_nil) pa_nil))))) (pss_cons (ps_set (i := 9) sclaw_changed_right.nd rfl (Or.inl rfl) (pe_tup (pa_cons (pe_ix ix_tup (pe_ix ix_tup (pv 3) (pv 5) (fun _ _ => rfl)) pe_int (fun _ _ => rfl)) (pa_cons (pe_ix ix_list (pv 4) (pv 7) (fun _ _ => rfl)) (pa_cons (pe_ix ix_tup (pv 6) (pe_op op_add (pv 7) pe_int) (fun _ _ => rfl)) pa_nil)))))
      (pss_cons (ps_set (i := 10) sclaw_changed_right.nd rfl (Or.inl rfl) (pe_op op_catA (pe_op op_catA (pe_slice sl_tupA (pv 3) po_none (po_some (pv 5))) (pe_tup (pa_cons (pv 8) pa_nil))) (pe_slice sl_tupA (pv 3) (po_some (pe_op op_add (pv 5) pe_int)) po_none)))
      (pss_one (ps_for PassesOwn.never rfl (pi_list (pe_lst (pa_cons (pe_meth (pv 1) T.cl T.Track_changed.m (ok_Track_changed T) (hr.mono (by decide)) T.Track_changed.b .nil pass0 (pa_cons (pv 9) pa_nil)) (pa_cons (pe_methK0 (ks := ["change"]) (pv 1) T.cl T.Track_changed.m (ok_Track_changed T) (hr.mono (by decide)) (KB_changed T) pass0 (pk_cons (pv 9) pk_nil)) pa_nil)))) (pg_name (i := 11) sclaw_changed_right.nd rfl (Or.inl rfl)) (pss_one (ps_if (pt_not (pt_val (pe_callG hg (ok_law_same T) (hr.mono (by decide)) (by rfl) T.law_same.g T.law_same.F.kp T.law_same.b .nil pass0 (pa_cons (pv 11) (pa_cons (pv 2) (pa_cons (pv 10) pa_nil)))))) (pss_one (ps_ret pe_bl)) pss_nil)))))) pss_nil)))))))
      (pss_one (ps_ret pe_bl))))), ?_⟩
    have hf := ht.facts
    have hr0 := ht.right
    obtain ⟨dx, t, hx, hd, hL, h0⟩ := id ht
    obtain ⟨a, xs, e, hs, ha⟩ := hd.of_tup
    injection e with e
    subst e
    have l := ha.length
    refine ⟨.ref x, rfl, x, dx, _, rfl, hx, x, dx, _, .int L, rfl, hx, rfl, .ref x, rfl, x, dx, _, rfl, hx, x, dx, _, .ref t, rfl, hx, rfl, _, _, rfl, ?_⟩
    refine ⟨by show 6 ≤ sizeLine; decide, fun o no => ?_⟩
    have s0 := same_new (o := HO.lst (parts.map V.str)) no
    have no' : o ≠ p := hp.ne no
    have ho : (upd H o (.lst (parts.map V.str))) o = some (.lst (parts.map V.str)) := upd_same
    have hp0 := hp.same s0
    show tSeq _ _ _ _ (upd H o (.lst (parts.map V.str)))
    generalize upd H o (.lst (parts.map V.str)) = H0 at s0 ho hp0
    have pl0 := Pu.pl hp0
    have ht0 := ht.same s0
    have hx0 := s0 _ _ hx
    have hxp : x ≠ p := by rintro rfl; obtain ⟨l, e⟩ := pl0; rw [hx0] at e; cases e
    have hs0 := s0.seqT hs
    have ha0 := ha.same s0
    refine ⟨_, rfl, t, xs, rfl, .inr hs0, _, rfl, ?_, ?_, for_range (lo := 0) (n := xs.length) (fun i σ H' => ∃ y5 y6 y7 y8 y9 yA yB, σ = [some (.ref p), some (.ref x), some (.int L), some (.ref t), some (.ref o), y5, y6, y7, y8, y9, yA, yB] ∧ Sm p H0 H' ∧ Pu (b + 64 * (xs.length - i)) H' p) ⟨_, _, _, _, _, _, _, rfl, .refl _ _, hp0.mono (by omega)⟩ ?_ ?_⟩
    · omega
    · omega
    · rintro i σ H1 hi ⟨y5, y6, y7, y8, y9, yA, yB, rfl, s1, hp1⟩
      rw [Int.zero_add]
      have hp1' : Pu (b + 64 * (xs.length - (i + 1)) + 64) H1 p := hp1.mono (by omega)
      obtain ⟨c, ys, z, es, hb, hdi, hsb, hab, lz, hnm, l7', zo, zold⟩ := row_at ha0 hf.1 hi
      have hs1 := s1.tup pl0 hs0
      have hsb1 := s1.tup pl0 hsb
      refine ⟨_, rfl, _, rfl, _, rfl, t, xs, i, .ref c, rfl, rfl, hs1, atI_nat hb, c, _, 0, .str z, rfl, rfl, hsb1, atI_nat (j := 0) rfl, _, rfl, p, z, L, _, rfl, hp1', zo, zold, hL.1, hL.2, fun r f H2 s2 hp2 hrf hpf hnf => ?_⟩
      have s02 := s1.trans s2
      have pl1 := Pu.pl hp1
      have hs2 := s02.tup pl0 hs0
      have hsb2 := s02.tup pl0 hsb
      have ht2 := ht0.sm s02 pl0
      have hx2 := s02 _ _ hxp hx0
      have ho2 := s02 _ _ no' ho
      have ha2 := ha0.sm s02 pl0
      have hab2 := hab.sm s02 pl0
      have hpl : plOf z ds 0 = some i := by
        have := plOf_at (i := 0) ht.nodup hdi
        rw [hnm, Nat.zero_add] at this
        exact this
      obtain ⟨z', m', f', t', u', g', e', rfl, _⟩ := passable hpf
      obtain ⟨r', zs, e2, hr, hzs⟩ := hrf.of_tup
      injection e2 with e2
      subst e2
      generalize hfs : [PyData.str z', m', .int f', .int t', u', .int g', e'] = fs at hzs hpf hnf
      have lfs : fs.length = 7 := by rw [← hfs]; rfl
      have lzs : zs.length = 7 := by rw [hzs.length, lfs]
      have lys : (V.str z :: ys).length = 7 := by rw [hab2.length, l7']
      generalize hyy : V.str z :: ys = yy at hsb2 hab2 lys
      generalize hee : PyData.str z :: es = ee at hab2 hdi hnm l7'
      refine ⟨6, rfl, by decide, by decide, for_range (lo := 0) (n := 6) (fun j σ H' => ∃ y7 y8 y9 yA yB, σ = [some (.ref p), some (.ref x), some (.int L), some (.ref t), some (.ref o), some (.int (i : Nat)), some (.ref r), y7, y8, y9, yA, yB] ∧ Same H2 H') ⟨_, _, _, _, _, rfl, .refl H2⟩ ?_ ?_⟩
      · rintro j σ H3 hj ⟨z7, z8, z9, zA, zB, rfl, s3⟩
        rw [Int.zero_add]
        obtain ⟨w, hw⟩ : ∃ w, zs[j + 1]? = some w := ⟨_, List.getElem?_eq_getElem (by omega)⟩
        obtain ⟨fw, hfw, kw⟩ := hzs.get hw
        refine evS_mid (xs := yy) (i := j + 1) (k := j + 2) (v := w) (evS_of (b := c) (fun R h => ⟨_, rfl, _, rfl, t, xs, i, .ref c, rfl, rfl, s3.seqT hs2, atI_nat hb, h⟩) (s3.seqT hsb2))
          (fun H' s => evS_of (b := c) (fun R h => ⟨_, rfl, _, rfl, t, xs, i, .ref c, rfl, rfl, (s3.trans s).seqT hs2, atI_nat hb, h⟩) ((s3.trans s).seqT hsb2))
          (fun H' R h => part_succ rfl h) (fun H' R h => part_succ rfl h) (fun H' s R h => ⟨_, rfl, _, rfl, _, _, rfl, rfl, r, zs, _, w, rfl, rfl, (s3.trans s).seqT hr, atI_nat (j := j + 1) hw, h⟩) (by omega) _ fun B H4 s4 hB => ?_
        rw [take_set (by omega)] at hB
        have s24 := s3.trans s4
        have hbent : ∀ {H'}, Same H4 H' → Dn K p H' (.ref B) (.tuple (ee.set (j + 1) fw)) := fun {H'} s => .tup (s.seqT hB) ((DnAll.set kw (j + 1) hab2).same (s24.trans s))
        refine ⟨_, rfl, _, rfl, Nat.zero_le _, fun o2 no2 => ?_⟩
        have s5 := same_new (o := HO.lst []) no2
        refine ⟨p, .ref B, .tuple (ee.set (j + 1) fw), L, o2, [], rfl, hbent s5, .inl (.inl upd_same), fun H6 s6 => ⟨_, rfl, ite2 (fun cc => ?_) (fun _ => ?_)⟩⟩
        · have hpass : isPass L (.tuple (ee.set (j + 1) fw)) = true := (Bool.and_eq_true_iff.mp cc).1
          obtain ⟨pt, hpt, hpi, lpt⟩ := part_at j hj
          have s26 := (s24.trans s5).trans s6
          have hpt' : (parts.map V.str)[j]? = some (.str pt) := by rw [List.getElem?_map, hpt]; rfl
          have ho6 := s26 _ _ ho2
          refine ⟨_, rfl, _, rfl, t, xs, i, .ref c, rfl, rfl, s26.seqT hs2, atI_nat hb, c, yy, 0, .str z, rfl, rfl, s26.seqT hsb2, atI_nat (j := 0) (by rw [← hyy]; rfl), _, rfl, _, rfl, o, _, j, .str pt, rfl, rfl, SqL.of ho6, atI_nat hpt', _, rfl, _, rfl, _, _, rfl, rfl, r, zs, _, w, rfl, rfl, s26.seqT hr, atI_nat (j := j + 1) hw, by show 3 ≤ sizeLine; decide, fun F nF => ?_⟩
          have s7 := same_new (o := HO.tup [V.str z, .str pt, w]) nF
          have hF : (upd H6 F (.tup [V.str z, .str pt, w])) F = some (.tup [V.str z, .str pt, w]) := upd_same
          show tSeq _ _ _ _ (upd H6 F (.tup [V.str z, .str pt, w]))
          generalize upd H6 F (.tup [V.str z, .str pt, w]) = H7 at s7 hF
          have s27 := s26.trans s7
          have s47 := (s5.trans s6).trans s7
          refine evS_mid (xs := xs) (i := i) (k := i + 1) (v := .ref B) (evS_var (i := 3) rfl (s27.seqT hs2)) (fun H' s => evS_var (i := 3) rfl ((s27.trans s).seqT hs2)) (fun H' R h => part_var rfl h) (fun H' R h => part_succ rfl h) (fun H' s R h => ⟨_, rfl, h⟩) (by omega) _ fun D H8 s8 hD => ?_
          rw [take_set hi] at hD
          have s28 := s27.trans s8
          have fwr : firstWrong L (ds.set i (.tuple (ee.set (j + 1) fw))) 0 [] = none := by
            refine fw_set hr0 hdi hpass ?_
            rw [← hee]
            rfl
          have chg : ∀ {H'}, Same H7 H' → Chg K p F H' ds z pt fw i (j + 1) ee := fun {H'} s => ⟨⟨w, .inl (.inl (s _ _ hF)), kw.same (s27.trans s)⟩, lz, hpl, hpi, hdi, l7'⟩
          have go : ∀ {H'} (s : Same H7 H') {Q' : VK}, NewTrk K T.C p H' L (ds.set i (.tuple (ee.set (j + 1) fw))) Q' → spChanged K T.C [.ref x, .ref F] H' Q' E0 := fun {H'} s {Q'} h => ⟨p, x, F, L, ds, z, pt, fw, i, j + 1, ee, rfl, ht2.same (s27.trans s), chg s, fwr, h⟩
          refine ⟨.ref x, rfl, x, dx, _, rfl, s28 _ _ hx2, rfl, _, rfl, go s8 fun m1 H9 s9 t1 => ?_⟩
          have s29 := s28.trans s9
          refine ⟨.ref x, rfl, x, dx, _, rfl, s29 _ _ hx2, rfl, _, rfl, rfl, rfl, go (s8.trans s9) fun m2 HA sA t2 => ?_⟩
          have s2A := s29.trans sA
          refine ⟨by show 2 ≤ sizeLine; decide, fun o3 no3 => ?_⟩
          have sB := same_new (o := HO.lst [V.ref m1, .ref m2]) no3
          refine ⟨o3, rfl, ⟨_, SqL.of upd_same⟩, for_mates (p := p) (m := 11) (l := 2) (ys := [m1, m2]) (es := ds.set i (.tuple (ee.set (j + 1) fw))) (L := L) (y0 := zB) rfl (by simp) (by decide) rfl (.inl (.inl upd_same)) ?_ ?_ ?_⟩
          · intro y hy
            rcases List.mem_cons.mp hy with rfl | hy
            · exact t1.same (sA.trans sB)
            · obtain rfl := List.mem_singleton.mp hy
              exact t2.same sB
          · intro y H' s Q' h
            have s8' := ((s9.trans sA).trans sB).trans s
            have s7' := s8.trans s8'
            exact ⟨_, rfl, h D H' (.refl _) (.tup (s8'.seqT hD) (DnAll.set (hbent (s47.trans s7')) i (ha2.same (s27.trans s7'))))⟩
          · intro y H' s
            exact ⟨_, _, _, _, _, rfl, (s2A.trans sB).trans s⟩
        · exact ⟨_, _, _, _, _, rfl, (s24.trans s5).trans s6⟩
      · rintro σ H3 ⟨z7, z8, z9, zA, zB, rfl, s3⟩
        exact ⟨_, _, _, _, _, _, _, rfl, s02.same s3, hp2.same s3⟩
    · rintro σ H1 ⟨y5, y6, y7, y8, y9, yA, yB, rfl, s1, hp1⟩
      exact q H1 ((Sm.of_same s0).trans s1) (hp1.mono (by omega))
set_option maxHeartbeats 1000000 in
theorem ok_law_right (T : Txt w.params K mg) : FnG P w K mg base CX0 11 T.law_right.f T.law_right.fd ["purse"] (spRight K) := by
  refine T.law_right.F.okN sclaw_right (fun vs H Q E h => ?_) (fun cdv A outer s H vs Q E hg hr h => ?_)
  · obtain ⟨p, rfl, _⟩ := h
    rfl
  · obtain ⟨p, rfl, hp, q⟩ := h
    have hu := hr.units
    refine ⟨_, (pss_cons (ps_set (i := 1) sclaw_right.nd rfl (Or.inl rfl) (pe_call (ok_law_long T) (hr.mono (by decide)) (by rfl) T.law_long.g T.law_long.F.kp T.law_long.b .nil pass0 (pa_cons (pv 0) pa_nil)))
      (pss_cons (ps_set (i := 2) sclaw_right.nd rfl (Or.inl rfl) (pe_call (ok_law_faders T) (hr.mono (by decide)) (by rfl) T.law_faders.g T.law_faders.F.kp T.law_faders.b .nil pass0 (pa_cons (pv 0) (pa_cons (pv 1) (pa_cons pe_int pa_nil)))))
      (pss_cons (ps_set (i := 3) sclaw_right.nd rfl (Or.inl rfl) (pe_make ⟨T.makes, T.Track_init.m.at_, T.Track_init.m.fn, T.kC⟩ (ok_Track_init T) (hr.mono (by decide)) (by rfl) T.gC T.Track_init.b .nil pass0 (pa_cons (pv 1) (pa_cons (pv 2) pa_nil))))
      (pss_cons (ps_set (i := 4) sclaw_right.nd rfl (Or.inl rfl) (pe_call (ok_law_fader T) (hr.mono (by decide)) (by rfl) T.law_fader.g T.law_fader.F.kp T.law_fader.b .nil pass0 (pa_cons (pv 0) (pa_cons (pe_call (ok_law_pick T) (hr.mono (by decide)) (by rfl) T.law_pick.g T.law_pick.F.kp T.law_pick.b .nil pass0 (pa_cons (pv 0) (pa_cons (pe_lst (pa_cons pe_str (pa_cons pe_str (pa_cons pe_str (pa_cons pe_str pa_nil))))) pa_nil))) (pa_cons (pv 1) pa_nil)))))
      (pss_cons (ps_if (PW.pt (pw_or (pt_not (pt_val (pe_callG hg (ok_law_put_right T) (hr.mono (by decide)) (by rfl) T.law_put_right.g T.law_put_right.F.kp T.law_put_right.b .nil pass0 (pa_cons (pv 3) (pa_cons (pv 4) pa_nil))))) (pw_or (pt_not (pt_val (pe_callG hg (ok_law_turned_right T) (hr.mono (by decide)) (by rfl) T.law_turned_right.g T.law_turned_right.F.kp T.law_turned_right.b .nil pass0 (pa_cons (pv 3) pa_nil)))) (pw_or1 (pt_not (pt_val (pe_callG hg (ok_law_changed_right T) (hr.mono (by decide)) (by rfl) T.law_changed_right.g T.law_changed_right.F.kp T.law_changed_right.b .nil pass0 (pa_cons (pv 0) (pa_cons (pv 3) pa_nil))))))))) (pss_one (ps_ret pe_bl)) pss_nil)
      (pss_one (ps_ret (pe_callG hg (ok_law_same T) (hr.mono (by decide)) (by rfl) T.law_same.g T.law_same.F.kp T.law_same.b .nil pass0 (pa_cons (pv 3) (pa_cons (pv 1) (pa_cons (pv 2) pa_nil))))))))))), ?_⟩
    refine ⟨_, rfl, p, 899999998, rfl, hp, fun L H1 L0 L1 s1 hp1 => ?_⟩
    refine ⟨_, rfl, _, rfl, p, L, 7, 899999398, rfl, hp1, by decide, L0, L1, fun t ds i H2 s2 hp2 hd hdr => ?_⟩
    obtain ⟨i14, l7, hall, hnames⟩ := hdr
    obtain ⟨t8, tn, tw⟩ := turned_ok i i14
    have hnod : (ds.map nameOf).Nodup := by
      rw [hnames]
      exact tn.sublist (List.take_sublist _ _)
    have hr0 : firstWrong L ds 0 [] = none := fw_mk hall (by omega) hnod fun _ _ z => by cases z
    refine ⟨_, rfl, _, rfl, ?_⟩
    intro y dy ny ndy ne
    have s3 : Same H2 (upd (upd H2 dy (.own y)) y (.ins T.C dy [])) := (same_new ndy).new (by rw [upd_ne (Ne.symm ne)]; exact ny)
    refine ⟨p, y, dy, t, L, ds, rfl, upd_same, hd.same s3, ⟨L0, L1⟩, hr0, fun H4 s4 h4 => ⟨rfl, ?_⟩⟩
    have s24 : Same H2 H4 := fun b o e => s4 b o (ne_of_none e ny) (s3 b o e)
    have hd4 := hd.same s24
    have ht4 : Trk K T.C p y H4 L ds := ⟨dy, t, h4, hd4, ⟨L0, L1⟩, hr0⟩
    have hp4 := hp2.same s24
    have s04 : Sm p H H4 := (s1.trans s2).same s24
    refine ⟨_, rfl, _, rfl, by show 4 ≤ sizeLine; decide, fun m hm => ?_⟩
    have s5 := same_new (o := HO.lst [V.str "zz", .str "q", .str "old0", .str "touch"]) hm
    refine ⟨p, m, _, 899999397, rfl, hp4.same s5, .inl (.inl upd_same), hp4.ne hm, (by show 0 < 4; decide), (by show 4 < 1000; decide), fun x H6 hx s6 hp6 => ?_⟩
    have s46 := (Sm.of_same (p := p) s5).trans s6
    obtain ⟨z, rfl, zo, zold, znot⟩ : ∃ z : Str, x = .str z ∧ nameOk z = true ∧ z ≠ "old" ∧ z ∉ words := by
      simp only [List.mem_cons, List.not_mem_nil, or_false] at hx
      rcases hx with rfl | rfl | rfl | rfl <;> exact ⟨_, rfl, by decide +kernel, by decide +kernel, by decide +kernel⟩
    refine ⟨_, rfl, p, z, L, 899999333, rfl, hp6, zo, zold, L0, L1, fun r d H7 s7 hp7 hrd hpd hnd => ?_⟩
    have pl4 := Pu.pl hp4
    have s47 := s46.trans s7
    have ht7 := ht4.sm s47 pl4
    have hd7 := hd4.sm s47 pl4
    have s07 := s04.trans s47
    refine ⟨_, rfl, _, rfl, p, y, L, ds, .ref r, d, rfl, ht7, by omega, hrd, hpd, ?_, fun H8 s8 => ⟨true, rfl, iteF ?_⟩⟩
    · intro e he ee
      have h1 : nameOf e ∈ (turned i).take ds.length := by
        rw [← hnames]
        exact List.mem_map_of_mem he
      have h2 := (tw _ (List.mem_of_mem_take h1)).2.2.2
      rw [ee, hnd] at h2
      exact znot h2
    refine ⟨_, rfl, p, y, L, ds, rfl, ht7.same s8, fun H9 s9 => ⟨true, rfl, iteF ?_⟩⟩
    have s79 := s8.trans s9
    refine ⟨_, rfl, _, rfl, p, y, L, ds, 899998733, rfl, ht7.same s79, l7, hp7.same s79, fun HA sA hpA => ⟨true, rfl, iteF ?_⟩⟩
    have pl9 := (Pu.pl hp7).same s79
    refine ⟨_, rfl, _, rfl, _, rfl, p, y, t, L, ds, rfl, (ht7.same s79).sm sA pl9, (hd7.same s79).sm sA pl9, fun HB sB => ?_⟩
    exact q HB (((s07.same s79).trans sA).same sB)
set_option maxHeartbeats 1000000 in
theorem ok_law_purse (T : Txt w.params K mg) : FnOk P w K mg base CX0 1 T.law_purse.f T.law_purse.fd ["script", "k"] (spPurse K) := by
  refine T.law_purse.F.ok sclaw_purse (fun vs H Q E h => ?_) (fun cdv A outer s H vs Q E hr h => ?_)
  · obtain ⟨s', ns, k, rfl, _⟩ := h
    rfl
  · obtain ⟨s', ns, k, rfl, hs, l63, hb, hk, q⟩ := h
    refine ⟨_, (pss_cons (ps_if (pt_cmpR op_lt (pv 1) (pe_callB call_len_seq (by rfl) T.z_len (by decide +kernel) (pa_cons (pv 0) pa_nil)) (nomark _)) (pss_cons (ps_set (i := 2) sclaw_purse.nd rfl (Or.inl rfl) (pe_ix ix_list (pv 0) (pv 1) (fun _ _ => rfl)))
      (pss_cons (ps_set (i := 3) sclaw_purse.nd rfl (Or.inl rfl) (pe_ifExp (PW.pt (pw_or (pt_cmpR op_lt (pv 2) pe_int (nomark _)) (pw_or1 (pt_cmpR op_ge (pv 2) (pe_op op_pow pe_int pe_int) (nomark _))))) (pe_callB call_abs (by rfl) T.z_abs (by decide +kernel) (pa_cons (pv 2) pa_nil)) pe_int))
      (pss_one (ps_ret (pe_lst (pa_cons (pv 3) (pa_cons (pe_op op_mod (pe_callTy call_int1 (by rfl) T.z_int (by decide +kernel) (pa_cons (pe_op op_add (pe_op op_add (pe_op op_mulX (pv 2) pe_int) (pe_op op_mulX pe_int (pv 1))) pe_int) pa_nil)) pe_int) (pa_cons pe_int pa_nil)))))))) pss_nil)
      (pss_cons (ps_set (i := 4) sclaw_purse.nd rfl (Or.inl rfl) (pe_op op_add (pe_op op_mulX pe_int (pv 1)) pe_int))
      (pss_cons (ps_for PassesOwn.never rfl (pi_list (pe_slice sl_list (pv 0) po_none (po_some pe_int))) (pg_name (i := 2) sclaw_purse.nd rfl (Or.inl rfl)) (pss_one (ps_set (i := 4) sclaw_purse.nd rfl (Or.inl rfl) (pe_op op_mod (pe_callTy call_int1 (by rfl) T.z_int (by decide +kernel) (pa_cons (pe_op op_add (pe_op op_mulX (pv 4) pe_int) (pv 2)) pa_nil)) pe_int))))
      (pss_one (ps_ret (pe_lst (pa_cons pe_int (pa_cons (pv 4) (pa_cons pe_int pa_nil))))))))), ?_⟩
    refine ⟨_, rfl, _, rfl, s', _, rfl, .inl hs, _, _, rfl, rfl, _, rfl, ite2 (fun c => ?_) (fun c => ?_)⟩
    · have lk : k < ns.length := by
        have := of_decide_eq_true c
        rw [List.length_map] at this
        omega
      have e : (ns.map V.int)[k]? = some (.int ns[k]) := by rw [List.getElem?_map, List.getElem?_eq_getElem lk]; rfl
      have b := hb _ (List.getElem_mem lk)
      generalize ns[k] = cell at e b
      refine ⟨_, rfl, _, rfl, s', _, k, .int cell, rfl, rfl, hs, atI_nat e, ?_⟩
      -- what is made of the cell
      have key : ∀ (d : Int), Builtin.Int.intBits d ≤ 1048576 → tRet (tLst (tCons (tVar 3) (tCons (tOp (rI (fun _ j => 0 < j) fun i j => .int (i % j)) (tCB (fun xs H Q => (∃ i, xs = [V.int i] ∧ Q (V.int i) H) ∨ ∃ k, xs = [V.bl k] ∧ Q (V.int (if k = true then 1 else 0)) H)
          (tCons (tOp (rI0 fun i j => .int (i + j)) (tOp (rI0 fun i j => .int (i + j)) (tOp (rI CMulX fun i j => .int (i * j)) (tVar 2) (tC (.int 39373))) (tOp (rI CMulX fun i j => .int (i * j)) (tC (.int 104723)) (tVar 1))) (tC (.int 17))) tNil)) (tC (.int 2147483629))) (tCons (tC (.int 0)) tNil))))
          { nx := fun _ H' => Q .non H', rt := Q } [some (.ref s'), some (.int (k : Int)), some (.int cell), some (.int d), none] H := by
        intro d bd
        refine ⟨_, rfl, _, rfl, _, _, rfl, rfl, .left b (by decide), _, rfl, _, _, rfl, rfl, CMulX.small (by decide) (by omega), _, _, rfl, rfl, _, _, rfl, rfl, .inl ⟨_, rfl, _, _, rfl, rfl, (by show (0 : Int) < 2147483629; decide), by show 3 ≤ sizeLine; decide, fun p np => ?_⟩⟩
        refine q p _ np (same_new np) ⟨_, _, _, upd_same, bd, Int.emod_nonneg _ (by decide), ?_, Int.le_refl _, by decide⟩
        have := Int.emod_lt_of_pos (cell * 39373 + 104723 * (k : Int) + 17) (by decide : (0 : Int) < 2147483629)
        omega
      have ba : Builtin.Int.intBits (if cell < 0 then -cell else cell) ≤ 1048576 := by
        refine Nat.le_trans (bits_mono ?_) b
        split <;> omega
      refine ⟨_, rfl, _, _, rfl, rfl, _, rfl, ite2 (fun c1 => ?_) (fun c1 => ?_)⟩
      · exact ⟨_, rfl, _, rfl, key _ ba⟩
      · refine ⟨_, rfl, _, _, rfl, rfl, (by show (0 : Int) ≤ 18 ∧ (18 : Int) ≤ 1000000 ∧ (10 : Int).natAbs < 2 ^ 64; decide), _, _, rfl, rfl, _, rfl, ite2 (fun c2 => ?_) (fun c2 => ?_)⟩
        · exact ⟨_, rfl, _, rfl, key _ ba⟩
        · exact key 0 (by decide)
    · refine ⟨_, rfl, _, _, rfl, rfl, CMulX.small (by decide) (by omega), _, _, rfl, rfl, ?_⟩
      refine ⟨_, rfl, _, rfl, s', _, rfl, hs, fun o no => ?_⟩
      have s1 := same_new (o := HO.lst (cutV (ns.map V.int) none (some (4 : Int)))) no
      have ho : (upd H o (.lst (cutV (ns.map V.int) none (some (4 : Int))))) o = some (.lst ((ns.take 4).map V.int)) := by
        rw [upd_same, show (4 : Int) = ((4 : Nat) : Int) from rfl, cut_to, List.map_take]
      show ∃ a, _
      generalize upd H o (.lst (cutV (ns.map V.int) none (some (4 : Int)))) = H1 at s1 ho
      refine ⟨o, rfl, ⟨_, SqL.of ho⟩, for_list (K := K) (a := o) (xs := (ns.take 4).map V.int) (fun i σ H' => ∃ (y : Option V) (seed : Int), σ = [some (.ref s'), some (.int (k : Int)), y, none, some (.int seed)] ∧ H' = H1 ∧ 0 ≤ seed ∧ seed < 2147483648) ⟨none, _, rfl, rfl, by omega, by omega⟩ (fun i σ H' _ h => ?_) ?_ ?_⟩
      · obtain ⟨_, _, _, rfl, _⟩ := h
        exact SqL.of ho
      · rintro i y σ H' hi ⟨y0, seed, rfl, rfl, s0, s9⟩
        obtain ⟨v, hv, rfl⟩ : ∃ v, (ns.take 4)[i]? = some v ∧ y = V.int v := by
          rw [List.getElem?_map] at hi
          cases e : (ns.take 4)[i]? with
          | none => rw [e] at hi; cases hi
          | some z => rw [e] at hi; exact ⟨z, rfl, (Option.some.inj hi).symm⟩
        refine ⟨_, rfl, _, _, rfl, rfl, CMulX.small (by omega) (by decide), _, rfl, _, _, rfl, rfl, .inl ⟨_, rfl, _, _, rfl, rfl, (by show (0 : Int) < 2147483587; decide), _, _, rfl, rfl, Int.emod_nonneg _ (by decide), ?_⟩⟩
        have := Int.emod_lt_of_pos (seed * 48271 + v) (by decide : (0 : Int) < 2147483587)
        omega
      · rintro σ H' ⟨y, seed, rfl, rfl, s0, s9⟩
        refine ⟨_, rfl, by show 3 ≤ sizeLine; decide, fun p np => ?_⟩
        exact q p _ (s1.free np) (s1.trans (same_new np)) ⟨_, _, _, upd_same, by decide, s0, s9, Int.le_refl _, by decide⟩
set_option maxHeartbeats 1000000 in
theorem ok_law (T : Txt w.params K mg) : FnG P w K mg base CX0 12 T.law.f T.law.fd ["script"] (spLaw K) := by
  refine T.law.F.okN sclaw (fun vs H Q E h => ?_) (fun cdv A outer s H vs Q E hg hr h => ?_)
  · obtain ⟨s', ns, rfl, _⟩ := h
    rfl
  · obtain ⟨s', ns, rfl, hs, l63, hb, q⟩ := h
    have hu := hr.units
    obtain ⟨its1, hv1, hb1⟩ := T.Track_put.b1
    refine ⟨_, (pss_cons (ps_asg (pe_tup (pa_cons (pe_tup (pa_cons pe_str (pa_cons pe_str (pa_cons pe_int (pa_cons pe_int (pa_cons (pe_tup (pa_cons (pe_tup (pa_cons pe_int (pa_cons pe_int pa_nil))) pa_nil)) (pa_cons pe_int (pa_cons pe_str pa_nil)))))))) (pa_cons (pe_tup (pa_cons pe_str (pa_cons pe_str (pa_cons pe_int (pa_cons pe_int (pa_cons (pe_tup (pa_cons (pe_tup (pa_cons pe_int (pa_cons pe_int pa_nil))) pa_nil)) (pa_cons pe_int (pa_cons pe_str pa_nil)))))))) pa_nil))) (pg_tup (by rfl) (pgs_cons (pg_name (i := 1) sclaw.nd rfl (Or.inl rfl)) (pgs_cons (pg_name (i := 2) sclaw.nd rfl (Or.inl rfl)) pgs_nil))))
      (pss_cons (ps_set (i := 3) sclaw.nd rfl (Or.inl rfl) (pe_make ⟨T.makes, T.Track_init.m.at_, T.Track_init.m.fn, T.kC⟩ (ok_Track_init T) (hr.mono (by decide)) (by rfl) T.gC T.Track_init.b .nil pass0 (pa_cons pe_int (pa_cons (pe_tup (pa_cons (pv 1) (pa_cons (pv 2) pa_nil))) pa_nil))))
      (pss_cons (ps_if (pt_cmpR (op_neN hu) (pe_prop (pe_meth (pe_meth (pv 3) T.cl T.Track_moved.m (ok_Track_moved T) (hr.mono (by decide)) T.Track_moved.b .nil pass0 (pa_cons pe_str (pa_cons pe_int pa_nil))) T.cl T.Track_changed.m (ok_Track_changed T) (hr.mono (by decide)) T.Track_changed.b .nil pass0 (pa_cons (pe_tup (pa_cons pe_str (pa_cons pe_str (pa_cons pe_str pa_nil)))) pa_nil)) T.cl T.Track_passes.P (ok_Track_passes T) (hr.mono (by decide)) T.Track_passes.b .nil pass0 rfl) (pe_tup (pa_cons (pe_op op_catA (pe_slice sl_tupA (pv 2) po_none (po_some pe_int)) (pe_tup (pa_cons pe_str pa_nil))) (pa_cons (pv 1) pa_nil))) (nomark _)) (pss_one (ps_ret pe_bl)) pss_nil)
      (pss_cons (ps_if (PW.pt (pw_or (pt_cmpR (op_neI (ok_Track_eq T) (hr.mono (by decide)) T.hne T.hob T.Track_eq.m.at_ T.Track_eq.m.fn T.Track_eq.b pass0) (pe_meth (pv 3) T.cl T.Track_without.m (ok_Track_without T) (hr.mono (by decide)) T.Track_without.b .nil pass0 (pa_cons pe_str pa_nil)) (pe_make ⟨T.makes, T.Track_init.m.at_, T.Track_init.m.fn, T.kC⟩ (ok_Track_init T) (hr.mono (by decide)) (by rfl) T.gC T.Track_init.b .nil pass0 (pa_cons pe_int (pa_cons (pe_tup (pa_cons (pv 1) pa_nil)) pa_nil))) (nomark _)) (pw_or1 (pt_cmpR (op_neI (ok_Track_eq T) (hr.mono (by decide)) T.hne T.hob T.Track_eq.m.at_ T.Track_eq.m.fn T.Track_eq.b pass0) (pe_meth (pe_make ⟨T.makes, T.Track_init.m.at_, T.Track_init.m.fn, T.kC⟩ (ok_Track_init T) (hr.mono (by decide)) (by rfl) T.gC T.Track_init.b .nil pass0 (pa_cons pe_int (pa_cons (pe_tup (pa_cons (pv 1) pa_nil)) pa_nil))) T.cl T.Track_put.m (ok_Track_put T) (hr.mono (by decide)) hb1 hv1 pass0 (pa_cons (pv 2) pa_nil)) (pv 3) (nomark _))))) (pss_one (ps_ret pe_bl)) pss_nil)
      (pss_cons (ps_for PassesOwn.never rfl (pi_range1 (by rfl) T.z_range (pa_cons (pe_callB (call_max2 rfl) (by rfl) T.z_max (by decide +kernel) (pa_cons pe_int (pa_cons (pe_callB (call_min2 rfl) (by rfl) T.z_min (by decide +kernel) (pa_cons (pe_callB call_len_seq (by rfl) T.z_len (by decide +kernel) (pa_cons (pv 0) pa_nil)) (pa_cons pe_int pa_nil))) pa_nil))) pa_nil)) (pg_name (i := 4) sclaw.nd rfl (Or.inl rfl)) (pss_one (ps_if (pt_not (pt_val (pe_callG hg (ok_law_right T) (hr.mono (by decide)) (by rfl) T.law_right.g T.law_right.F.kp T.law_right.b .nil pass0 (pa_cons (pe_call (ok_law_purse T) (hr.mono (by decide)) (by rfl) T.law_purse.g T.law_purse.F.kp T.law_purse.b .nil pass0 (pa_cons (pv 0) (pa_cons (pv 4) pa_nil))) pa_nil)))) (pss_one (ps_ret pe_bl)) pss_nil)))
      (pss_one (ps_ret pe_bl))))))), ?_⟩
    obtain ⟨w1, w2, w3, w4, pB, pl1, pl2, pl3, pl4, nB⟩ := own_rows
    obtain ⟨e1, e2, e3, e4, e5, e6⟩ := own_eqs
    obtain ⟨ka, kb, kto, kla, kst, kon, kta⟩ := own_oks
    have L12 : (1 : Int) ≤ 12 ∧ (12 : Int) ≤ 1000000000000 := by decide
    refine ⟨by show 2 ≤ sizeLine; decide, fun t1 n1 => ⟨by show 1 ≤ sizeLine; decide, fun t2 n2 => ⟨by show 7 ≤ sizeLine; decide, fun ta na => ?_⟩⟩⟩
    have x1 := same_new (o := HO.tup [V.int 3, .int 5]) n1
    have x2 := same_new (o := HO.tup [V.ref t1]) n2
    have x3 := same_new (o := HO.tup [V.str "a", .str "touch", .int 2, .int 8, .ref t2, .int 3, .str "stop"]) na
    have ya : Dn K s' _ (.ref ta) aD := .tup (.inl (.inl upd_same)) (.cons (.str _ ka) (.cons (.str _ kto) (.cons (.int 2) (.cons (.int 8) (.cons (dn_pair (x3 _ _ (x2 _ _ upd_same)) (x3 _ _ upd_same)) (.cons (.int 3) (.cons (.str _ kst) .nil)))))))
    refine ⟨by show 2 ≤ sizeLine; decide, fun t3 n3 => ⟨by show 1 ≤ sizeLine; decide, fun t4 n4 => ⟨by show 7 ≤ sizeLine; decide, fun tb nb => ⟨by show 2 ≤ sizeLine; decide, fun t5 n5 => ⟨t5, _, rfl, .inl (.inl upd_same), rfl, .ref ta, _, rfl, .ref tb, _, rfl, rfl, ?_⟩⟩⟩⟩⟩
    have x4 := same_new (o := HO.tup [V.int 6, .int 7]) n3
    have x5 := same_new (o := HO.tup [V.ref t3]) n4
    have x6 := same_new (o := HO.tup [V.str "b", .str "latch", .int 4, .int 10, .ref t4, .int 0, .str "stop"]) nb
    have yb : Dn K s' _ (.ref tb) bD := .tup (.inl (.inl upd_same)) (.cons (.str _ kb) (.cons (.str _ kla) (.cons (.int 4) (.cons (.int 10) (.cons (dn_pair (x6 _ _ (x5 _ _ upd_same)) (x6 _ _ upd_same)) (.cons (.int 0) (.cons (.str _ kst) .nil)))))))
    have x06 := ((((x1.trans x2).trans x3).trans x4).trans x5).trans x6
    have ya6 := ya.same ((x4.trans x5).trans x6)
    clear ya x1 x2 x3 x4 x5 x6 n1 n2 na n3 n4 nb
    generalize upd (upd (upd (upd (upd (upd H t1 (.tup [V.int 3, .int 5])) t2 (.tup [V.ref t1])) ta (.tup [V.str "a", .str "touch", .int 2, .int 8, .ref t2, .int 3, .str "stop"])) t3 (.tup [V.int 6, .int 7])) t4 (.tup [V.ref t3])) tb (.tup [V.str "b", .str "latch", .int 4, .int 10, .ref t4, .int 0, .str "stop"]) = H6 at x06 ya6 yb n5 ⊢
    have x7 := same_new (o := HO.tup [V.ref ta, .ref tb]) n5
    have s07 := x06.trans x7
    have ya7 := ya6.same x7
    have yb7 := yb.same x7
    clear x7 ya6 yb x06 n5
    generalize upd H6 t5 (.tup [V.ref ta, .ref tb]) = H7 at s07 ya7 yb7 ⊢
    -- mine
    refine ⟨_, rfl, _, rfl, by show 2 ≤ sizeLine; decide, fun t6 n6 => ?_⟩
    have s8 := same_new (o := HO.tup [V.ref ta, .ref tb]) n6
    have hd8 : Dn K s' _ (.ref t6) (.tuple [aD, bD]) := .tup (.inl (.inl upd_same)) (.cons (ya7.same s8) (.cons (yb7.same s8) .nil))
    have s08 := s07.trans s8
    have ya8 := ya7.same s8
    have yb8 := yb7.same s8
    clear ya7 yb7 s07 n6
    generalize upd H7 t6 (.tup [V.ref ta, .ref tb]) = H8 at s8 hd8 s08 ya8 yb8 ⊢
    clear s8
    intro y dz ny ndz nez
    refine spInit_at ny ndz nez hd8 L12 w1 fun H9 s9 hty => ⟨rfl, ?_⟩
    clear ny ndz nez
    have s09 := s08.trans s9
    have ya9 := ya8.same s9
    have yb9 := yb8.same s9
    obtain ⟨dy, ty, hy, _⟩ := id hty
    clear ya8 yb8 hd8 s08 s9
    -- mine.moved("a", 1).changed(("b", "tail", "on")).passes
    refine ⟨.ref y, rfl, y, dy, _, rfl, hy, rfl, s', y, 12, [aD, bD], "a", 0, 1, aD, rfl, ka, hty, pl1, rfl, by decide, w2, fun m1 HA sA t1' => ?_⟩
    obtain ⟨d1, u1, hm1, _⟩ := id t1'
    refine ⟨m1, d1, _, rfl, hm1, rfl, by show 3 ≤ sizeLine; decide, fun c nc => ?_⟩
    have sB := same_new (o := HO.tup [V.str "b", .str "tail", .str "on"]) nc
    refine ⟨s', m1, c, 12, [bD, aD], "b", "tail", .str "on", 0, 6, bE, rfl, t1'.same sB, ⟨⟨.str "on", .inl (.inl upd_same), .str _ kon⟩, kb, pl3, by decide +kernel, rfl, rfl⟩, w3, fun m2 HC sC t2' => ?_⟩
    obtain ⟨d2, u2, hm2, hdm2, _⟩ := id t2'
    have s9C := (sA.trans sB).trans sC
    clear sA sB sC
    refine ⟨m2, d2, _, rfl, hm2, m2, d2, _, .ref u2, rfl, hm2, rfl, ?_⟩
    have hlC : Dn K s' HC (.ref u2) (.tuple [bOn, aD]) := hdm2
    obtain ⟨b0, ys, eb, hsb, hab⟩ := (show Dn K s' H9 (.ref tb) (.tuple bE) from yb9).of_tup
    injection eb with eb
    subst eb
    have lys := hab.length
    refine evS_cat (evS_sl (tl := tNoPart) (th := tPart (tC (.int 6))) (evS_var (i := 2) rfl (s9C.seqT hsb)) (fun _ _ => part_none) (fun _ _ => part_c)) (fun H' _ => evS_tup1 (te := tC (.str "on")) (v := .str "on") fun R h => h) (by have := cutV_length ys none (some 6); rw [sizeLine_eq]; simp only [List.length_cons, List.length_nil]; rw [lys] at this; simp [bE] at this; omega) _ fun r HD sD hr => ?_
    rw [show (6 : Int) = ((6 : Nat) : Int) from rfl, cut_to] at hr
    have hrD : Dn K s' HD (.ref r) bOn := (.tup hr (((hab.same (s9C.trans sD)).take 6).append (.cons (.str _ kon) .nil)) : Dn K s' HD (.ref r) (.tuple (bE.take 6 ++ [.str "on"])))
    refine ⟨_, rfl, by show 2 ≤ sizeLine; decide, fun tr ntr => ?_⟩
    have sE := same_new (o := HO.tup [V.ref r, .ref ta]) ntr
    have hrE : Dn K s' _ (.ref tr) (.tuple [bOn, aD]) := .tup (.inl (.inl upd_same)) (.cons (hrD.same sE) (.cons (ya9.same ((s9C.trans sD).trans sE)) .nil))
    have s9E := (s9C.trans sD).trans sE
    have hlE := hlC.same (sD.trans sE)
    generalize upd HD tr (.tup [V.ref r, .ref ta]) = HE at hrE s9E hlE ⊢
    refine ⟨s', _, _, hlE, hrE, e1, e1, _, rfl, ?_⟩
    show if (!PyData.eqv (.tuple [bOn, aD]) (.tuple [bOn, aD])) = true then _ else _
    rw [e2]
    refine iteF ?_
    -- mine.without("b") != Track(12, (a,))
    refine ⟨.ref y, rfl, y, dy, _, rfl, s9E _ _ hy, rfl, s', y, 12, [aD, bD], "b", 1, rfl, kb, hty.same s9E, pl2, w4, fun m3 HF sF t3' => ⟨_, rfl, by show 1 ≤ sizeLine; decide, fun tq nq => ?_⟩⟩
    have sG := same_new (o := HO.tup [V.ref ta]) nq
    have s9G := (s9E.trans sF).trans sG
    intro y2 dz ny ndz nez
    refine spInit_at ny ndz nez (.tup (.inl (.inl upd_same)) (.cons (ya9.same s9G) .nil)) L12 w4 fun HH sH ht4 => ⟨rfl, ?_⟩
    have t3H : Trk K T.C s' m3 HH 12 [aD] := t3'.same (sG.trans sH)
    obtain ⟨d3, u3, hm3, _⟩ := id t3H
    obtain ⟨d4, u4, hm4, _⟩ := id ht4
    refine ⟨⟨m3, y2, d3, d4, _, _, rfl, rfl, hm3, hm4, s', 12, [aD], t3H, ht4, e3, e4⟩, fun HI sI => ⟨_, rfl, iteF ?_⟩⟩
    have s9I := (s9G.trans sH).trans sI
    -- Track(12, (a,)).put(b) != mine
    refine ⟨_, rfl, by show 1 ≤ sizeLine; decide, fun tq2 nq2 => ?_⟩
    have sJ := same_new (o := HO.tup [V.ref ta]) nq2
    have s9J := s9I.trans sJ
    intro y3 dz3 ny3 ndz3 nez3
    refine spInit_at ny3 ndz3 nez3 (.tup (.inl (.inl upd_same)) (.cons (ya9.same s9J) .nil)) L12 w4 fun HK sK ht5 => ⟨rfl, ?_⟩
    obtain ⟨d5, u5, hm5, _⟩ := id ht5
    have s9K := s9J.trans sK
    refine ⟨y3, d5, _, rfl, hm5, rfl, _, rfl, s', y3, 12, [aD], .ref tb, .non, bD, 1, rfl, ht5, yb9.same s9K, by decide, .inr ⟨rfl, rfl⟩, by decide, w1, pB, by rw [nB]; exact pl4, fun m4 HL sL t6' => ?_⟩
    have s9L := s9K.trans sL
    have t6L : Trk K T.C s' m4 HL 12 [aD, bD] := t6'
    obtain ⟨d6, u6, hm6, _⟩ := id t6L
    refine ⟨_, rfl, ⟨m4, y, d6, dy, _, _, rfl, rfl, hm6, s9L _ _ hy, s', 12, [aD, bD], t6L, hty.same s9L, e5, e6⟩, fun HM sM => ⟨_, rfl, iteF ?_⟩⟩
    have s0M := (s09.trans s9L).trans sM
    have hsM := s0M.seq hs
    obtain ⟨n, hn, n5⟩ : ∃ n : Nat, (if (if (5 : Int) < ((ns.map V.int).length : Int) then 5 else ((ns.map V.int).length : Int)) > 2 then (if (5 : Int) < ((ns.map V.int).length : Int) then 5 else ((ns.map V.int).length : Int)) else 2) = (n : Int) ∧ n ≤ 5 := by
      refine ⟨(if (if (5 : Int) < ((ns.map V.int).length : Int) then 5 else ((ns.map V.int).length : Int)) > 2 then (if (5 : Int) < ((ns.map V.int).length : Int) then 5 else ((ns.map V.int).length : Int)) else 2).toNat, ?_, ?_⟩ <;> split <;> (try split) <;> omega
    refine ⟨_, rfl, s', _, rfl, .inl hsM, _, _, rfl, _, _, rfl, n, congrArg (fun i => [V.int i]) hn, by omega, by omega, for_range (lo := 0) (n := n) (fun i σ H' => ∃ y4, σ = [some (.ref s'), some (.ref ta), some (.ref tb), some (.ref y), y4] ∧ SqL K H' s' (ns.map V.int)) ⟨_, rfl, hsM⟩ ?_ ?_⟩
    · rintro i σ H1 hi ⟨y4, rfl, h1⟩
      rw [Int.zero_add]
      exact ⟨_, rfl, _, rfl, s', ns, i, rfl, h1, l63, hb, by omega, fun p H2 np s2 hp => ⟨p, rfl, hp, fun H3 sm => ⟨true, rfl, iteF ⟨_, rfl, h1.sm' np s2 sm⟩⟩⟩⟩
    · rintro σ H1 ⟨y4, rfl, h1⟩
      exact q H1
end
end My

namespace My
open PySem PySem.Spec PyProof.Rows L2
theorem fin_mk {P : Program} {w : World} {K : PySem.W.Frag} {mg : Str → Option Value} {fa fl : Addr} (hfa : mg "law" = some (.ref fa)) (h : ∃ T : Txt w.params K mg, T.law.f = fl) :
    ∃ fd : FuncData, (∀ (s : Shared) (u : Value), BindsTo s fd ⟨[u], []⟩ [("script", u)]) ∧ ∀ base : Heap, K.In base → base.Ns mainGlobals mg → FnG P w K mg base CX0 12 fa fd ["script"] (spLaw K) := by
  obtain ⟨T, _⟩ := h
  have e := hfa.symm.trans T.law.g
  obtain ⟨oc, od, kV, doc, pm, an, cdv, ct, osl, e2, lk, hcd⟩ := T.law.F.ex
  injection e with e
  injection e with e
  subst e
  refine ⟨T.law.fd, fun s u => ?_, fun base _ _ => ok_law T⟩
  rw [e2]
  exact .of_eq rfl
end My
open PySem PySem.W PyProof.Rows
set_option maxRecDepth 100000 in
set_option maxHeartbeats 0 in
theorem PySem.Challenge.cw_touchpasses_k07_passes_put_taken_moved_c_holds : PySem.Challenge.rw_touchpasses_k07_passes_put_taken_moved_c.Holds := by
  w_on; o_law; k_head; (case hw => w_witness2)
  k_fill
  refine L2.walk_ofG (l := PySem.Challenge.rw_touchpasses_k07_passes_put_taken_moved_c) (n := 63) (k := 12) (x := "script") (CX := fun _ => L2.CX0) (sp := fun w => L2.spLaw _) rfl (by decide) rfl ⟨rfl, by decide, by decide⟩ (fun w h Y => PySem.W.kIn_of Y) ?F (fun _ _ a ns hl hb _ hS => ⟨a, ns, rfl, hS, hl, hb, fun _ => rfl⟩) (fun _ _ _ _ _ h => h)
  case F =>
    intro w mg fa h KX G hmg
    refine' My.fin_mk hmg (My.mk_txt KX G ?aC ?cpg ?chd ?cpo ?csa ?cmk ?ckc ?cne ?cob ?cca ?ccn ?cct ?ccm ?na_length ?na_passes ?a_is_integer ?l_is_integer ?c_is_integer ?k_is_integer ?a_is_between ?l_is_between ?c_is_between ?k_is_between ?a_is_name ?l_is_name ?c_is_name ?k_is_name ?a_is_word ?l_is_word ?c_is_word ?k_is_word ?a_is_stretch ?l_is_stretch ?c_is_stretch ?k_is_stretch ?a_is_length ?l_is_length ?c_is_length ?k_is_length ?a_are_touches ?l_are_touches ?c_are_touches ?k_are_touches ?a_is_pass ?l_is_pass ?c_is_pass ?k_is_pass ?a_first_wrong ?l_first_wrong ?c_first_wrong ?k_first_wrong ?a_place_of ?l_place_of ?c_place_of ?k_place_of ?a_is_change ?l_is_change ?c_is_change ?k_is_change ?a_put_in ?l_put_in ?c_put_in ?k_put_in ?a_taken_out ?l_taken_out ?c_taken_out ?k_taken_out ?a_replaced ?l_replaced ?c_replaced ?k_replaced ?a_behind_change ?l_behind_change ?c_behind_change ?k_behind_change ?a_row_of ?l_row_of ?c_row_of ?k_row_of ?a_rows_of ?l_rows_of ?c_rows_of ?k_rows_of ?a_number_in ?l_number_in ?c_number_in ?k_number_in ?a_stretch_in ?l_stretch_in ?c_stretch_in ?k_stretch_in ?a_pass_in ?l_pass_in ?c_pass_in ?k_pass_in ?a_pass_in_row ?l_pass_in_row ?c_pass_in_row ?k_pass_in_row ?a_length_in_row ?l_length_in_row ?c_length_in_row ?k_length_in_row ?a_track_in ?l_track_in ?c_track_in ?k_track_in ?a_Track_init ?i_Track_init ?l_Track_init ?c_Track_init ?k_Track_init ?t_Track_init ?e_Track_init_at ?a_Track_length ?pg_Track_length ?pt_Track_length ?pr_Track_length_at ?l_Track_length ?c_Track_length ?k_Track_length ?a_Track_passes ?pg_Track_passes ?pt_Track_passes ?pr_Track_passes_at ?l_Track_passes ?c_Track_passes ?k_Track_passes ?a_Track_names ?pg_Track_names ?pt_Track_names ?pr_Track_names_at ?l_Track_names ?c_Track_names ?k_Track_names ?a_Track_len ?i_Track_len ?l_Track_len ?c_Track_len ?k_Track_len ?a_Track_bool ?i_Track_bool ?l_Track_bool ?c_Track_bool ?k_Track_bool ?a_Track_eq ?i_Track_eq ?l_Track_eq ?c_Track_eq ?k_Track_eq ?a_Track_str ?i_Track_str ?l_Track_str ?c_Track_str ?k_Track_str ?a_Track_contains ?i_Track_contains ?l_Track_contains ?c_Track_contains ?k_Track_contains ?a_Track_getitem ?i_Track_getitem ?l_Track_getitem ?c_Track_getitem ?k_Track_getitem ?a_Track_iter ?i_Track_iter ?l_Track_iter ?c_Track_iter ?k_Track_iter ?a_Track_known_place ?i_Track_known_place ?l_Track_known_place ?c_Track_known_place ?k_Track_known_place ?a_Track_put ?i_Track_put ?l_Track_put ?c_Track_put ?k_Track_put ?t_Track_put ?a_Track_without ?i_Track_without ?l_Track_without ?c_Track_without ?k_Track_without ?a_Track_moved ?i_Track_moved ?l_Track_moved ?c_Track_moved ?k_Track_moved ?a_Track_changed ?i_Track_changed ?l_Track_changed ?c_Track_changed ?k_Track_changed ?a_law_purse ?l_law_purse ?c_law_purse ?k_law_purse ?a_law_draw ?l_law_draw ?c_law_draw ?k_law_draw ?a_law_pick ?l_law_pick ?c_law_pick ?k_law_pick ?a_law_wide ?l_law_wide ?c_law_wide ?k_law_wide ?a_law_touches ?l_law_touches ?c_law_touches ?k_law_touches ?a_law_words ?l_law_words ?c_law_words ?k_law_words ?a_law_fader ?l_law_fader ?c_law_fader ?k_law_fader ?a_law_faders ?l_law_faders ?c_law_faders ?k_law_faders ?a_law_long ?l_law_long ?c_law_long ?k_law_long ?a_law_is_from ?l_law_is_from ?c_law_is_from ?k_law_is_from ?a_law_is_word ?l_law_is_word ?c_law_is_word ?k_law_is_word ?a_law_are_marks ?l_law_are_marks ?c_law_are_marks ?k_law_are_marks ?a_law_is_fader ?l_law_is_fader ?c_law_is_fader ?k_law_is_fader ?a_law_same ?l_law_same ?c_law_same ?k_law_same ?a_law_put_right ?l_law_put_right ?c_law_put_right ?k_law_put_right ?a_law_turned_right ?l_law_turned_right ?c_law_turned_right ?k_law_turned_right ?a_law_changed_right ?l_law_changed_right ?c_law_changed_right ?k_law_changed_right ?a_law_right ?l_law_right ?c_law_right ?k_law_right ?a_law ?l_law ?c_law ?k_law ?a_LETTERS ?a_DIGITS ?a_MOST_SIGNS ?a_MOST_LENGTH ?a_MOST_PASSES ?a_MOST_TOUCHES ?a_MOST_GLIDE ?a_OLD ?b_MODES ?l_MODES ?b_TAILS ?l_TAILS ?a_SIZE ?b_PARTS ?l_PARTS ?kl_PARTS ?sm_PARTS ?i_PARTS_mode ?i_PARTS_from ?i_PARTS_to ?i_PARTS_touches ?i_PARTS_glide ?i_PARTS_tail ?a_MOST_DIGITS ?a_FEWEST_WORDS ?z_len ?z_isinstance ?z_int ?z_bool ?z_str ?z_tuple ?z_all ?z_range ?z_enumerate ?z_abs ?z_divmod ?z_max ?z_min ?z_repr)
    (case aC => k_is)
    (case cpg => k_is)
    (case chd => k_is)
    (case cpo => k_is)
    (case csa => k_is)
    (case cmk => k_is)
    (case ckc => k_is)
    (case cne => k_is)
    (case cob => k_is)
    (case cca => k_is)
    (case ccn => k_is)
    (case cct => k_is)
    (case ccm => k_is)
    (case na_length => k_is)
    (case na_passes => k_is)
    (case a_is_integer => k_is)
    (case l_is_integer => k_is)
    (case c_is_integer => k_is)
    (case k_is_integer => k_is)
    (case a_is_between => k_is)
    (case l_is_between => k_is)
    (case c_is_between => k_is)
    (case k_is_between => k_is)
    (case a_is_name => k_is)
    (case l_is_name => k_is)
    (case c_is_name => k_is)
    (case k_is_name => k_is)
    (case a_is_word => k_is)
    (case l_is_word => k_is)
    (case c_is_word => k_is)
    (case k_is_word => k_is)
    (case a_is_stretch => k_is)
    (case l_is_stretch => k_is)
    (case c_is_stretch => k_is)
    (case k_is_stretch => k_is)
    (case a_is_length => k_is)
    (case l_is_length => k_is)
    (case c_is_length => k_is)
    (case k_is_length => k_is)
    (case a_are_touches => k_is)
    (case l_are_touches => k_is)
    (case c_are_touches => k_is)
    (case k_are_touches => k_is)
    (case a_is_pass => k_is)
    (case l_is_pass => k_is)
    (case c_is_pass => k_is)
    (case k_is_pass => k_is)
    (case a_first_wrong => k_is)
    (case l_first_wrong => k_is)
    (case c_first_wrong => k_is)
    (case k_first_wrong => k_is)
    (case a_place_of => k_is)
    (case l_place_of => k_is)
    (case c_place_of => k_is)
    (case k_place_of => k_is)
    (case a_is_change => k_is)
    (case l_is_change => k_is)
    (case c_is_change => k_is)
    (case k_is_change => k_is)
    (case a_put_in => k_is)
    (case l_put_in => k_is)
    (case c_put_in => k_is)
    (case k_put_in => k_is)
    (case a_taken_out => k_is)
    (case l_taken_out => k_is)
    (case c_taken_out => k_is)
    (case k_taken_out => k_is)
    (case a_replaced => k_is)
    (case l_replaced => k_is)
    (case c_replaced => k_is)
    (case k_replaced => k_is)
    (case a_behind_change => k_is)
    (case l_behind_change => k_is)
    (case c_behind_change => k_is)
    (case k_behind_change => k_is)
    (case a_row_of => k_is)
    (case l_row_of => k_is)
    (case c_row_of => k_is)
    (case k_row_of => k_is)
    (case a_rows_of => k_is)
    (case l_rows_of => k_is)
    (case c_rows_of => k_is)
    (case k_rows_of => k_is)
    (case a_number_in => k_is)
    (case l_number_in => k_is)
    (case c_number_in => k_is)
    (case k_number_in => k_is)
    (case a_stretch_in => k_is)
    (case l_stretch_in => k_is)
    (case c_stretch_in => k_is)
    (case k_stretch_in => k_is)
    (case a_pass_in => k_is)
    (case l_pass_in => k_is)
    (case c_pass_in => k_is)
    (case k_pass_in => k_is)
    (case a_pass_in_row => k_is)
    (case l_pass_in_row => k_is)
    (case c_pass_in_row => k_is)
    (case k_pass_in_row => k_is)
    (case a_length_in_row => k_is)
    (case l_length_in_row => k_is)
    (case c_length_in_row => k_is)
    (case k_length_in_row => k_is)
    (case a_track_in => k_is)
    (case l_track_in => k_is)
    (case c_track_in => k_is)
    (case k_track_in => k_is)
    (case a_Track_init => k_is)
    (case i_Track_init => k_is)
    (case l_Track_init => k_is)
    (case c_Track_init => k_is)
    (case k_Track_init => k_is)
    (case t_Track_init => k_is)
    (case e_Track_init_at => k_is)
    (case a_Track_length => k_is)
    (case pg_Track_length => k_is)
    (case pt_Track_length => k_is)
    (case pr_Track_length_at => k_is)
    (case l_Track_length => k_is)
    (case c_Track_length => k_is)
    (case k_Track_length => k_is)
    (case a_Track_passes => k_is)
    (case pg_Track_passes => k_is)
    (case pt_Track_passes => k_is)
    (case pr_Track_passes_at => k_is)
    (case l_Track_passes => k_is)
    (case c_Track_passes => k_is)
    (case k_Track_passes => k_is)
    (case a_Track_names => k_is)
    (case pg_Track_names => k_is)
    (case pt_Track_names => k_is)
    (case pr_Track_names_at => k_is)
    (case l_Track_names => k_is)
    (case c_Track_names => k_is)
    (case k_Track_names => k_is)
    (case a_Track_len => k_is)
    (case i_Track_len => k_is)
    (case l_Track_len => k_is)
    (case c_Track_len => k_is)
    (case k_Track_len => k_is)
    (case a_Track_bool => k_is)
    (case i_Track_bool => k_is)
    (case l_Track_bool => k_is)
    (case c_Track_bool => k_is)
    (case k_Track_bool => k_is)
    (case a_Track_eq => k_is)
    (case i_Track_eq => k_is)
    (case l_Track_eq => k_is)
    (case c_Track_eq => k_is)
    (case k_Track_eq => k_is)
    (case a_Track_str => k_is)
    (case i_Track_str => k_is)
    (case l_Track_str => k_is)
    (case c_Track_str => k_is)
    (case k_Track_str => k_is)
    (case a_Track_contains => k_is)
    (case i_Track_contains => k_is)
    (case l_Track_contains => k_is)
    (case c_Track_contains => k_is)
    (case k_Track_contains => k_is)
    (case a_Track_getitem => k_is)
    (case i_Track_getitem => k_is)
    (case l_Track_getitem => k_is)
    (case c_Track_getitem => k_is)
    (case k_Track_getitem => k_is)
    (case a_Track_iter => k_is)
    (case i_Track_iter => k_is)
    (case l_Track_iter => k_is)
    (case c_Track_iter => k_is)
    (case k_Track_iter => k_is)
    (case a_Track_known_place => k_is)
    (case i_Track_known_place => k_is)
    (case l_Track_known_place => k_is)
    (case c_Track_known_place => k_is)
    (case k_Track_known_place => k_is)
    (case a_Track_put => k_is)
    (case i_Track_put => k_is)
    (case l_Track_put => k_is)
    (case c_Track_put => k_is)
    (case k_Track_put => k_is)
    (case t_Track_put => k_is)
    (case a_Track_without => k_is)
    (case i_Track_without => k_is)
    (case l_Track_without => k_is)
    (case c_Track_without => k_is)
    (case k_Track_without => k_is)
    (case a_Track_moved => k_is)
    (case i_Track_moved => k_is)
    (case l_Track_moved => k_is)
    (case c_Track_moved => k_is)
    (case k_Track_moved => k_is)
    (case a_Track_changed => k_is)
    (case i_Track_changed => k_is)
    (case l_Track_changed => k_is)
    (case c_Track_changed => k_is)
    (case k_Track_changed => k_is)
    (case a_law_purse => k_is)
    (case l_law_purse => k_is)
    (case c_law_purse => k_is)
    (case k_law_purse => k_is)
    (case a_law_draw => k_is)
    (case l_law_draw => k_is)
    (case c_law_draw => k_is)
    (case k_law_draw => k_is)
    (case a_law_pick => k_is)
    (case l_law_pick => k_is)
    (case c_law_pick => k_is)
    (case k_law_pick => k_is)
    (case a_law_wide => k_is)
    (case l_law_wide => k_is)
    (case c_law_wide => k_is)
    (case k_law_wide => k_is)
    (case a_law_touches => k_is)
    (case l_law_touches => k_is)
    (case c_law_touches => k_is)
    (case k_law_touches => k_is)
    (case a_law_words => k_is)
    (case l_law_words => k_is)
    (case c_law_words => k_is)
    (case k_law_words => k_is)
    (case a_law_fader => k_is)
    (case l_law_fader => k_is)
    (case c_law_fader => k_is)
    (case k_law_fader => k_is)
    (case a_law_faders => k_is)
    (case l_law_faders => k_is)
    (case c_law_faders => k_is)
    (case k_law_faders => k_is)
    (case a_law_long => k_is)
    (case l_law_long => k_is)
    (case c_law_long => k_is)
    (case k_law_long => k_is)
    (case a_law_is_from => k_is)
    (case l_law_is_from => k_is)
    (case c_law_is_from => k_is)
    (case k_law_is_from => k_is)
    (case a_law_is_word => k_is)
    (case l_law_is_word => k_is)
    (case c_law_is_word => k_is)
    (case k_law_is_word => k_is)
    (case a_law_are_marks => k_is)
    (case l_law_are_marks => k_is)
    (case c_law_are_marks => k_is)
    (case k_law_are_marks => k_is)
    (case a_law_is_fader => k_is)
    (case l_law_is_fader => k_is)
    (case c_law_is_fader => k_is)
    (case k_law_is_fader => k_is)
    (case a_law_same => k_is)
    (case l_law_same => k_is)
    (case c_law_same => k_is)
    (case k_law_same => k_is)
    (case a_law_put_right => k_is)
    (case l_law_put_right => k_is)
    (case c_law_put_right => k_is)
    (case k_law_put_right => k_is)
    (case a_law_turned_right => k_is)
    (case l_law_turned_right => k_is)
    (case c_law_turned_right => k_is)
    (case k_law_turned_right => k_is)
    (case a_law_changed_right => k_is)
    (case l_law_changed_right => k_is)
    (case c_law_changed_right => k_is)
    (case k_law_changed_right => k_is)
    (case a_law_right => k_is)
    (case l_law_right => k_is)
    (case c_law_right => k_is)
    (case k_law_right => k_is)
    (case a_law => k_is)
    (case l_law => k_is)
    (case c_law => k_is)
    (case k_law => k_is)
    (case a_LETTERS => k_is)
    (case a_DIGITS => k_is)
    (case a_MOST_SIGNS => k_is)
    (case a_MOST_LENGTH => k_is)
    (case a_MOST_PASSES => k_is)
    (case a_MOST_TOUCHES => k_is)
    (case a_MOST_GLIDE => k_is)
    (case a_OLD => k_is)
    (case b_MODES => k_is)
    (case l_MODES => k_is)
    (case b_TAILS => k_is)
    (case l_TAILS => k_is)
    (case a_SIZE => k_is)
    (case b_PARTS => k_is)
    (case l_PARTS => k_is)
    (case kl_PARTS => exact ⟨⟨_, _, rfl, rfl⟩, ⟨⟨_, _, rfl, rfl⟩, ⟨⟨_, _, rfl, rfl⟩, ⟨⟨_, _, rfl, rfl⟩, ⟨⟨_, _, rfl, rfl⟩, ⟨⟨_, _, rfl, rfl⟩, True.intro⟩⟩⟩⟩⟩⟩)
    (case sm_PARTS => decide +kernel)
    (case i_PARTS_mode => k_is)
    (case i_PARTS_from => k_is)
    (case i_PARTS_to => k_is)
    (case i_PARTS_touches => k_is)
    (case i_PARTS_glide => k_is)
    (case i_PARTS_tail => k_is)
    (case a_MOST_DIGITS => k_is)
    (case a_FEWEST_WORDS => k_is)
    (case z_len => k_is)
    (case z_isinstance => k_is)
    (case z_int => k_is)
    (case z_bool => k_is)
    (case z_str => k_is)
    (case z_tuple => k_is)
    (case z_all => k_is)
    (case z_range => k_is)
    (case z_enumerate => k_is)
    (case z_abs => k_is)
    (case z_divmod => k_is)
    (case z_max => k_is)
    (case z_min => k_is)
    (case z_repr => k_is)
