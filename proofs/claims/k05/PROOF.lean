import PyProof.Rows.All
import Wide.All
import OpenK.AllK
import Wide.FinOn
import PySem.Challenge.RW_touchpasses_k05_texts_of_tracks
import HandS.List
import HandS.Comp
import HandS.Words
import HandS.Defaults
import HandS.OwnEq
import PyProof.ReprRoads
import PyProof.InstNe
import PyProof.StrLawsRepr
import HandS.Ends
import HandS.EndBits
import HandS.Property
import HandS.ForMost
import HandS.IsInst
import HandS.TupAny
import HandS.Wide
import HandS.Conv
import HandS.Gcd
import HandS.WrittenGet
import PyProof.P3In
import HandS.RaiseMore
import HandS.WideBits
import HandS.FStr
import HandS.Walk
import HandS.Style
import KE.GoesMore
import HandS.Zip
import HandS.MakeKw
import HandS.MakeKwOnly
import PyProof.ReprBulk
import PyProof.Rows.ReprShort
import KE.KUnpackStar
import HandS.Text
import PyProof.P3Eq
import HandS.CallLocal
import KE.KCallOwn
import HandS.ClsMeth
import HandS.Star
import KE.SortData
import HandS.TryOnly
import HandS.More
import HandS.SetFor
import HandS.Strs
import PyProof.Rows.SortShellAny
import OpenK.KMeth
import HandS.DictComp
import HandS.Flow
import HandS.Small
set_option Elab.async false
set_option linter.all false
set_option maxRecDepth 100000
namespace L2
open PySem PySem.Spec PyProof.Rows
/-- all that was tracked is as it was, but what stands at p -/
def Sm (p : Addr) (H H' : Hp) : Prop := ∀ b o, b ≠ p → H b = some o → H' b = some o
theorem Sm.refl (p : Addr) (H : Hp) : Sm p H H := fun _ _ _ h => h
theorem Sm.trans {p : Addr} {H H1 H2 : Hp} (a : Sm p H H1) (b : Sm p H1 H2) : Sm p H H2 := fun c o n h => b c o n (a c o n h)
theorem Sm.of_same {p : Addr} {H H' : Hp} (h : Same H H') : Sm p H H' := fun b o _ e => h b o e
theorem Sm.new {p q : Addr} {H : Hp} {o : HO} (h : H q = none) : Sm p H (upd H q o) := fun b u _ e => by
  rw [upd_ne (ne_of_none e h)]; exact e
theorem Sm.at {p : Addr} {H : Hp} {o : HO} : Sm p H (upd H p o) := fun b u n e => by
  rw [upd_ne n]; exact e
theorem Sm.free {p : Addr} {H H' : Hp} {o : HO} (e : Sm p H H') (hp : H' p = some o) {l : Addr} (h : H' l = Option.none) : H l = Option.none := by
  by_cases q : l = p
  · subst q; rw [hp] at h; cases h
  · cases z : H l with
    | none => rfl
    | some o' => rw [e l o' q z] at h; cases h
theorem same_new {H : Hp} {p : Addr} {o : HO} (h : H p = none) : Same H (upd H p o) := fun b x e => by
  rw [upd_ne (ne_of_none e h)]; exact e
theorem Same.new {H H1 : Hp} {p : Addr} {o : HO} (x : Same H H1) (h : H1 p = none) : Same H (upd H1 p o) := x.trans (same_new h)
theorem Same.seqT {K : PySem.W.Frag} {H H' : Hp} {a : Addr} {xs : List V} (e : Same H H') (h : SqT K H a xs) : SqT K H' a xs := by
  rcases h with (h | ⟨o, h⟩) | h
  · exact .inl (.inl (e _ _ h))
  · exact .inl (.inr ⟨o, e _ _ h⟩)
  · exact .inr h
theorem Sm.seq {K : PySem.W.Frag} {p : Addr} {H H' : Hp} {a : Addr} {xs : List V} (e : Sm p H H') (n : a ≠ p) (h : SqL K H a xs) : SqL K H' a xs := by
  rcases h with (h | ⟨o, h⟩) | h
  · exact .inl (.inl (e _ _ n h))
  · exact .inl (.inr ⟨o, e _ _ n h⟩)
  · exact .inr h
theorem Sm.seqT {K : PySem.W.Frag} {p : Addr} {H H' : Hp} {a : Addr} {xs : List V} (e : Sm p H H') (n : a ≠ p) (h : SqT K H a xs) : SqT K H' a xs := by
  rcases h with (h | ⟨o, h⟩) | h
  · exact .inl (.inl (e _ _ n h))
  · exact .inl (.inr ⟨o, e _ _ n h⟩)
  · exact .inr h
/-- a text that data may hold -/
abbrev Sok (x : Str) : Prop := x.length ≤ 100000 ∧ PyData.strOk x = true
mutual
inductive Dn (K : PySem.W.Frag) (p : Addr) (H : Hp) : V → PyData → Prop
  | non : Dn K p H .non .none
  | bl (b : Bool) : Dn K p H (.bl b) (.bool b)
  | int (i : Int) : Dn K p H (.int i) (.int i)
  | str (x : Str) : Sok x → Dn K p H (.str x) (.str x)
  | lst {a : Addr} {xs : List V} {ds : List PyData} : a ≠ p → SqL K H a xs → DnAll K p H xs ds → Dn K p H (.ref a) (.list ds)
  | tup {a : Addr} {xs : List V} {ds : List PyData} : SqT K H a xs → DnAll K p H xs ds → Dn K p H (.ref a) (.tuple ds)
  | dic {a : Addr} {kvs : List (Key × V)} {ks vs : List PyData} : H a = some (.dK kvs) → DnAll K p H (kvs.map fun q => kV q.1) ks → DnAll K p H (kvs.map (·.2)) vs → Dn K p H (.ref a) (.dict (ks.zip vs))
inductive DnAll (K : PySem.W.Frag) (p : Addr) (H : Hp) : List V → List PyData → Prop
  | nil : DnAll K p H [] []
  | cons {v : V} {vs : List V} {d : PyData} {ds : List PyData} : Dn K p H v d → DnAll K p H vs ds → DnAll K p H (v :: vs) (d :: ds)
end
section
variable {K : PySem.W.Frag} {p : Addr} {H H' : Hp}
theorem DnAll.length : ∀ {vs : List V} {ds : List PyData}, DnAll K p H vs ds → vs.length = ds.length
  | _, _, .nil => rfl
  | _, _, .cons _ t => by rw [List.length_cons, List.length_cons, DnAll.length t]
theorem DnAll.get : ∀ {vs : List V} {ds : List PyData} {i : Nat} {v : V}, DnAll K p H vs ds → vs[i]? = some v → ∃ d, ds[i]? = some d ∧ Dn K p H v d
  | _, _, _, _, .nil, e => by simp at e
  | _, _, 0, _, .cons r _, e => by simp at e; subst e; exact ⟨_, rfl, r⟩
  | _, _, i + 1, v, .cons _ t, e => by
    obtain ⟨u, h1, h2⟩ := DnAll.get (i := i) (v := v) t (by simpa using e)
    exact ⟨u, by simpa using h1, h2⟩
theorem DnAll.getD : ∀ {vs : List V} {ds : List PyData} {i : Nat} {d : PyData}, DnAll K p H vs ds → ds[i]? = some d → ∃ v, vs[i]? = some v ∧ Dn K p H v d
  | _, _, _, _, .nil, e => by simp at e
  | _, _, 0, _, .cons r _, e => by simp at e; subst e; exact ⟨_, rfl, r⟩
  | _, _, i + 1, v, .cons _ t, e => by
    obtain ⟨u, h1, h2⟩ := DnAll.getD (i := i) (d := v) t (by simpa using e)
    exact ⟨u, by simpa using h1, h2⟩
theorem DnAll.append : ∀ {vs us : List V} {ds es : List PyData}, DnAll K p H vs ds → DnAll K p H us es → DnAll K p H (vs ++ us) (ds ++ es)
  | _, _, _, _, .nil, s => s
  | _, _, _, _, .cons r t, s => .cons r (DnAll.append t s)
theorem DnAll.take : ∀ {vs : List V} {ds : List PyData} (n : Nat), DnAll K p H vs ds → DnAll K p H (vs.take n) (ds.take n)
  | _, _, 0, _ => .nil
  | _, _, _ + 1, .nil => .nil
  | _, _, n + 1, .cons r t => .cons r (DnAll.take n t)
theorem DnAll.drop : ∀ {vs : List V} {ds : List PyData} (n : Nat), DnAll K p H vs ds → DnAll K p H (vs.drop n) (ds.drop n)
  | _, _, 0, r => r
  | _, _, _ + 1, .nil => .nil
  | _, _, n + 1, .cons _ t => DnAll.drop n t
/-- p is a list -/
def Pl (H : Hp) (p : Addr) : Prop := ∃ l, H p = some (.lst l)
theorem Pl.same {H H' : Hp} {p : Addr} (h : Pl H p) (e : Same H H') : Pl H' p := h.elim fun l q => ⟨l, e _ _ q⟩
theorem Sm.tup {K : PySem.W.Frag} {p : Addr} {H H' : Hp} {a : Addr} {xs : List V} (e : Sm p H H') (hp : Pl H p) (h : SqT K H a xs) : SqT K H' a xs := by
  obtain ⟨l, hp⟩ := hp
  rcases h with (h | ⟨o, h⟩) | h
  · exact .inl (.inl (e _ _ (by rintro rfl; rw [hp] at h; cases h) h))
  · exact .inl (.inr ⟨o, e _ _ (by rintro rfl; rw [hp] at h; cases h) h⟩)
  · exact .inr h
theorem Sm.dic {p : Addr} {H H' : Hp} {a : Addr} {kvs : List (Key × V)} (e : Sm p H H') (hp : Pl H p) (h : H a = some (.dK kvs)) : H' a = some (.dK kvs) := by
  obtain ⟨l, hp⟩ := hp
  exact e _ _ (by rintro rfl; rw [hp] at h; cases h) h
mutual
theorem Dn.same (e : Same H H') : ∀ {v : V} {d : PyData}, Dn K p H v d → Dn K p H' v d
  | _, _, .non => .non
  | _, _, .bl b => .bl b
  | _, _, .int i => .int i
  | _, _, .str x h => .str x h
  | _, _, .lst n h a => .lst n (e.seq h) (DnAll.same e a)
  | _, _, .tup h a => .tup (e.seqT h) (DnAll.same e a)
  | _, _, .dic h a b => .dic (e _ _ h) (DnAll.same e a) (DnAll.same e b)
theorem DnAll.same (e : Same H H') : ∀ {vs : List V} {ds : List PyData}, DnAll K p H vs ds → DnAll K p H' vs ds
  | _, _, .nil => .nil
  | _, _, .cons r t => .cons (Dn.same e r) (DnAll.same e t)
end
end
section
variable {X : Cx} {pins : List (Addr × Obj)} {σ : St} {H : Hp} {s : Shared} {p : Addr}
mutual
/-- data without dicts is read -/
theorem Dn.reads (I : Inv X pins σ H s) : ∀ (d : PyData) (v : V) (u : Value), d.hasDict = false → Dn X.K p H v d → RelV v u → ∃ as, Reads s.heap u d as
  | .none, _, _, _, h, r => by
    cases h
    cases r
    exact ⟨_, Reads.none⟩
  | .bool b, _, _, _, h, r => by
    cases h
    cases r
    exact ⟨_, Reads.bool b⟩
  | .int i, _, _, _, h, r => by
    cases h
    obtain ⟨t, rfl⟩ := r
    exact ⟨_, Reads.int i t⟩
  | .str x, _, _, _, h, r => by
    cases h
    obtain ⟨t, rfl⟩ := r
    exact ⟨_, Reads.str x t⟩
  | .list ds, _, _, z, h, r => by
    cases h with
    | lst _ hs ha =>
      cases r
      obtain ⟨its, rv, ⟨o, n, ho, hc, _, hd⟩, _⟩ := I.list hs
      obtain ⟨as, hr⟩ := Dn.readsAll I ds _ its (by simpa only [PyData.hasDict] using z) ha rv
      exact ⟨_, Reads.list ho hc hd hr⟩
  | .tuple ds, _, _, z, h, r => by
    cases h with
    | tup hs ha =>
      cases r
      obtain ⟨its, rv, ⟨o, ho, hc, n, hd⟩, _⟩ := I.tuple hs
      obtain ⟨as, hr⟩ := Dn.readsAll I ds _ its (by simpa only [PyData.hasDict] using z) ha rv
      exact ⟨_, Reads.tuple ho hc hd hr⟩
  | .dict _, _, _, z, h, _ => by simp [PyData.hasDict] at z
theorem Dn.readsAll (I : Inv X pins σ H s) : ∀ (ds : List PyData) (vs : List V) (us : List Value), PyData.hasDictAll ds = false → DnAll X.K p H vs ds → Vals vs us → ∃ as, ReadsAll s.heap us ds as
  | [], _, _, _, h, r => by
    cases h
    cases r
    exact ⟨_, ReadsAll.nil⟩
  | d :: ds, _, _, z, h, r => by
    have z' : d.hasDict = false ∧ PyData.hasDictAll ds = false := by simpa [PyData.hasDictAll] using z
    cases h with
    | cons h1 h2 =>
      cases r with
      | cons r1 r2 =>
        obtain ⟨as, q1⟩ := Dn.reads I d _ _ z'.1 h1 r1
        obtain ⟨bs, q2⟩ := Dn.readsAll I ds _ _ z'.2 h2 r2
        exact ⟨_, ReadsAll.cons q1 q2⟩
end
/-- * of two ints that are not too big together -/
def CMulKb (i j : Int) : Prop := Builtin.Int.intBits i + Builtin.Int.intBits j ≤ 100000000
theorem CMulKb.ok {i j : Int} (h : CMulKb i j) : IntMulOk i j := by
  have h3 : Builtin.Int.intBits i + Builtin.Int.intBits j ≤ 100000000 := h
  have e : bitsLine = 134217728 := by decide
  unfold IntMulOk
  intro z
  rw [Bool.and_eq_true] at z
  have z2 := z.2
  unfold Builtin.Int.intTooBig at z2
  have z3 := of_decide_eq_true z2
  rw [e] at z3
  omega
theorem op_mulKb : OpR X (binaryOp .Mult) (rI CMulKb fun i j => .int (i * j)) := opI fun _ _ _ _ _ _ _ hc q => mul_int q hc.ok
end
end L2
namespace L2
open PySem PySem.Spec PyProof.Rows
structure FnG (P : Program) (w : World) (K : PySem.W.Frag) (mg : Str → Option Value) (base : Heap) (CX : CXT) (k : Nat) (f : Addr) (fd : FuncData) (ps : List Str) (sp : Sp) : Prop where
  size : ∀ vs H Q E, sp vs H Q E → vs.length = ps.length
  runs : ∀ (A : Around) (outer : List Env) (s : Shared) (H : Hp) (args : Args) (us : List Value) (vs : List V) (Q : VK) (E : XK),
    A.guards = some [] → Room k A → Env0 P w K mg base A outer s H → BindsTo s fd args (ps.zip us) → Vals vs us → sp vs H Q E →
    codeAny (model P w) A (.call (.ref f) args) (CR CX outer P w H s Q E) s
section
variable {P : Program} {w : World} {K : PySem.W.Frag} {mg : Str → Option Value} {base : Heap} {CX : CXT}
theorem FnG.of {k : Nat} {f : Addr} {fd : FuncData} {ps : List Str} {sp : Sp} (F : FnOk P w K mg base CX k f fd ps sp) : FnG P w K mg base CX k f fd ps sp :=
  ⟨F.len, fun A o s H args us vs Q E _ r => F.run A o s H args us vs Q E r⟩
/-- a def's body keeps it; in the body guards are known -/
theorem Fun.okG {x qual : Str} {st : Stmt} {f : Addr} {fd : FuncData} {N ps : List Str} {k : Nat} {sp : Sp} (F : Fun K x qual st f fd) (S : FnScope N ps (defScope st)) (len : ∀ vs H Q E, sp vs H Q E → vs.length = ps.length)
    (body : ∀ (cdv : Value) (A : Around) (outer : List Env) (s : Shared) (H : Hp) (vs : List V) (Q : VK) (E : XK), A.guards = some [] → Room k (A.deeper (envOfC qual (defScope st) s.heap.objs.size f cdv)) → sp vs H Q E →
      ∃ t, PSs (cxOf CX P w K mg base N qual (defScope st) f cdv A outer s H E) (defBody st) t ∧ t { nx := fun _ H' => Q .non H', rt := Q } (start N vs) H) : FnG P w K mg base CX (k + 1) f fd ps sp := by
  obtain ⟨oc, od, kV, doc, pm, an, cdv, ct, osl, rfl, lk, hcd⟩ := F.ex
  refine ⟨len, fun A outer s H args us vs Q E hg hr e0 hb r hsp => ?_⟩
  have KX : K.In s.heap := e0.mod.kin.keeps fun b o e => (e0.bs b o e).1
  have lim : s.heap.NoLimit := e0.mod.nolimit.keeps fun b o e => (e0.bs b o e).1
  have hk : ∀ y ∈ ps.zip us, (defScope st).names.lookup y.1 = some .local ∨ ((defScope st).names.lookup y.1 = some .cell ∧ ((cellsFrom (s.heap.objs.size + 1) (defScope st).names []).lookup y.1).isSome = true) := by
    rintro ⟨n, v⟩ hy
    exact (S.par n (List.of_mem_zip hy).1).elim .inl fun q => .inr ⟨q, PySem.W.cellsFrom_some _ _ _ (.inl q)⟩
  refine codeAny_call_function hr.depth (KX _ _ lk) rfl S.co S.gen rfl (PySem.W.codeRec_of KX hcd) (hb _ _ _ _ (wpAny_newFunctionEnv_cells S.kind hk fun env he s1 x => ?_))
  subst he
  obtain ⟨t, ht, hq⟩ := body cdv A outer s H vs Q E hg (hr.deeper _) hsp
  have I := inv_start (CX := CX) (E := E) S hr.hd e0 (len _ _ _ _ hsp) r x
  refine ⟨lim.keeps x.toInCall.keep, codeAny_func (wpAny_mono (ht.run [] s1 (start N vs) H _ I hq) (fun fl s' hs => ?_) fun e s' hs => hs)⟩
  cases fl
  case ret u =>
    obtain ⟨v, σ', H', J, rv, q⟩ := hs
    exact ⟨v, H', J.os, J.bare, J.base, J.hok, rv, q⟩
  case next =>
    obtain ⟨σ', H', J, q⟩ := hs
    exact ⟨V.non, H', J.os, J.bare, J.base, J.hok, rfl, q⟩
  case brk => exact hs.elim fun _ z => z.elim fun _ z => z.2.elim
  case cont => exact hs.elim fun _ z => z.elim fun _ z => z.2.elim
end
section
variable {X : Cx} {CX : CXT} {k : Nat} {f : Addr} {fd : FuncData} {ps : List Str} {sp : Sp} {dvs : List V} {ds : List Value} {E : XK} {x : Str} {p pos : Pos} {e : Expr} {es : List Expr} {t : TA}
theorem pe_callG (hgd : X.A.guards = some []) (F : FnG X.prog X.w X.K X.mg X.base CX k f fd ps sp) (hr : Room k X.A) (hg : Gl X x) (hm : X.mg x = some (.ref f)) (hk : PySem.W.keepIn X.K (.ref f) = true) (hb : Binds X.K fd ps ds) (hd : Vals dvs ds) (hx : Passes CX X E)
    (ha : PA X (e :: es) t) (hdb : (x == ("__debug__" : Str)) = false := by decide) (he : starEach (e :: es) X.env = (false, eval e X.env) :: starEach es X.env := by rfl)
    (hpl : (backTo pos (starEach es X.env)).any (·.1) = false := by rfl) : PE X (.Call (.Name x p) (e :: es) [] pos) (tCall sp dvs E t) := by
  refine ⟨fun pins s σ H Q I h => wpAny_Call_Name_kw (ld_glob I hg hm ?_ hdb)⟩
  refine PySem.W.callWith_K (h₀ := X.base) I.ok.mod.kin hk (thn (ha.run pos pins s σ H _ I h) fun us s1 ⟨vs, H1, I1, r, q⟩ => ⟨I1.kIn, ?_⟩) he hpl
  have r2 := r.append hd
  have hl : (us ++ ds).length = ps.length := r2.length.symm.trans (F.size _ _ _ _ q)
  refine wpAny_call (codeAny_mono (F.runs X.A X.stack s1 H1 ⟨us, []⟩ _ _ Q E hgd hr I1.env0 (hb s1 us I1.kIn hl) r2 q) fun r s' hq => ?_)
  cases r
  case error e => exact hx pins σ H1 s1 e s' I1 hq
  case ok fl =>
    cases fl
    case ret u => exact I1.after hq
    all_goals exact hq.elim
end
theorem law_callG {P : Program} {w : World} {K : PySem.W.Frag} {mg mb : Str → Option Value} {CX : CXT} {k : Nat} {fa a : Addr} {fd : FuncData} {x : Str} {sp : Sp} {s₁ : Shared} {vs : List Value} {ns : List Int}
    (KX : K.In s₁.heap) (hns : s₁.heap.Ns mainGlobals mg) (hb : s₁.heap.Ns builtinsNs mb) (hbb : ∀ x : Str, x ≠ "__name__" → mb x = bootBuiltins x) (hlim : s₁.heap.NoLimit) (hg : s₁.gens = #[])
    (ha : s₁.heap.get? a = some { cls := .type "list", data := .seq vs.toArray }) (hi : IntsAre vs ns) (hl : ns.length ≤ sizeLine) (hr : Room k callerA)
    (F : ∀ base : Heap, K.In base → base.Ns mainGlobals mg → FnG P w K mg base CX k fa fd [x] sp) (hbind : ∀ (s : Shared) (u : Value), BindsTo s fd ⟨[u], []⟩ [(x, u)])
    (hsp : ∀ H : Hp, Only H → SqL K H a (ns.map V.int) → sp [.ref a] H (fun v _ => v = .bl true) fun _ _ _ => False)
    (hCX : ∀ H e s', CX [] H s₁ (fun _ _ _ => False) e s' → False) :
    codeAny (model P w) callerA (.call (.ref fa) ⟨[.ref a], []⟩) (fun r s' => r = .ok (.ret (.bool true)) ∧ OldK s₁.heap s'.heap ∧ s'.os = s₁.os ∧ AllBare s'.gens) s₁ := by
  have rv := vals_ints hi
  have lenV := hi.length
  -- H tracks nothing, or the script alone
  have core : ∀ H : Hp, Only H → SqL K H a (ns.map V.int) → HOk P w H s₁.heap → (∀ b, H b ≠ none → b = a ∧ K.lookup a = none) →
      codeAny (model P w) callerA (.call (.ref fa) ⟨[.ref a], []⟩) (fun r s' => r = .ok (.ret (.bool true)) ∧ OldK s₁.heap s'.heap ∧ s'.os = s₁.os ∧ AllBare s'.gens) s₁ := by
    intro H hO hS hok hA
    have free : ∀ {b : Addr} {o : Obj}, s₁.heap.get? b = some o → (∀ l, o.data ≠ .seq vs.toArray l) → H b = none := fun {b o} e d => by
      cases q : H b with
      | none => rfl
      | some u =>
        obtain ⟨rfl, _⟩ := hA b (by rw [q]; exact Option.some_ne_none _)
        rw [ha] at e
        cases e
        exact absurd rfl (d _)
    have nsK : ∀ {b : Addr} {m : Str → Option Value}, s₁.heap.Ns b m → (hidT s₁.heap H).Ns b m := fun ⟨o, es, ep, e, d, r⟩ => ⟨o, es, ep, hidT_get e (free e fun l z => by rw [d] at z; cases z), d, r⟩
    have hKb : K.In (hidT s₁.heap H) := fun b o e => hidT_get (KX b o e) (by
      cases q : H b with
      | none => rfl
      | some u =>
        obtain ⟨rfl, z⟩ := hA b (by rw [q]; exact Option.some_ne_none _)
        rw [z] at e
        cases e)
    have hM : Mod K mg (hidT s₁.heap H) := ⟨hKb, nsK hns, ⟨mb, nsK hb, hbb⟩, hlim.elim fun mc h => ⟨mc, nsK h.1, h.2⟩⟩
    have e0 : Env0 P w K mg (hidT s₁.heap H) callerA [] s₁ H := ⟨rfl, hM, fun b o e => of_hidT e, Nat.le_of_eq (hidT_size _ _), trivial, fun b hb => absurd (show b ∈ ([] : List Addr) from hb) (by simp), hok, .of_eq hg⟩
    refine codeAny_mono ((F _ hKb (nsK hns)).runs callerA [] s₁ H ⟨[.ref a], []⟩ [.ref a] [.ref a] _ _ rfl hr e0 (hbind s₁ (.ref a)) (.cons rfl .nil) (hsp H hO hS)) fun r s' h => ?_
    cases r
    case error e => exact (hCX H e s' h).elim
    case ok fl =>
      cases fl
      case ret u =>
        obtain ⟨v, H', os, bare, un, hok', r', q⟩ := h
        obtain rfl : v = .bl true := q
        obtain rfl : u = Value.bool true := r'
        refine ⟨rfl, OldK.of_keep fun b o e => ?_, os, bare⟩
        rcases hO b with q | ⟨ob, xs, q⟩
        · exact un.keep b o e q (fun z => absurd (show b ∈ ([] : List Addr) from z) (by simp)) (by simp)
        · obtain ⟨e1, _⟩ := hok b _ q
          obtain ⟨e2, _⟩ := hok' b _ (un.frzs b ob _ q)
          rw [e] at e1
          cases e1
          exact e2
      all_goals exact h.elim
  cases hk : K.lookup a with
  | some o =>
    have e := KX a o hk
    rw [ha] at e
    cases e
    exact core (fun _ => none) (fun _ => .inl rfl) (.inr ⟨_, vs.toArray, _, hk, rfl, rfl, rfl, by rw [List.size_toArray, lenV]; exact hl, by simpa using rv⟩) (fun b u z => by cases (show (none : Option HO) = some u from z)) fun b z => absurd rfl z
  | none =>
    have at_ : ∀ b, (fun b => if b = a then some (HO.frz { cls := .type "list", data := .seq vs.toArray } (.lst (ns.map V.int))) else none) b ≠ none → b = a := fun b z => by
      by_cases q : b = a
      · exact q
      · exact absurd (if_neg q) z
    refine core (fun b => if b = a then some (.frz { cls := .type "list", data := .seq vs.toArray } (.lst (ns.map V.int))) else none) (fun b => ?_) (.inl (.inr ⟨{ cls := .type "list", data := .seq vs.toArray }, if_pos rfl⟩)) (fun b u z => ?_) fun b z => ⟨at_ b z, hk⟩
    · by_cases q : b = a
      · exact .inr ⟨_, _, if_pos q⟩
      · exact .inl (if_neg q)
    · have q : b = a := at_ b (by rw [z]; exact Option.some_ne_none _)
      subst q
      have z' := (if_pos rfl).symm.trans z
      cases z'
      exact ⟨ha, by rw [List.length_map]; exact hl, vs, _, rv, ha⟩
theorem walk_ofG {l : PySem.W.OpenLaw} {n k : Nat} {q : Program} {loose : List Str} {XP : (Str → Option Value) → Heap → Prop} {YP : World → Heap → Prop} {d : DefRec} {K : Params → PySem.W.Frag} {CX : World → CXT} {sp : World → Sp} {x : Str}
    (hn : l.most = some n) (hn2 : n ≤ sizeLine) (hdf : d.params.defaults = []) (hr : Room k callerA)
    (hY : ∀ (w : World) (h : Heap), YP w h → (K w.params).In h)
    (F : ∀ (w : World) (mg : Str → Option Value) (fa : Addr) (h : Heap), (K w.params).In h → h.Ns mainGlobals mg → mg d.name = some (.ref fa) →
      ∃ fd : FuncData, (∀ (s : Shared) (u : Value), BindsTo s fd ⟨[u], []⟩ [(x, u)]) ∧
        ∀ base : Heap, (K w.params).In base → base.Ns mainGlobals mg → FnG l.prog w (K w.params) mg base (CX w) k fa fd [x] (sp w))
    (hsp : ∀ (w : World) (H : Hp) (a : Addr) (ns : List Int), ns.length ≤ n → (∀ z ∈ ns, Builtin.Int.intBits z ≤ 1048576) → Only H → SqL (K w.params) H a (ns.map V.int) → sp w [.ref a] H (fun v _ => v = .bl true) fun _ _ _ => False)
    (hCX : ∀ (w : World) (H : Hp) (s : Shared) (e : Value) (s' : Shared), CX w [] H s (fun _ _ _ => False) e s' → False) :
    PySem.W.WalkO q loose XP YP l.row.toRowW d [] (fun f vs => PySem.call f vs) := by
  refine Att.attach_callB hn hdf fun w s₀ s₁ mg mb fa o pm cd doc a vs ns G Y ho hd hcd hmg hobj hints hlen hbits hg => ?_
  obtain ⟨fd, hb, hF⟩ := F w mg fa _ (hY w _ Y) G.T.g hmg
  exact law_callG (hY w _ Y) G.T.g G.T.b G.T.builtins G.T.nolimit hg hobj hints (Nat.le_trans hlen hn2) hr hF hb (fun H hO hS => hsp w H a ns hlen hbits hO hS) fun H e s' => hCX w H s₁ e s'
end L2
namespace L2
open PySem PySem.Spec PyProof.Rows
/-- a def of the module -/
structure Df (K : PySem.W.Frag) (mg : Str → Option Value) (x : Str) (st : Stmt) (ps : List Str) where
  f : Addr
  fd : FuncData
  F : Fun K x x st f fd
  g : mg x = some (.ref f)
  b : Binds K fd ps []
/-- a method without defaults -/
structure Dm (K : PySem.W.Frag) (C : Addr) (x qual : Str) (st : Stmt) (ps : List Str) where
  f : Addr
  fd : FuncData
  F : Fun K x qual st f fd
  m : Meth K C x f
  b : Binds K fd ps []
/-- a method whose last parameter has the default v -/
structure Dd (K : PySem.W.Frag) (C : Addr) (x qual : Str) (st : Stmt) (ps : List Str) (v : V) where
  f : Addr
  fd : FuncData
  F : FunD K x qual (defArgs st) (defBody st) (defScope st) [v] [] f fd
  m : Meth K C x f
  b : Binds K fd ps []
  b1 : ∃ ds, Vals [v] ds ∧ Binds K fd ps ds
/-- a property -/
structure Dp' (K : PySem.W.Frag) (C : Addr) (x qual : Str) (st : Stmt) where
  f : Addr
  fd : FuncData
  F : Fun K x qual st f fd
  p : Addr
  P : PropOf K C x p f
  b : Binds K fd ["self"] []
/-- a constant -/
structure Ci (mg : Str → Option Value) (x : Str) (n : Int) where
  t : Tok
  g : mg x = some (.int n t)
structure Cs (mg : Str → Option Value) (x : Str) (z : Str) where
  t : Tok
  g : mg x = some (.str z t)
structure Ct (K : PySem.W.Frag) (mg : Str → Option Value) (x : Str) (vs : List V) where
  a : Addr
  g : mg x = some (.ref a)
  q : ∀ H : Hp, SqT K H a vs
end L2
set_option autoImplicit false
namespace DL
open PySem PySem.Spec PyProof.Rows L2
inductive D where
  | non | bl (b : Bool) | int (i : Int) | str (x : Str)
  | tup (ds : List D) | lst (ds : List D)
  | dic (ks : List Key) (vs : List D) | dit (ks : List (List Key)) (vs : List D)
  | ins (C : Addr) (ns : List Str) (vs : List D)
  | cls (a : Addr) | ty (n : String) | scr (ns : List Int)
/-- what is frozen of a heap (the script) -/
def fz (H : Hp) : Hp := fun b => match H b with
  | some (.frz o u) => some (.frz o u)
  | _ => none
theorem fz_some {H : Hp} {b : Addr} {o : HO} (h : fz H b = some o) : ∃ ob u, o = .frz ob u ∧ H b = some (.frz ob u) := by
  unfold fz at h
  split at h
  · rename_i ob u e
    cases h
    exact ⟨ob, u, rfl, e⟩
  · cases h
theorem fz_of {H : Hp} {b : Addr} {ob : Obj} {u : HO} (h : H b = some (.frz ob u)) : fz H b = some (.frz ob u) := by
  unfold fz
  rw [h]
theorem fz_mono {K : PySem.W.Frag} {H H' : Hp} {a : Addr} {xs : List V} (e : ∀ b o u, H b = some (.frz o u) → H' b = some (.frz o u)) (h : SqL K (fz H) a xs) : SqL K (fz H') a xs := by
  rcases h with (h | ⟨o, h⟩) | h
  · obtain ⟨_, _, z, _⟩ := fz_some h
    cases z
  · obtain ⟨ob, u, z, w⟩ := fz_some h
    cases z
    exact .inl (.inr ⟨_, fz_of (e _ _ _ w)⟩)
  · exact .inr h
theorem fz_sub {K : PySem.W.Frag} {H : Hp} {a : Addr} {xs : List V} (h : SqL K (fz H) a xs) : SqL K H a xs := by
  rcases h with (h | ⟨o, h⟩) | h
  · obtain ⟨_, _, z, _⟩ := fz_some h
    cases z
  · obtain ⟨ob, u, z, w⟩ := fz_some h
    cases z
    exact .inl (.inr ⟨_, w⟩)
  · exact .inr h
instance : Inhabited D := ⟨.non⟩
mutual
/-- v stands for d, and leans on no list, dict or instance of M -/
inductive Dat (K : PySem.W.Frag) (M : Addr → Prop) (H : Hp) : V → D → Prop
  | non : Dat K M H .non .non
  | bl (b : Bool) : Dat K M H (.bl b) (.bl b)
  | int (i : Int) : Dat K M H (.int i) (.int i)
  | str (x : Str) : Dat K M H (.str x) (.str x)
  | tup {a : Addr} {xs : List V} {ds : List D} : SqT K H a xs → DatAll K M H xs ds → Dat K M H (.ref a) (.tup ds)
  | lst {a : Addr} {xs : List V} {ds : List D} : ¬ M a → H a = some (.lst xs) → DatAll K M H xs ds → Dat K M H (.ref a) (.lst ds)
  | dic {a : Addr} {kvs : List (Key × V)} {ks : List Key} {ds : List D} : ¬ M a → Rd H a (.dK kvs) → kvs.map (·.1) = ks → DatAll K M H (kvs.map (·.2)) ds → Dat K M H (.ref a) (.dic ks ds)
  | dit {a : Addr} {kvs : List (List Key × V)} {ks : List (List Key)} {ds : List D} : ¬ M a → Rd H a (.dT kvs) → kvs.map (·.1) = ks → DatAll K M H (kvs.map (·.2)) ds → Dat K M H (.ref a) (.dit ks ds)
  | ins {a C dx : Addr} {fs : List (Str × V)} {ns : List Str} {ds : List D} : ¬ M a → H a = some (.ins C dx fs) → fs.map (·.1) = ns → DatAll K M H (fs.map (·.2)) ds → Dat K M H (.ref a) (.ins C ns ds)
  | cls (a : Addr) : Dat K M H (.ref a) (.cls a)
  | ty (n : String) : Dat K M H (.ty n) (.ty n)
  | scr {a : Addr} {ns : List Int} : SqL K (fz H) a (ns.map V.int) → Dat K M H (.ref a) (.scr ns)
inductive DatAll (K : PySem.W.Frag) (M : Addr → Prop) (H : Hp) : List V → List D → Prop
  | nil : DatAll K M H [] []
  | cons {v : V} {vs : List V} {d : D} {ds : List D} : Dat K M H v d → DatAll K M H vs ds → DatAll K M H (v :: vs) (d :: ds)
end
/-- what may change -/
def MutK : HO → Prop
  | .lst _ | .dK _ | .dT _ | .ins _ _ _ => True
  | _ => False
/-- what stands at M may change -/
def Kind (M : Addr → Prop) (H : Hp) : Prop := ∀ b, M b → ∃ o, H b = some o ∧ MutK o
/-- from (M, H) on: what is not of M stays; only new objects come to M -/
structure Ev (M : Addr → Prop) (H : Hp) (M' : Addr → Prop) (H' : Hp) : Prop where
  m : ∀ b, M' b → M b ∨ H b = none
  h : ∀ b o, ¬ M b → H b = some o → H' b = some o
section
variable {K : PySem.W.Frag} {M M' M1 M2 : Addr → Prop} {H H' H1 H2 : Hp}
theorem Ev.refl : Ev M H M H := ⟨fun _ h => .inl h, fun _ _ _ h => h⟩
theorem Ev.trans (a : Ev M H M1 H1) (b : Ev M1 H1 M2 H2) : Ev M H M2 H2 := by
  refine ⟨fun c h => ?_, fun c o n e => ?_⟩
  · rcases b.m c h with h | h
    · exact a.m c h
    · by_cases z : M c
      · exact .inl z
      · cases q : H c with
        | none => exact .inr rfl
        | some o => rw [a.h c o z q] at h; cases h
  · refine b.h c o (fun z => ?_) (a.h c o n e)
    rcases a.m c z with z | z
    · exact n z
    · rw [e] at z; cases z
theorem Ev.same (s : Same H H') : Ev M H M H' := ⟨fun _ h => .inl h, fun b o _ e => s b o e⟩
theorem Ev.less (s : ∀ b, M' b → M b) : Ev M H M' H := ⟨fun b h => .inl (s b h), fun _ _ _ e => e⟩
theorem Ev.not (e : Ev M H M' H') {b : Addr} {o : HO} (n : ¬ M b) (h : H b = some o) : ¬ M' b := fun z => by
  rcases e.m b z with z | z
  · exact n z
  · rw [h] at z; cases z
theorem Ev.rd (e : Ev M H M' H') {b : Addr} {u : HO} (n : ¬ M b) (h : Rd H b u) : Rd H' b u := by
  rcases h with h | ⟨o, h⟩
  · exact .inl (e.h _ _ n h)
  · exact .inr ⟨o, e.h _ _ n h⟩
theorem rd_some {b : Addr} {u : HO} (h : Rd H b u) : ∃ o, H b = some o := by
  rcases h with h | ⟨o, h⟩
  · exact ⟨_, h⟩
  · exact ⟨_, h⟩
theorem Kind.notTup (k : Kind M H) {b : Addr} {xs : List V} (h : H b = some (.tup xs)) : ¬ M b := fun z => by
  obtain ⟨o, e, m⟩ := k b z
  rw [h] at e; cases e; exact m
theorem Kind.notFrz (k : Kind M H) {b : Addr} {o : Obj} {u : HO} (h : H b = some (.frz o u)) : ¬ M b := fun z => by
  obtain ⟨o', e, m⟩ := k b z
  rw [h] at e; cases e; exact m
theorem Kind.sqT (k : Kind M H) (e : Ev M H M' H') {a : Addr} {xs : List V} (h : SqT K H a xs) : SqT K H' a xs := by
  rcases h with (h | ⟨o, h⟩) | h
  · exact .inl (.inl (e.h _ _ (k.notTup h) h))
  · exact .inl (.inr ⟨o, e.h _ _ (k.notFrz h) h⟩)
  · exact .inr h
mutual
theorem Dat.ev (k : Kind M H) (e : Ev M H M' H') : ∀ {v : V} {d : D}, Dat K M H v d → Dat K M' H' v d
  | _, _, .non => .non
  | _, _, .bl b => .bl b
  | _, _, .int i => .int i
  | _, _, .str x => .str x
  | _, _, .tup h a => .tup (k.sqT e h) (DatAll.ev k e a)
  | _, _, .lst n h a => .lst (e.not n h) (e.h _ _ n h) (DatAll.ev k e a)
  | _, _, .dic n h q a => .dic ((rd_some h).elim fun _ z => e.not n z) (e.rd n h) q (DatAll.ev k e a)
  | _, _, .dit n h q a => .dit ((rd_some h).elim fun _ z => e.not n z) (e.rd n h) q (DatAll.ev k e a)
  | _, _, .ins n h q a => .ins (e.not n h) (e.h _ _ n h) q (DatAll.ev k e a)
  | _, _, .cls a => .cls a
  | _, _, .ty a => .ty a
  | _, _, .scr h => .scr (fz_mono (fun b o u q => e.h _ _ (k.notFrz q) q) h)
theorem DatAll.ev (k : Kind M H) (e : Ev M H M' H') : ∀ {vs : List V} {ds : List D}, DatAll K M H vs ds → DatAll K M' H' vs ds
  | _, _, .nil => .nil
  | _, _, .cons r t => .cons (Dat.ev k e r) (DatAll.ev k e t)
end
mutual
theorem Dat.less (s : ∀ b, M' b → M b) : ∀ {v : V} {d : D}, Dat K M H v d → Dat K M' H v d
  | _, _, .non => .non
  | _, _, .bl b => .bl b
  | _, _, .int i => .int i
  | _, _, .str x => .str x
  | _, _, .tup h a => .tup h (DatAll.less s a)
  | _, _, .lst n h a => .lst (fun z => n (s _ z)) h (DatAll.less s a)
  | _, _, .dic n h q a => .dic (fun z => n (s _ z)) h q (DatAll.less s a)
  | _, _, .dit n h q a => .dit (fun z => n (s _ z)) h q (DatAll.less s a)
  | _, _, .ins n h q a => .ins (fun z => n (s _ z)) h q (DatAll.less s a)
  | _, _, .cls a => .cls a
  | _, _, .ty a => .ty a
  | _, _, .scr h => .scr h
theorem DatAll.less (s : ∀ b, M' b → M b) : ∀ {vs : List V} {ds : List D}, DatAll K M H vs ds → DatAll K M' H vs ds
  | _, _, .nil => .nil
  | _, _, .cons r t => .cons (Dat.less s r) (DatAll.less s t)
end
theorem same_seqT {a : Addr} {xs : List V} (e : Same H H') (h : SqT K H a xs) : SqT K H' a xs := by
  rcases h with (h | ⟨o, h⟩) | h
  · exact .inl (.inl (e _ _ h))
  · exact .inl (.inr ⟨o, e _ _ h⟩)
  · exact .inr h
theorem same_rd {a : Addr} {u : HO} (e : Same H H') (h : Rd H a u) : Rd H' a u := by
  rcases h with h | ⟨o, h⟩
  · exact .inl (e _ _ h)
  · exact .inr ⟨o, e _ _ h⟩
mutual
theorem Dat.same (e : Same H H') : ∀ {v : V} {d : D}, Dat K M H v d → Dat K M H' v d
  | _, _, .non => .non
  | _, _, .bl b => .bl b
  | _, _, .int i => .int i
  | _, _, .str x => .str x
  | _, _, .tup h a => .tup (same_seqT e h) (DatAll.same e a)
  | _, _, .lst n h a => .lst n (e _ _ h) (DatAll.same e a)
  | _, _, .dic n h q a => .dic n (same_rd e h) q (DatAll.same e a)
  | _, _, .dit n h q a => .dit n (same_rd e h) q (DatAll.same e a)
  | _, _, .ins n h q a => .ins n (e _ _ h) q (DatAll.same e a)
  | _, _, .cls a => .cls a
  | _, _, .ty a => .ty a
  | _, _, .scr h => .scr (fz_mono (fun b o u q => e _ _ q) h)
theorem DatAll.same (e : Same H H') : ∀ {vs : List V} {ds : List D}, DatAll K M H vs ds → DatAll K M H' vs ds
  | _, _, .nil => .nil
  | _, _, .cons r t => .cons (Dat.same e r) (DatAll.same e t)
end
theorem DatAll.length : ∀ {vs : List V} {ds : List D}, DatAll K M H vs ds → vs.length = ds.length
  | _, _, .nil => rfl
  | _, _, .cons _ t => by rw [List.length_cons, List.length_cons, DatAll.length t]
theorem DatAll.get : ∀ {vs : List V} {ds : List D} {i : Nat} {v : V}, DatAll K M H vs ds → vs[i]? = some v → ∃ d, ds[i]? = some d ∧ Dat K M H v d
  | _, _, _, _, .nil, e => by simp at e
  | _, _, 0, _, .cons r _, e => by simp at e; subst e; exact ⟨_, rfl, r⟩
  | _, _, i + 1, v, .cons _ t, e => by
    obtain ⟨u, h1, h2⟩ := DatAll.get (i := i) (v := v) t (by simpa using e)
    exact ⟨u, by simpa using h1, h2⟩
theorem DatAll.getD : ∀ {vs : List V} {ds : List D} {i : Nat} {d : D}, DatAll K M H vs ds → ds[i]? = some d → ∃ v, vs[i]? = some v ∧ Dat K M H v d
  | _, _, _, _, .nil, e => by simp at e
  | _, _, 0, _, .cons r _, e => by simp at e; subst e; exact ⟨_, rfl, r⟩
  | _, _, i + 1, v, .cons _ t, e => by
    obtain ⟨u, h1, h2⟩ := DatAll.getD (i := i) (d := v) t (by simpa using e)
    exact ⟨u, by simpa using h1, h2⟩
theorem DatAll.append : ∀ {vs us : List V} {ds es : List D}, DatAll K M H vs ds → DatAll K M H us es → DatAll K M H (vs ++ us) (ds ++ es)
  | _, _, _, _, .nil, s => s
  | _, _, _, _, .cons r t, s => .cons r (DatAll.append t s)
theorem DatAll.take : ∀ {vs : List V} {ds : List D} (n : Nat), DatAll K M H vs ds → DatAll K M H (vs.take n) (ds.take n)
  | _, _, 0, _ => by simp only [List.take_zero]; exact .nil
  | _, _, _ + 1, .nil => .nil
  | _, _, n + 1, .cons r t => .cons r (DatAll.take n t)
theorem DatAll.drop : ∀ {vs : List V} {ds : List D} (n : Nat), DatAll K M H vs ds → DatAll K M H (vs.drop n) (ds.drop n)
  | _, _, 0, r => r
  | _, _, _ + 1, .nil => .nil
  | _, _, n + 1, .cons _ t => DatAll.drop n t
theorem DatAll.set {v : V} {d : D} (r : Dat K M H v d) : ∀ {vs : List V} {ds : List D} (i : Nat), DatAll K M H vs ds → DatAll K M H (vs.set i v) (ds.set i d)
  | _, _, _, .nil => .nil
  | _, _, 0, .cons _ t => .cons r t
  | _, _, i + 1, .cons q t => .cons q (DatAll.set r i t)
theorem DatAll.reverse : ∀ {vs : List V} {ds : List D}, DatAll K M H vs ds → DatAll K M H vs.reverse ds.reverse
  | _, _, .nil => .nil
  | _, _, .cons r t => by
    rw [List.reverse_cons, List.reverse_cons]
    exact (DatAll.reverse t).append (.cons r .nil)
theorem DatAll.strs : ∀ {vs : List V} {xs : List Str}, DatAll K M H vs (xs.map D.str) → vs = xs.map V.str
  | _, [], .nil => rfl
  | _, x :: xs, .cons r t => by cases r; rw [DatAll.strs t]; rfl
theorem DatAll.bls : ∀ {vs : List V} {xs : List Bool}, DatAll K M H vs (xs.map D.bl) → vs = xs.map V.bl
  | _, [], .nil => rfl
  | _, x :: xs, .cons r t => by cases r; rw [DatAll.bls t]; rfl
theorem DatAll.of_strs : ∀ (xs : List Str), DatAll K M H (xs.map V.str) (xs.map D.str)
  | [] => .nil
  | x :: xs => .cons (.str x) (DatAll.of_strs xs)
theorem DatAll.of_ints : ∀ (xs : List Int), DatAll K M H (xs.map V.int) (xs.map D.int)
  | [] => .nil
  | x :: xs => .cons (.int x) (DatAll.of_ints xs)
end
inductive Cont (K : PySem.W.Frag) (M : Addr → Prop) (H : Hp) : HO → D → Prop
  | lst {xs : List V} {ds : List D} : DatAll K M H xs ds → Cont K M H (.lst xs) (.lst ds)
  | dic {kvs : List (Key × V)} {ks : List Key} {ds : List D} : kvs.map (·.1) = ks → DatAll K M H (kvs.map (·.2)) ds → Cont K M H (.dK kvs) (.dic ks ds)
  | dit {kvs : List (List Key × V)} {ks : List (List Key)} {ds : List D} : kvs.map (·.1) = ks → DatAll K M H (kvs.map (·.2)) ds → Cont K M H (.dT kvs) (.dit ks ds)
  | ins {C dx : Addr} {fs : List (Str × V)} {ns : List Str} {ds : List D} : fs.map (·.1) = ns → DatAll K M H (fs.map (·.2)) ds → Cont K M H (.ins C dx fs) (.ins C ns ds)
def Own (K : PySem.W.Frag) (M : Addr → Prop) (H : Hp) (a : Addr) (d : D) : Prop := ∃ o, H a = some o ∧ Cont K M H o d
section
variable {K : PySem.W.Frag} {M M' : Addr → Prop} {H H' : Hp} {a : Addr} {d : D} {u : HO}
theorem Cont.mut (o : Cont K M H u d) : MutK u := by
  cases o <;> trivial
theorem Cont.ev (k : Kind M H) (e : Ev M H M' H') (o : Cont K M H u d) : Cont K M' H' u d := by
  cases o with
  | lst q => exact .lst (q.ev k e)
  | dic z q => exact .dic z (q.ev k e)
  | dit z q => exact .dit z (q.ev k e)
  | ins z q => exact .ins z (q.ev k e)
theorem Cont.same (e : Same H H') (o : Cont K M H u d) : Cont K M H' u d := by
  cases o with
  | lst q => exact .lst (q.same e)
  | dic z q => exact .dic z (q.same e)
  | dit z q => exact .dit z (q.same e)
  | ins z q => exact .ins z (q.same e)
theorem Cont.less (s : ∀ b, M' b → M b) (o : Cont K M H u d) : Cont K M' H u d := by
  cases o with
  | lst q => exact .lst (q.less s)
  | dic z q => exact .dic z (q.less s)
  | dit z q => exact .dit z (q.less s)
  | ins z q => exact .ins z (q.less s)
/-- it is data for whoever leaves it as it is -/
theorem Cont.dat (n : ¬ M a) (h : H a = some u) (o : Cont K M H u d) : Dat K M H (.ref a) d := by
  cases o with
  | lst q => exact .lst n h q
  | dic z q => exact .dic n (.inl h) z q
  | dit z q => exact .dit n (.inl h) z q
  | ins z q => exact .ins n h z q
end
end DL
set_option autoImplicit false
namespace DL
open PySem PySem.Spec PyProof.Rows L2
inductive Cell where
  | no | dat (d : D) | own (par : Bool) (d : D)
abbrev Cs := List Cell
abbrev Mo (α : Type) := Cs → Option (α × Cs)
/-- what the callers own (M0), what of it may be changed here (P), the heap at the entry -/
structure Ctx (K : PySem.W.Frag) where
  M0 : Addr → Prop
  P : Addr → Prop
  H0 : Hp
inductive CellR {K : PySem.W.Frag} (c : Ctx K) (M : Addr → Prop) (H : Hp) : Option V → Cell → Prop
  | no (x : Option V) : CellR c M H x .no
  | dat {v : V} {d : D} : Dat K M H v d → CellR c M H (some v) (.dat d)
  | own {p : Bool} {a : Addr} {d : D} : M a → (if p = true then c.P a else ¬ c.M0 a) → Own K M H a d → CellR c M H (some (.ref a)) (.own p d)
structure Sta {K : PySem.W.Frag} (c : Ctx K) (M : Addr → Prop) (σ : L2.St) (H : Hp) (ρ : Cs) : Prop where
  pm : ∀ b, c.P b → c.M0 b
  sub : ∀ b, c.M0 b → M b
  new : ∀ b, M b → ¬ c.M0 b → c.H0 b = none
  kind : Kind M H
  base : ∀ b o, ¬ c.P b → c.H0 b = some o → H b = some o
  len : ρ.length = σ.length
  cell : ∀ (i : Nat) x y, σ[i]? = some x → ρ[i]? = some y → CellR c M H x y
  inj : ∀ (i j : Nat) a p q d e, σ[i]? = some (some (.ref a)) → ρ[i]? = some (.own p d) → σ[j]? = some (some (.ref a)) → ρ[j]? = some (.own q e) → i = j
section
variable {K : PySem.W.Frag} {c : Ctx K} {M : Addr → Prop} {σ : L2.St} {H H' : Hp} {ρ : Cs}
theorem Sta.same (S : Sta c M σ H ρ) (e : Same H H') : Sta c M σ H' ρ := by
  refine ⟨S.pm, S.sub, S.new, fun b h => ?_, fun b o n h => e _ _ (S.base b o n h), S.len, fun i x y h1 h2 => ?_, S.inj⟩
  · obtain ⟨o, q, m⟩ := S.kind b h
    exact ⟨o, e _ _ q, m⟩
  · cases S.cell i x y h1 h2 with
    | no => exact .no _
    | dat q => exact .dat (q.same e)
    | own m p q => exact .own m p (q.elim fun o z => ⟨o, e _ _ z.1, z.2.same e⟩)
/-- the owned object of slot i is changed -/
theorem Sta.mut (S : Sta c M σ H ρ) {i : Nat} {a : Addr} {p : Bool} {d d' : D} (hi : σ[i]? = some (some (.ref a))) (hr : ρ[i]? = some (.own p d)) (ho : ∀ b o, b ≠ a → H b = some o → H' b = some o)
    (hn : Own K M H' a d') : Ev M H M H' ∧ Sta c M σ H' (ρ.set i (.own p d')) := by
  have hc := S.cell i _ _ hi hr
  have Ma : M a := by cases hc with | own m _ _ => exact m
  have Pa : if p = true then c.P a else ¬ c.M0 a := by cases hc with | own _ q _ => exact q
  have E : Ev M H M H' := ⟨fun b h => .inl h, fun b o n h => ho b o (fun z => n (by rw [z]; exact Ma)) h⟩
  refine ⟨E, S.pm, S.sub, S.new, fun b h => ?_, fun b o n h => ?_, by rw [List.length_set]; exact S.len, fun j x y h1 h2 => ?_, fun j k b p1 p2 d1 d2 a1 a2 a3 a4 => ?_⟩
  · by_cases z : b = a
    · subst z
      obtain ⟨u, q, w⟩ := hn
      exact ⟨u, q, w.mut⟩
    · obtain ⟨o, q, m⟩ := S.kind b h
      exact ⟨o, ho b o z q, m⟩
  · refine ho b o (fun z => ?_) (S.base b o n h)
    subst z
    cases p with
    | true => exact n Pa
    | false => rw [S.new b Ma (by simpa using Pa)] at h; cases h
  · by_cases z : j = i
    · subst z
      rw [hi] at h1; cases h1
      rw [List.getElem?_set_self (by
        obtain ⟨l, _⟩ := List.getElem?_eq_some_iff.mp hr
        exact l)] at h2
      cases h2
      exact .own Ma Pa hn
    · rw [List.getElem?_set_ne (Ne.symm z)] at h2
      have hcj := S.cell j x y h1 h2
      cases hcj with
      | no => exact .no _
      | dat q => exact .dat (q.ev S.kind E)
      | own m q w =>
        rename_i p' a' d''
        have ne : a' ≠ a := fun e => z (S.inj j i a p' p d'' d (by rw [← e]; exact h1) h2 hi hr)
        exact .own m q (w.elim fun o r => ⟨o, ho _ _ ne r.1, r.2.ev S.kind E⟩)
  · by_cases z1 : j = i
    · by_cases z2 : k = i
      · rw [z1, z2]
      · subst z1
        rw [List.getElem?_set_ne (Ne.symm z2)] at a4
        rw [hi] at a1; cases a1
        exact S.inj j k _ p p2 d d2 hi hr a3 a4
    · rw [List.getElem?_set_ne (Ne.symm z1)] at a2
      by_cases z2 : k = i
      · subst z2
        rw [hi] at a3; cases a3
        exact S.inj j k _ p1 p d1 d a1 a2 hi hr
      · rw [List.getElem?_set_ne (Ne.symm z2)] at a4
        exact S.inj j k b p1 p2 d1 d2 a1 a2 a3 a4
theorem Sta.setDat (S : Sta c M σ H ρ) (i : Nat) {v : V} {d : D} (h : Dat K M H v d) : Sta c M (σ.set i (some v)) H (ρ.set i (.dat d)) := by
  refine ⟨S.pm, S.sub, S.new, S.kind, S.base, by rw [List.length_set, List.length_set]; exact S.len, fun j x y h1 h2 => ?_, fun j k b p1 p2 d1 d2 a1 a2 a3 a4 => ?_⟩
  · by_cases z : i = j
    · subst z
      have l : i < ρ.length := by
        have := (List.getElem?_eq_some_iff.mp h2).1
        simpa using this
      rw [List.getElem?_set_self (by rw [← S.len]; exact l)] at h1
      rw [List.getElem?_set_self l] at h2
      cases h1; cases h2
      exact .dat h
    · rw [List.getElem?_set_ne z] at h1 h2
      exact S.cell j x y h1 h2
  · have one : ∀ {n : Nat} {q : Bool} {e : D}, (ρ.set i (.dat d))[n]? = some (.own q e) → i ≠ n := fun {n q e} h z => by
      subst z
      have l : i < ρ.length := by
        have := (List.getElem?_eq_some_iff.mp h).1
        simpa using this
      rw [List.getElem?_set_self l] at h
      cases h
    have z1 := one a2
    have z2 := one a4
    rw [List.getElem?_set_ne z1] at a1 a2
    rw [List.getElem?_set_ne z2] at a3 a4
    exact S.inj j k b p1 p2 d1 d2 a1 a2 a3 a4
/-- the owned object of slot i is changed no more -/
theorem Sta.freeze (S : Sta c M σ H ρ) {i : Nat} {a : Addr} {d : D} (hi : σ[i]? = some (some (.ref a))) (hr : ρ[i]? = some (.own false d)) :
    Ev M H (fun b => M b ∧ b ≠ a) H ∧ Sta c (fun b => M b ∧ b ≠ a) σ H (ρ.set i (.dat d)) ∧ Dat K (fun b => M b ∧ b ≠ a) H (.ref a) d := by
  have hc := S.cell i _ _ hi hr
  obtain ⟨na, o, ho, hd⟩ : ¬ c.M0 a ∧ Own K M H a d := by
    cases hc with | own _ q w => exact ⟨by simpa using q, w⟩
  have L : ∀ b, (M b ∧ b ≠ a) → M b := fun b h => h.1
  have E : Ev M H (fun b => M b ∧ b ≠ a) H := Ev.less L
  have Q : Dat K (fun b => M b ∧ b ≠ a) H (.ref a) d := (hd.less L).dat (fun z => z.2 rfl) ho
  refine ⟨E, ⟨S.pm, fun b h => ⟨S.sub b h, fun z => na (by rw [← z]; exact h)⟩, fun b h n => S.new b h.1 n, fun b h => S.kind b h.1, S.base, by rw [List.length_set]; exact S.len, fun j x y h1 h2 => ?_, fun j k b p1 p2 d1 d2 a1 a2 a3 a4 => ?_⟩, Q⟩
  · by_cases z : j = i
    · subst z
      rw [hi] at h1; cases h1
      rw [List.getElem?_set_self (by
        obtain ⟨l, _⟩ := List.getElem?_eq_some_iff.mp hr
        exact l)] at h2
      cases h2
      exact .dat Q
    · rw [List.getElem?_set_ne (Ne.symm z)] at h2
      cases hcj : S.cell j x y h1 h2 with
      | no => exact .no _
      | dat q => exact .dat (q.less L)
      | own m q w =>
        rename_i p' a' d''
        have ne : a' ≠ a := fun e => z (S.inj j i a p' false d'' d (by rw [← e]; exact h1) h2 hi hr)
        exact .own ⟨m, ne⟩ q (w.elim fun o r => ⟨o, r.1, r.2.less L⟩)
  · have one : ∀ {n : Nat} {q : Bool} {e : D}, (ρ.set i (.dat d))[n]? = some (.own q e) → i ≠ n := fun {n q e} h z => by
      subst z
      have l : i < ρ.length := by
        have := (List.getElem?_eq_some_iff.mp h).1
        simpa using this
      rw [List.getElem?_set_self l] at h
      cases h
    have z1 := one a2
    have z2 := one a4
    rw [List.getElem?_set_ne z1] at a2
    rw [List.getElem?_set_ne z2] at a4
    exact S.inj j k b p1 p2 d1 d2 a1 a2 a3 a4
theorem Sta.dat (S : Sta c M σ H ρ) {i : Nat} {d : D} (h : ρ[i]? = some (.dat d)) : ∃ v, σ[i]? = some (some v) ∧ Dat K M H v d := by
  have l : i < σ.length := by rw [← S.len]; exact (List.getElem?_eq_some_iff.mp h).1
  have e : σ[i]? = some σ[i] := List.getElem?_eq_getElem l
  generalize σ[i] = x at e
  cases S.cell i x _ e h with
  | dat q => exact ⟨_, e, q⟩
theorem Sta.own (S : Sta c M σ H ρ) {i : Nat} {p : Bool} {d : D} (h : ρ[i]? = some (.own p d)) : ∃ a, σ[i]? = some (some (.ref a)) ∧ M a ∧ (if p = true then c.P a else ¬ c.M0 a) ∧ Own K M H a d := by
  have l : i < σ.length := by rw [← S.len]; exact (List.getElem?_eq_some_iff.mp h).1
  have e : σ[i]? = some σ[i] := List.getElem?_eq_getElem l
  generalize σ[i] = x at e
  cases S.cell i x _ e h with
  | own m q w => exact ⟨_, e, m, q, w⟩
end
def Held (σ : L2.St) (ρ : Cs) (a : Addr) : Prop := ∃ (i : Nat) (p : Bool) (d : D), σ[i]? = some (some (V.ref a)) ∧ ρ[i]? = some (Cell.own p d)
structure Es (σ : L2.St) (M : Addr → Prop) (H : Hp) (ρ : Cs) (σ' : L2.St) (M' : Addr → Prop) (H' : Hp) (ρ' : Cs) : Prop where
  ev : Ev M H M' H'
  kp : ∀ b o, ¬ Held σ ρ b → H b = some o → H' b = some o
  hs : ∀ b o, H b = some o → Held σ' ρ' b → Held σ ρ b
  mc : ∀ b, M b → ¬ Held σ ρ b → M' b
  dm : ∀ b, H' b = none → H b = none
section
variable {σ σ1 σ2 : L2.St} {M M1 M2 : Addr → Prop} {H H1 H2 : Hp} {ρ ρ1 ρ2 : Cs}
theorem Es.refl : Es σ M H ρ σ M H ρ := ⟨.refl, fun _ _ _ h => h, fun _ _ _ h => h, fun _ h _ => h, fun _ h => h⟩
theorem Es.trans (a : Es σ M H ρ σ1 M1 H1 ρ1) (b : Es σ1 M1 H1 ρ1 σ2 M2 H2 ρ2) (k : Kind M H) : Es σ M H ρ σ2 M2 H2 ρ2 := by
  have hs : ∀ c o, H c = some o → ¬ Held σ ρ c → ¬ Held σ1 ρ1 c := fun c o h n z => n (a.hs c o h z)
  refine ⟨a.ev.trans b.ev, fun c o n h => b.kp c o (hs c o h n) (a.kp c o n h), fun c o h z => ?_, fun c h n => ?_, fun c h => a.dm c (b.dm c h)⟩
  · by_cases n : Held σ ρ c
    · exact n
    · exact (n (a.hs c o h (b.hs c o (a.kp c o n h) z))).elim
  · obtain ⟨o, e, _⟩ := k c h
    exact b.mc c (a.mc c h n) (hs c o e n)
theorem Es.same (s : Same H H1) : Es σ M H ρ σ M H1 ρ := ⟨.same s, fun b o _ h => s b o h, fun _ _ _ h => h, fun _ h _ => h, fun _ h => s.free h⟩
end
theorem held_freeze {σ : L2.St} {ρ : Cs} {i : Nat} {d : D} (b : Addr) (h : Held σ (ρ.set i (.dat d)) b) : Held σ ρ b := by
  obtain ⟨j, p, e, h1, h2⟩ := h
  by_cases z : i = j
  · subst z
    have l : i < ρ.length := by
      have := (List.getElem?_eq_some_iff.mp h2).1
      simpa using this
    rw [List.getElem?_set_self l] at h2
    cases h2
  · rw [List.getElem?_set_ne z] at h2
    exact ⟨j, p, e, h1, h2⟩
theorem held_mut {σ : L2.St} {ρ : Cs} {i : Nat} {p : Bool} {d d' : D} (hr : ρ[i]? = some (.own p d)) (b : Addr) (h : Held σ (ρ.set i (.own p d')) b) : Held σ ρ b := by
  obtain ⟨j, q, e, h1, h2⟩ := h
  by_cases z : i = j
  · subst z
    exact ⟨i, p, d, h1, hr⟩
  · rw [List.getElem?_set_ne z] at h2
    exact ⟨j, q, e, h1, h2⟩
theorem Sta.freezeE {K : PySem.W.Frag} {c : Ctx K} {M : Addr → Prop} {σ : L2.St} {H : Hp} {ρ : Cs} (S : Sta c M σ H ρ) {i : Nat} {a : Addr} {d : D} (hi : σ[i]? = some (some (.ref a))) (hr : ρ[i]? = some (.own false d)) :
    Es σ M H ρ σ (fun b => M b ∧ b ≠ a) H (ρ.set i (.dat d)) ∧ Sta c (fun b => M b ∧ b ≠ a) σ H (ρ.set i (.dat d)) ∧ Dat K (fun b => M b ∧ b ≠ a) H (.ref a) d := by
  obtain ⟨E, S', h⟩ := S.freeze hi hr
  exact ⟨⟨E, fun _ _ _ h => h, fun b _ _ => held_freeze b, fun b h n => ⟨h, fun z => n ⟨i, false, d, by rw [z]; exact hi, hr⟩⟩, fun _ h => h⟩, S', h⟩
theorem Sta.mutE {K : PySem.W.Frag} {c : Ctx K} {M : Addr → Prop} {σ : L2.St} {H H' : Hp} {ρ : Cs} (S : Sta c M σ H ρ) {i : Nat} {a : Addr} {p : Bool} {d d' : D} (hi : σ[i]? = some (some (.ref a))) (hr : ρ[i]? = some (.own p d)) (ho : ∀ b o, b ≠ a → H b = some o → H' b = some o)
    (hn : Own K M H' a d') : Es σ M H ρ σ M H' (ρ.set i (.own p d')) ∧ Sta c M σ H' (ρ.set i (.own p d')) := by
  obtain ⟨E, S'⟩ := S.mut hi hr ho hn
  refine ⟨⟨E, fun b o n h => ho b o (fun z => n ⟨i, p, d, by rw [z]; exact hi, hr⟩) h, fun b _ _ => held_mut hr b, fun _ h _ => h, fun b h => ?_⟩, S'⟩
  by_cases z : b = a
  · subst z
    obtain ⟨u, q, _⟩ := hn
    rw [q] at h; cases h
  · cases q : H b with
    | none => rfl
    | some o => rw [ho b o z q] at h; cases h
/-- an object that no slot holds yet -/
theorem Sta.hold {K : PySem.W.Frag} {c : Ctx K} {M : Addr → Prop} {σ : L2.St} {H H' : Hp} {ρ : Cs} (S : Sta c M σ H ρ) {a : Addr} {o : HO} (hf : H a = none) (e : Same H H') (ho : H' a = some o) (hm : MutK o) :
    Es σ M H ρ σ (fun b => M b ∨ b = a) H' ρ ∧ Sta c (fun b => M b ∨ b = a) σ H' ρ ∧ ¬ Held σ ρ a := by
  have nM : ¬ M a := fun z => by
    obtain ⟨u, q, _⟩ := S.kind a z
    rw [hf] at q; cases q
  have E : Ev M H (fun b => M b ∨ b = a) H' := ⟨fun b h => h.elim .inl fun z => .inr (by rw [z]; exact hf), fun b u _ h => e _ _ h⟩
  have h0 : c.H0 a = none := by
    cases q : c.H0 a with
    | none => rfl
    | some u =>
      by_cases z : c.P a
      · exact absurd (S.sub a (S.pm a z)) nM
      · rw [S.base a u z q] at hf; cases hf
  refine ⟨⟨E, fun b u _ h => e _ _ h, fun _ _ _ h => h, fun b h _ => .inl h, fun _ h => e.free h⟩, ⟨S.pm, fun b h => .inl (S.sub b h), fun b h n => h.elim (fun z => S.new b z n) (fun z => by rw [z]; exact h0), fun b h => ?_, fun b u n h => e _ _ (S.base b u n h), S.len, fun j x y h1 h2 => ?_, S.inj⟩, ?_⟩
  · rcases h with h | h
    · obtain ⟨u, q, m⟩ := S.kind b h
      exact ⟨u, e _ _ q, m⟩
    · rw [h]; exact ⟨o, ho, hm⟩
  · cases S.cell j x y h1 h2 with
    | no => exact .no _
    | dat q => exact .dat (q.ev S.kind E)
    | own m p q => exact .own (.inl m) p (q.elim fun u w => ⟨u, e _ _ w.1, w.2.ev S.kind E⟩)
  · rintro ⟨j, p, d, h1, h2⟩
    cases S.cell j _ _ h1 h2 with
    | own m _ _ => exact nM m
/-- .. comes to slot i -/
theorem Sta.take {K : PySem.W.Frag} {c : Ctx K} {M : Addr → Prop} {σ : L2.St} {H : Hp} {ρ : Cs} (S : Sta c M σ H ρ) {a : Addr} {d : D} (i : Nat) (hM : M a) (h0 : c.H0 a = none) (n0 : ¬ c.M0 a) (ho : Own K M H a d) (hh : ¬ Held σ ρ a) :
    Sta c M (σ.set i (some (.ref a))) H (ρ.set i (.own false d)) := by
  refine ⟨S.pm, S.sub, S.new, S.kind, S.base, by rw [List.length_set, List.length_set]; exact S.len, fun j x y h1 h2 => ?_, fun j k b p1 p2 d1 d2 a1 a2 a3 a4 => ?_⟩
  · by_cases z : i = j
    · subst z
      have l : i < ρ.length := by
        have := (List.getElem?_eq_some_iff.mp h2).1
        simpa using this
      rw [List.getElem?_set_self (by rw [← S.len]; exact l)] at h1
      rw [List.getElem?_set_self l] at h2
      cases h1; cases h2
      exact .own hM (by simpa using n0) ho
    · rw [List.getElem?_set_ne z] at h1 h2
      exact S.cell j x y h1 h2
  · by_cases z1 : i = j
    · by_cases z2 : i = k
      · rw [← z1, ← z2]
      · subst z1
        have l : i < ρ.length := by
          have := (List.getElem?_eq_some_iff.mp a2).1
          simpa using this
        rw [List.getElem?_set_self (by rw [← S.len]; exact l)] at a1
        cases a1
        rw [List.getElem?_set_ne z2] at a3 a4
        exact (hh ⟨k, p2, d2, a3, a4⟩).elim
    · by_cases z2 : i = k
      · subst z2
        have l : i < ρ.length := by
          have := (List.getElem?_eq_some_iff.mp a4).1
          simpa using this
        rw [List.getElem?_set_self (by rw [← S.len]; exact l)] at a3
        cases a3
        rw [List.getElem?_set_ne z1] at a1 a2
        exact (hh ⟨j, p1, d1, a1, a2⟩).elim
      · rw [List.getElem?_set_ne z1] at a1 a2
        rw [List.getElem?_set_ne z2] at a3 a4
        exact S.inj j k b p1 p2 d1 d2 a1 a2 a3 a4
/-- what is free at the entry -/
theorem Sta.free0 {K : PySem.W.Frag} {c : Ctx K} {M : Addr → Prop} {σ : L2.St} {H : Hp} {ρ : Cs} (S : Sta c M σ H ρ) {a : Addr} (hf : H a = none) : c.H0 a = none ∧ ¬ c.M0 a := by
  have nM : ¬ M a := fun z => by
    obtain ⟨u, q, _⟩ := S.kind a z
    rw [hf] at q; cases q
  refine ⟨?_, fun z => nM (S.sub a z)⟩
  cases q : c.H0 a with
  | none => rfl
  | some u =>
    by_cases z : c.P a
    · exact absurd (S.sub a (S.pm a z)) nM
    · rw [S.base a u z q] at hf; cases hf
/-- an object that no slot holds is given up -/
theorem Sta.unhold {K : PySem.W.Frag} {c : Ctx K} {M : Addr → Prop} {σ : L2.St} {H : Hp} {ρ : Cs} (S : Sta c M σ H ρ) {a : Addr} (n0 : ¬ c.M0 a) (nh : ¬ Held σ ρ a) : Sta c (fun b => M b ∧ b ≠ a) σ H ρ := by
  have L : ∀ b, (M b ∧ b ≠ a) → M b := fun b h => h.1
  refine ⟨S.pm, fun b h => ⟨S.sub b h, fun z => n0 (by rw [← z]; exact h)⟩, fun b h n => S.new b h.1 n, fun b h => S.kind b h.1, S.base, S.len, fun j x y h1 h2 => ?_, S.inj⟩
  cases S.cell j x y h1 h2 with
  | no => exact .no _
  | dat q => exact .dat (q.less L)
  | own m q w =>
    rename_i p' a' d''
    exact .own ⟨m, fun e => nh ⟨j, p', d'', by rw [← e]; exact h1, h2⟩⟩ q (w.elim fun o r => ⟨o, r.1, r.2.less L⟩)
def REv {K : PySem.W.Frag} (c : Ctx K) (t : TE) (m : Mo D) : Prop := ∀ M σ H ρ, Sta c M σ H ρ → ∀ d ρ', m ρ = some (d, ρ') → ∀ Q : VK, (∀ M' v H', Es σ M H ρ σ M' H' ρ' → Sta c M' σ H' ρ' → Dat K M' H' v d → Q v H') → t σ H Q
def RTt {K : PySem.W.Frag} (c : Ctx K) (t : TT) (m : Mo Bool) : Prop := ∀ M σ H ρ, Sta c M σ H ρ → ∀ b ρ', m ρ = some (b, ρ') → ∀ Q : Bool → Hp → Prop, (∀ M' H', Es σ M H ρ σ M' H' ρ' → Sta c M' σ H' ρ' → Q b H') → t σ H Q
def RAv {K : PySem.W.Frag} (c : Ctx K) (t : TA) (m : Mo (List D)) : Prop := ∀ M σ H ρ, Sta c M σ H ρ → ∀ ds ρ', m ρ = some (ds, ρ') → ∀ Q : List V → Hp → Prop, (∀ M' vs H', Es σ M H ρ σ M' H' ρ' → Sta c M' σ H' ρ' → DatAll K M' H' vs ds → Q vs H') → t σ H Q
/-- a new object, which no slot holds yet -/
structure Nw {K : PySem.W.Frag} (c : Ctx K) (M : Addr → Prop) (σ : L2.St) (H : Hp) (ρ : Cs) (a : Addr) (d : D) : Prop where
  m : M a
  nh : ¬ Held σ ρ a
  h0 : c.H0 a = none
  n0 : ¬ c.M0 a
  o : Own K M H a d
def RNw {K : PySem.W.Frag} (c : Ctx K) (t : TE) (m : Mo D) : Prop := ∀ M σ H ρ, Sta c M σ H ρ → ∀ d ρ', m ρ = some (d, ρ') → ∀ Q : VK,
  (∀ M' a H', H a = none → Es σ M H ρ σ M' H' ρ' → Sta c M' σ H' ρ' → Nw c M' σ H' ρ' a d → Q (.ref a) H') → t σ H Q
/-- it stays while other things are reckoned -/
theorem Nw.es {K : PySem.W.Frag} {c : Ctx K} {M M' : Addr → Prop} {σ σ' : L2.St} {H H' : Hp} {ρ ρ' : Cs} {a : Addr} {d : D} (n : Nw c M σ H ρ a d) (k : Kind M H) (e : Es σ M H ρ σ' M' H' ρ') : Nw c M' σ' H' ρ' a d := by
  obtain ⟨o, ho, hc⟩ := n.o
  exact ⟨e.mc a n.m n.nh, fun z => n.nh (e.hs a o ho z), n.h0, n.n0, o, e.kp a o n.nh ho, hc.ev k e.ev⟩
theorem Sta.nw {K : PySem.W.Frag} {c : Ctx K} {M : Addr → Prop} {σ : L2.St} {H H' : Hp} {ρ : Cs} (S : Sta c M σ H ρ) {a : Addr} {o : HO} {d : D} (hf : H a = none) (e : Same H H') (ho : H' a = some o) (hd : Cont K M H o d) :
    Es σ M H ρ σ (fun b => M b ∨ b = a) H' ρ ∧ Sta c (fun b => M b ∨ b = a) σ H' ρ ∧ Nw c (fun b => M b ∨ b = a) σ H' ρ a d := by
  obtain ⟨E, S', n⟩ := S.hold hf e ho hd.mut
  exact ⟨E, S', .inr rfl, n, (S.free0 hf).1, (S.free0 hf).2, o, ho, hd.ev S.kind E.ev⟩
theorem Sta.takeN {K : PySem.W.Frag} {c : Ctx K} {M : Addr → Prop} {σ : L2.St} {H : Hp} {ρ : Cs} (S : Sta c M σ H ρ) {a : Addr} {d : D} (n : Nw c M σ H ρ a d) (i : Nat) : Sta c M (σ.set i (some (.ref a))) H (ρ.set i (.own false d)) := S.take i n.m n.h0 n.n0 n.o n.nh
/-- given up: it is data -/
theorem Nw.give {K : PySem.W.Frag} {c : Ctx K} {M : Addr → Prop} {σ : L2.St} {H : Hp} {ρ : Cs} {a : Addr} {d : D} (n : Nw c M σ H ρ a d) (S : Sta c M σ H ρ) :
    Ev M H (fun b => M b ∧ b ≠ a) H ∧ Sta c (fun b => M b ∧ b ≠ a) σ H ρ ∧ Dat K (fun b => M b ∧ b ≠ a) H (.ref a) d := by
  obtain ⟨o, ho, hc⟩ := n.o
  exact ⟨Ev.less fun b h => h.1, S.unhold n.n0 n.nh, (hc.less fun b h => h.1).dat (fun z => z.2 rfl) ho⟩
theorem RNw.ev {K : PySem.W.Frag} {c : Ctx K} {t : TE} {m : Mo D} (h : RNw c t m) : REv c t m := fun M σ H ρ S d ρ' e Q q => h M σ H ρ S d ρ' e Q fun M' a H' f E S1 n => by
  obtain ⟨E2, S2, D2⟩ := n.give S1
  refine q _ (.ref a) H' ⟨E.ev.trans E2, E.kp, E.hs, fun b h1 h2 => ⟨E.mc b h1 h2, fun z => ?_⟩, E.dm⟩ S2 D2
  subst z
  obtain ⟨o, w, _⟩ := S.kind b h1
  rw [f] at w; cases w
inductive Fl where
  | nx | rt (d : D) | rn (d : D) | bk | ct
def Post {K : PySem.W.Frag} (c : Ctx K) (M : Addr → Prop) (H : Hp) (D : Ends) : Fl → Cs → Prop
  | .nx, ρ' => ∀ M' σ' H', Ev M H M' H' → Sta c M' σ' H' ρ' → D.nx σ' H'
  | .rt d, ρ' => ∀ M' σ' v H', Ev M H M' H' → Sta c M' σ' H' ρ' → Dat K M' H' v d → D.rt v H'
  | .rn d, ρ' => ∀ M' σ' a H', Ev M H M' H' → Sta c M' σ' H' ρ' → Nw c M' σ' H' ρ' a d → D.rt (.ref a) H'
  | .bk, ρ' => ∀ M' σ' H', Ev M H M' H' → Sta c M' σ' H' ρ' → D.bk σ' H'
  | .ct, ρ' => ∀ M' σ' H', Ev M H M' H' → Sta c M' σ' H' ρ' → D.ct σ' H'
def RSt {K : PySem.W.Frag} (c : Ctx K) (t : TS) (m : Mo Fl) : Prop := ∀ M σ H ρ, Sta c M σ H ρ → ∀ f ρ', m ρ = some (f, ρ') → ∀ D : Ends, Post c M H D f ρ' → t D σ H
/-- a target takes a value -/
def RTg {K : PySem.W.Frag} (c : Ctx K) (g : TG) (m : D → Mo Unit) : Prop := ∀ M σ H ρ, Sta c M σ H ρ → ∀ v d, Dat K M H v d → ∀ u ρ', m d ρ = some (u, ρ') → ∀ Q : L2.St → Hp → Prop, (∀ M' σ' H', Es σ M H ρ σ' M' H' ρ' → Sta c M' σ' H' ρ' → Q σ' H') → g v σ H Q
def RTgs {K : PySem.W.Frag} (c : Ctx K) (g : TGs) (m : List D → Mo Unit) : Prop := ∀ M σ H ρ, Sta c M σ H ρ → ∀ vs ds, DatAll K M H vs ds → ∀ u ρ', m ds ρ = some (u, ρ') → ∀ Q : L2.St → Hp → Prop, (∀ M' σ' H', Es σ M H ρ σ' M' H' ρ' → Sta c M' σ' H' ρ' → Q σ' H') → g vs σ H Q
theorem Post.ev {K : PySem.W.Frag} {c : Ctx K} {M M' : Addr → Prop} {H H' : Hp} {D : Ends} {f : Fl} {ρ : Cs} (E : Ev M H M' H') (p : Post c M H D f ρ) : Post c M' H' D f ρ := by
  cases f with
  | nx => exact fun M' σ' H' e s => p M' σ' H' (E.trans e) s
  | rt d => exact fun M' σ' v H' e s h => p M' σ' v H' (E.trans e) s h
  | rn d => exact fun M' σ' a H' e s => p M' σ' a H' (E.trans e) s
  | bk => exact fun M' σ' H' e s => p M' σ' H' (E.trans e) s
  | ct => exact fun M' σ' H' e s => p M' σ' H' (E.trans e) s
structure DE (X : Cx) {K : PySem.W.Frag} (c : Ctx K) (e : Expr) (t : TE) (m : Mo D) : Prop where
  p : PE X e t
  r : REv c t m
structure DN (X : Cx) {K : PySem.W.Frag} (c : Ctx K) (e : Expr) (t : TE) (m : Mo D) : Prop where
  p : PE X e t
  r : RNw c t m
structure DT (X : Cx) {K : PySem.W.Frag} (c : Ctx K) (e : Expr) (t : TT) (m : Mo Bool) : Prop where
  p : PT X e t
  r : RTt c t m
structure DW (X : Cx) {K : PySem.W.Frag} (c : Ctx K) (e : Expr) (t : TT) (m : Mo Bool) : Prop where
  p : PW X e t
  r : RTt c t m
structure DA (X : Cx) {K : PySem.W.Frag} (c : Ctx K) (es : List Expr) (t : TA) (m : Mo (List D)) : Prop where
  p : PA X es t
  r : RAv c t m
structure DS (X : Cx) {K : PySem.W.Frag} (c : Ctx K) (s : Stmt) (t : TS) (m : Mo Fl) : Prop where
  p : PS X s t
  r : RSt c t m
structure DB (X : Cx) {K : PySem.W.Frag} (c : Ctx K) (s : List Stmt) (t : TS) (m : Mo Fl) : Prop where
  p : PSs X s t
  r : RSt c t m
structure DG (X : Cx) {K : PySem.W.Frag} (c : Ctx K) (e : Expr) (t : TG) (m : D → Mo Unit) : Prop where
  p : PG X e t
  r : RTg c t m
structure DGs (X : Cx) {K : PySem.W.Frag} (c : Ctx K) (es : List Expr) (t : TGs) (m : List D → Mo Unit) : Prop where
  p : PGs X es t
  r : RTgs c t m
theorem DN.e {X : Cx} {K : PySem.W.Frag} {c : Ctx K} {e : Expr} {t : TE} {m : Mo D} (h : DN X c e t m) : DE X c e t m := ⟨h.p, h.r.ev⟩
end DL
set_option autoImplicit false
namespace DL
open PySem PySem.Spec PyProof.Rows L2
mutual
def toP : D → PyData
  | .non => .none | .bl b => .bool b | .int i => .int i | .str x => .str x
  | .tup ds => .tuple (toPs ds) | .lst ds => .list (toPs ds)
  | .dic _ _ | .dit _ _ | .ins _ _ _ | .cls _ | .ty _ | .scr _ => .none
def toPs : List D → List PyData
  | [] => []
  | d :: r => toP d :: toPs r
end
mutual
def plain : D → Bool
  | .non | .bl _ | .int _ | .str _ => true
  | .tup ds | .lst ds => plains ds
  | .dic _ _ | .dit _ _ | .ins _ _ _ | .cls _ | .ty _ | .scr _ => false
def plains : List D → Bool
  | [] => true
  | d :: r => plain d && plains r
end
mutual
theorem noDict : ∀ d : D, plain d = true → (toP d).hasDict = false
  | .non, _ | .bl _, _ | .int _, _ | .str _, _ => by simp [toP, PyData.hasDict]
  | .tup ds, h | .lst ds, h => by simp only [toP, PyData.hasDict]; exact noDicts ds (by simpa only [plain] using h)
  | .dic _ _, h | .dit _ _, h | .ins _ _ _, h | .cls _, h | .ty _, h | .scr _, h => by simp [plain] at h
theorem noDicts : ∀ ds : List D, plains ds = true → PyData.hasDictAll (toPs ds) = false
  | [], _ => by simp [toPs, PyData.hasDictAll]
  | d :: r, h => by
    simp only [plains, Bool.and_eq_true] at h
    simp only [toPs, PyData.hasDictAll, noDict d h.1, noDicts r h.2]
    rfl
end
section
variable {X : Cx} {pins : List (Addr × Obj)} {σ : L2.St} {M : Addr → Prop} {H : Hp} {s : Shared}
mutual
theorem Dat.reads (I : Inv X pins σ H s) : ∀ (d : D) (v : V) (u : Value), plain d = true → Dat X.K M H v d → RelV v u → ∃ as, Reads s.heap u (toP d) as
  | .non, _, _, _, .non, r => by cases r; exact ⟨_, by simp only [toP]; exact Reads.none⟩
  | .bl b, _, _, _, .bl _, r => by cases r; exact ⟨_, by simp only [toP]; exact Reads.bool b⟩
  | .int i, _, _, _, .int _, r => by obtain ⟨t, rfl⟩ := r; exact ⟨_, by simp only [toP]; exact Reads.int i t⟩
  | .str x, _, _, _, .str _, r => by obtain ⟨t, rfl⟩ := r; exact ⟨_, by simp only [toP]; exact Reads.str x t⟩
  | .lst ds, _, _, z, .lst _ h a, r => by
    cases r
    obtain ⟨its, rv, ⟨o, n, ho, hc, _, hd⟩, _⟩ := I.list (SqL.of h)
    obtain ⟨as, hr⟩ := Dat.readsAll I ds _ its (by simpa only [plain] using z) a rv
    exact ⟨_, by simp only [toP]; exact Reads.list ho hc hd hr⟩
  | .tup ds, _, _, z, .tup h a, r => by
    cases r
    obtain ⟨its, rv, ⟨o, ho, hc, n, hd⟩, _⟩ := I.tuple h
    obtain ⟨as, hr⟩ := Dat.readsAll I ds _ its (by simpa only [plain] using z) a rv
    exact ⟨_, by simp only [toP]; exact Reads.tuple ho hc hd hr⟩
  | .dic _ _, _, _, z, _, _ | .dit _ _, _, _, z, _, _ | .ins _ _ _, _, _, z, _, _ | .cls _, _, _, z, _, _ | .ty _, _, _, z, _, _ | .scr _, _, _, z, _, _ => by simp [plain] at z
theorem Dat.readsAll (I : Inv X pins σ H s) : ∀ (ds : List D) (vs : List V) (us : List Value), plains ds = true → DatAll X.K M H vs ds → Vals vs us → ∃ as, ReadsAll s.heap us (toPs ds) as
  | [], _, _, _, .nil, r => by cases r; exact ⟨_, by simp only [toPs]; exact ReadsAll.nil⟩
  | d :: ds, _, _, z, .cons h1 h2, r => by
    have z' : plain d = true ∧ plains ds = true := by simpa [plains] using z
    cases r with
    | cons r1 r2 =>
      obtain ⟨as, q1⟩ := Dat.reads I d _ _ z'.1 h1 r1
      obtain ⟨bs, q2⟩ := Dat.readsAll I ds _ _ z'.2 h2 r2
      exact ⟨_, by simp only [toPs]; exact ReadsAll.cons q1 q2⟩
end
end
def rD (K : PySem.W.Frag) (g : D → D → Option D) : R2 := fun x y H Q => ∃ M d e r, Kind M H ∧ Dat K M H x d ∧ Dat K M H y e ∧ g d e = some r ∧ ∀ u H', Same H H' → Dat K M H' u r → Q u H'
/-- calls -/
def rC (K : PySem.W.Frag) (g : List D → Option D) : List V → Hp → VK → Prop := fun xs H Q => ∃ M ds r, Kind M H ∧ DatAll K M H xs ds ∧ g ds = some r ∧ ∀ u H', Same H H' → Dat K M H' u r → Q u H'
/-- slices -/
def rS (K : PySem.W.Frag) (g : D → Option Int → Option Int → Option D) : V → Option Int → Option Int → Hp → VK → Prop := fun x lo hi H Q => ∃ M d r, Kind M H ∧ Dat K M H x d ∧ g d lo hi = some r ∧ ∀ u H', Same H H' → Dat K M H' u r → Q u H'
theorem Kind.fresh {M : Addr → Prop} {H : Hp} (k : Kind M H) {a : Addr} (h : H a = none) : ¬ M a := fun z => by
  obtain ⟨u, q, _⟩ := k a z
  rw [h] at q; cases q
/-- a new tuple, a new list -/
theorem dat_tup {K : PySem.W.Frag} {M : Addr → Prop} {H : Hp} {p : Addr} {xs : List V} {ds : List D} (hp : H p = none) (h : DatAll K M H xs ds) : Same H (upd H p (.tup xs)) ∧ Dat K M (upd H p (.tup xs)) (.ref p) (.tup ds) :=
  ⟨same_new hp, .tup (.inl (.inl upd_same)) (h.same (same_new hp))⟩
theorem dat_lst {K : PySem.W.Frag} {M : Addr → Prop} {H : Hp} {p : Addr} {xs : List V} {ds : List D} (k : Kind M H) (hp : H p = none) (h : DatAll K M H xs ds) : Same H (upd H p (.lst xs)) ∧ Dat K M (upd H p (.lst xs)) (.ref p) (.lst ds) :=
  ⟨same_new hp, .lst (k.fresh hp) upd_same (h.same (same_new hp))⟩
def dAdd : D → D → Option D
  | .int i, .int j => some (.int (i + j))
  | .str x, .str y => if x.length + y.length ≤ sizeLine then some (.str (x ++ y)) else none
  | .tup a, .tup b => if a.length + b.length ≤ sizeLine then some (.tup (a ++ b)) else none
  | .lst a, .lst b => if a.length + b.length ≤ sizeLine then some (.lst (a ++ b)) else none
  | _, _ => none
def dSub : D → D → Option D
  | .int i, .int j => some (.int (i - j))
  | _, _ => none
def dMul : D → D → Option D
  | .int i, .int j => if Builtin.Int.intBits i + Builtin.Int.intBits j ≤ 100000000 then some (.int (i * j)) else none
  | .lst a, .int j => if -(2 ^ 63) ≤ j ∧ j < 2 ^ 63 ∧ a.length * j.toNat ≤ sizeLine then some (.lst (List.replicate j.toNat a).flatten) else none
  | _, _ => none
theorem DatAll.rep {K : PySem.W.Frag} {M : Addr → Prop} {H : Hp} {vs : List V} {ds : List D} (h : DatAll K M H vs ds) : ∀ n : Nat, DatAll K M H (List.replicate n vs).flatten (List.replicate n ds).flatten
  | 0 => .nil
  | n + 1 => by
    rw [List.replicate_succ, List.replicate_succ, List.flatten_cons, List.flatten_cons]
    exact h.append (DatAll.rep h n)
def dDiv : D → D → Option D
  | .int i, .int j => if 0 < j ∧ j.natAbs.log2 < 9000 then some (.int (i / j)) else none
  | _, _ => none
def dMod : D → D → Option D
  | .int i, .int j => if 0 < j then some (.int (i % j)) else none
  | _, _ => none
def dPow : D → D → Option D
  | .int i, .int j => if 0 ≤ j ∧ j ≤ 1000000 ∧ i.natAbs < 2 ^ 64 then some (.int (i ^ j.toNat)) else none
  | _, _ => none
section
variable {X : Cx}
theorem if_some {α : Type} {c : Prop} [Decidable c] {a b : α} (h : (if c then some a else none) = some b) : c ∧ a = b := by
  split at h
  · exact ⟨by assumption, Option.some.inj h⟩
  · cases h
theorem op_ADD : OpR X (binaryOp .Add) (rD X.K dAdd) := by
  intro pins s σ H x y v u Q I rx ry h
  obtain ⟨M, d, e, r, k, hd, he, hg, q⟩ := h
  cases d <;> cases e <;> try (simp [dAdd] at hg; done)
  case int.int i j =>
    cases hd; cases he
    cases hg
    exact op_add pins s σ H _ _ v u Q I rx ry ⟨i, j, rfl, rfl, q _ H (.refl H) (.int _)⟩
  case str.str a b =>
    cases hd; cases he
    obtain ⟨z, rfl⟩ := if_some hg
    exact op_add_str pins s σ H _ _ v u Q I rx ry ⟨a, b, rfl, rfl, z, q _ H (.refl H) (.str _)⟩
  case tup.tup a b =>
    obtain ⟨z, rfl⟩ := if_some hg
    cases hd with
    | tup h1 a1 =>
      cases he with
      | tup h2 a2 =>
        rw [← a1.length, ← a2.length] at z
        refine op_catA pins s σ H _ _ v u Q I rx ry ⟨_, _, _, _, rfl, rfl, h1, h2, z, fun e => ?_, fun _ e => ?_, fun _ _ p hp => ?_⟩
        · subst e; cases a1; exact q _ H (.refl H) (.tup h2 a2)
        · subst e; cases a2; rw [List.append_nil] at q; exact q _ H (.refl H) (.tup h1 a1)
        · exact q _ _ (dat_tup hp (a1.append a2)).1 (dat_tup hp (a1.append a2)).2
  case lst.lst a b =>
    obtain ⟨z, rfl⟩ := if_some hg
    cases hd with
    | lst n1 h1 a1 =>
      cases he with
      | lst n2 h2 a2 =>
        rw [← a1.length, ← a2.length] at z
        refine op_cat pins s σ H _ _ v u Q I rx ry ⟨_, _, _, _, rfl, rfl, h1, h2, z, fun p hp => ?_⟩
        exact q _ _ (dat_lst k hp (a1.append a2)).1 (dat_lst k hp (a1.append a2)).2
theorem op_SUB : OpR X (binaryOp .Sub) (rD X.K dSub) := by
  intro pins s σ H x y v u Q I rx ry h
  obtain ⟨M, d, e, r, k, hd, he, hg, q⟩ := h
  cases d <;> cases e <;> try (simp [dSub] at hg; done)
  cases hd; cases he; cases hg
  exact op_sub pins s σ H _ _ v u Q I rx ry ⟨_, _, rfl, rfl, q _ H (.refl H) (.int _)⟩
theorem op_MUL : OpR X (binaryOp .Mult) (rD X.K dMul) := by
  intro pins s σ H x y v u Q I rx ry h
  obtain ⟨M, d, e, r, k, hd, he, hg, q⟩ := h
  cases d <;> cases e <;> try (simp [dMul] at hg; done)
  case int.int =>
    cases hd; cases he
    obtain ⟨z, rfl⟩ := if_some hg
    exact op_mulKb pins s σ H _ _ v u Q I rx ry ⟨_, _, rfl, rfl, z, q _ H (.refl H) (.int _)⟩
  case lst.int =>
    cases he
    obtain ⟨⟨z1, z2, z3⟩, rfl⟩ := if_some hg
    cases hd with
    | lst n h1 a1 =>
      rw [← a1.length] at z3
      refine op_rep pins s σ H _ _ v u Q I rx ry ⟨_, _, _, rfl, rfl, h1, z1, z2, z3, fun p hp => ?_⟩
      exact q _ _ (dat_lst k hp (a1.rep _)).1 (dat_lst k hp (a1.rep _)).2
theorem op_DIV : OpR X (binaryOp .FloorDiv) (rD X.K dDiv) := by
  intro pins s σ H x y v u Q I rx ry h
  obtain ⟨M, d, e, r, k, hd, he, hg, q⟩ := h
  cases d <;> cases e <;> try (simp [dDiv] at hg; done)
  cases hd; cases he
  obtain ⟨z, rfl⟩ := if_some hg
  exact op_fdivW pins s σ H _ _ v u Q I rx ry ⟨_, _, rfl, rfl, z, q _ H (.refl H) (.int _)⟩
theorem op_MOD : OpR X (binaryOp .Mod) (rD X.K dMod) := by
  intro pins s σ H x y v u Q I rx ry h
  obtain ⟨M, d, e, r, k, hd, he, hg, q⟩ := h
  cases d <;> cases e <;> try (simp [dMod] at hg; done)
  cases hd; cases he
  obtain ⟨z, rfl⟩ := if_some hg
  exact op_mod pins s σ H _ _ v u Q I rx ry ⟨_, _, rfl, rfl, z, q _ H (.refl H) (.int _)⟩
theorem op_POW : OpR X (binaryOp .Pow) (rD X.K dPow) := by
  intro pins s σ H x y v u Q I rx ry h
  obtain ⟨M, d, e, r, k, hd, he, hg, q⟩ := h
  cases d <;> cases e <;> try (simp [dPow] at hg; done)
  cases hd; cases he
  obtain ⟨z, rfl⟩ := if_some hg
  exact op_pow pins s σ H _ _ v u Q I rx ry ⟨_, _, rfl, rfl, z, q _ H (.refl H) (.int _)⟩
end
def dLt : D → D → Option D
  | .int i, .int j => some (.bl (decide (i < j)))
  | .str x, .str y => some (.bl (decide (x.cps.toList < y.cps.toList)))
  | _, _ => none
def dLe : D → D → Option D
  | .int i, .int j => some (.bl (decide (i ≤ j)))
  | _, _ => none
def dGt : D → D → Option D
  | .int i, .int j => some (.bl (decide (j < i)))
  | _, _ => none
def dGe : D → D → Option D
  | .int i, .int j => some (.bl (decide (j ≤ i)))
  | _, _ => none
/-- data that == looks at -/
def eqs (d e : D) : Option Bool :=
  if plain d = true ∧ plain e = true ∧ SeqAt.shaped (toP d) = true ∧ SeqAt.shaped (toP e) = true then some (PyData.eqv (toP d) (toP e)) else none
def dEq : D → D → Option D
  | .int i, .int j => some (.bl (i == j))
  | .str x, .str y => some (.bl (decide (x = y)))
  | .bl x, .bl y => some (.bl (x == y))
  | d, e => (eqs d e).map .bl
def dNe : D → D → Option D
  | .int i, .int j => some (.bl (!(i == j)))
  | .str x, .str y => some (.bl (!decide (x = y)))
  | .bl x, .bl y => some (.bl (!(x == y)))
  | d, e => (eqs d e).map fun b => .bl (!b)
def isNon : D → Bool
  | .non => true
  | _ => false
def dIs : D → D → Option D
  | d, .non => some (.bl (isNon d))
  | _, _ => none
def dIsNot : D → D → Option D
  | d, .non => some (.bl (!isNon d))
  | _, _ => none
theorem isNon_v {K : PySem.W.Frag} {M : Addr → Prop} {H : Hp} {v : V} {d : D} (h : Dat K M H v d) : decide (v = V.non) = isNon d := by
  cases h <;> simp [isNon]
section
variable {X : Cx}
theorem op_LT : OpR X (compareOp .Lt) (rD X.K dLt) := by
  intro pins s σ H x y v u Q I rx ry h
  obtain ⟨M, d, e, r, k, hd, he, hg, q⟩ := h
  cases d <;> cases e <;> try (simp [dLt] at hg; done)
  case int.int =>
    cases hd; cases he; cases hg
    exact op_lt pins s σ H _ _ v u Q I rx ry ⟨_, _, rfl, rfl, q _ H (.refl H) (.bl _)⟩
  case str.str =>
    cases hd; cases he; cases hg
    exact op_lt_str pins s σ H _ _ v u Q I rx ry ⟨_, _, rfl, rfl, q _ H (.refl H) (.bl _)⟩
theorem op_LE : OpR X (compareOp .LtE) (rD X.K dLe) := by
  intro pins s σ H x y v u Q I rx ry h
  obtain ⟨M, d, e, r, k, hd, he, hg, q⟩ := h
  cases d <;> cases e <;> try (simp [dLe] at hg; done)
  cases hd; cases he; cases hg
  exact op_le pins s σ H _ _ v u Q I rx ry ⟨_, _, rfl, rfl, q _ H (.refl H) (.bl _)⟩
theorem op_GT : OpR X (compareOp .Gt) (rD X.K dGt) := by
  intro pins s σ H x y v u Q I rx ry h
  obtain ⟨M, d, e, r, k, hd, he, hg, q⟩ := h
  cases d <;> cases e <;> try (simp [dGt] at hg; done)
  cases hd; cases he; cases hg
  exact op_gt pins s σ H _ _ v u Q I rx ry ⟨_, _, rfl, rfl, q _ H (.refl H) (.bl _)⟩
theorem op_GE : OpR X (compareOp .GtE) (rD X.K dGe) := by
  intro pins s σ H x y v u Q I rx ry h
  obtain ⟨M, d, e, r, k, hd, he, hg, q⟩ := h
  cases d <;> cases e <;> try (simp [dGe] at hg; done)
  cases hd; cases he; cases hg
  exact op_ge pins s σ H _ _ v u Q I rx ry ⟨_, _, rfl, rfl, q _ H (.refl H) (.bl _)⟩
theorem eqs_some {d e : D} {b : Bool} (h : eqs d e = some b) : plain d = true ∧ plain e = true ∧ SeqAt.shaped (toP d) = true ∧ SeqAt.shaped (toP e) = true ∧ PyData.eqv (toP d) (toP e) = b := by
  unfold eqs at h
  obtain ⟨⟨a, b, c, e⟩, f⟩ := if_some h
  exact ⟨a, b, c, e, f⟩
theorem op_EQ (hu : X.A.units + 64 < cLine) : OpR X (compareOp .Eq) (rD X.K dEq) := by
  intro pins s σ H x y v u Q I rx ry h
  obtain ⟨M, d, e, r, k, hd, he, hg, q⟩ := h
  by_cases c : ∃ b, eqs d e = some b ∧ r = .bl b
  · obtain ⟨b, eb, rfl⟩ := c
    obtain ⟨p1, p2, s1, s2, e3⟩ := eqs_some eb
    obtain ⟨as, r1⟩ := hd.reads I _ _ _ p1 rx
    obtain ⟨bs, r2⟩ := he.reads I _ _ _ p2 ry
    refine SeqAt.compareEq_shaped r1 r2 s1 s2 hu ?_
    rw [e3]
    exact ⟨.bl b, H, I, rfl, q _ H (.refl H) (.bl b)⟩
  · have nogen : ∀ z : Option D, z = (eqs d e).map D.bl → z = some r → False := fun z h1 h2 => by
      rw [h2] at h1
      cases w : eqs d e with
      | none => rw [w] at h1; cases h1
      | some b => rw [w] at h1; cases h1; exact c ⟨b, w, rfl⟩
    cases d <;> cases e <;> first
      | (exact (nogen _ rfl hg).elim)
      | (cases hd; cases he; cases hg
         refine op_eq pins s σ H _ _ v u Q I rx ry ⟨rfl, ?_⟩
         first
           | (rw [dec_int]; exact q _ H (.refl H) (.bl _))
           | (rw [dec_bl]; exact q _ H (.refl H) (.bl _))
           | (simp only [V.str.injEq]; exact q _ H (.refl H) (.bl _)))
theorem op_NE (hu : X.A.units + 64 < cLine) : OpR X (compareOp .NotEq) (rD X.K dNe) := by
  intro pins s σ H x y v u Q I rx ry h
  obtain ⟨M, d, e, r, k, hd, he, hg, q⟩ := h
  by_cases c : ∃ b, eqs d e = some b ∧ r = .bl (!b)
  · obtain ⟨b, eb, rfl⟩ := c
    obtain ⟨p1, p2, s1, s2, e3⟩ := eqs_some eb
    obtain ⟨as, r1⟩ := hd.reads I _ _ _ p1 rx
    obtain ⟨bs, r2⟩ := he.reads I _ _ _ p2 ry
    refine SeqAt.compareNe_shaped r1 r2 s1 s2 hu ?_
    rw [e3]
    exact ⟨.bl (!b), H, I, rfl, q _ H (.refl H) (.bl _)⟩
  · have nogen : ∀ z : Option D, z = (eqs d e).map (fun b => D.bl (!b)) → z = some r → False := fun z h1 h2 => by
      rw [h2] at h1
      cases w : eqs d e with
      | none => rw [w] at h1; cases h1
      | some b => rw [w] at h1; cases h1; exact c ⟨b, w, rfl⟩
    cases d <;> cases e <;> first
      | (exact (nogen _ rfl hg).elim)
      | (cases hd; cases he; cases hg
         refine op_ne pins s σ H _ _ v u Q I rx ry ⟨rfl, ?_⟩
         first
           | (rw [dec_int]; exact q _ H (.refl H) (.bl _))
           | (rw [dec_bl]; exact q _ H (.refl H) (.bl _))
           | (simp only [V.str.injEq]; exact q _ H (.refl H) (.bl _)))
theorem op_IS : OpR X (compareOp .Is) (rD X.K dIs) := by
  intro pins s σ H x y v u Q I rx ry h
  obtain ⟨M, d, e, r, k, hd, he, hg, q⟩ := h
  cases e <;> try (simp [dIs] at hg; done)
  cases he
  have hg : some (D.bl (isNon d)) = some r := hg
  cases hg
  refine op_isN pins s σ H _ _ v u Q I rx ry ⟨rfl, ?_⟩
  rw [isNon_v hd]
  exact q _ H (.refl H) (.bl _)
theorem op_ISNOT : OpR X (compareOp .IsNot) (rD X.K dIsNot) := by
  intro pins s σ H x y v u Q I rx ry h
  obtain ⟨M, d, e, r, k, hd, he, hg, q⟩ := h
  cases e <;> try (simp [dIsNot] at hg; done)
  cases he
  have hg : some (D.bl (!isNon d)) = some r := hg
  cases hg
  refine op_notN pins s σ H _ _ v u Q I rx ry ⟨rfl, ?_⟩
  rw [isNon_v hd]
  exact q _ H (.refl H) (.bl _)
end
end DL
set_option autoImplicit false
namespace DL
open PySem PySem.Spec PyProof.Rows L2
def sign1 (x : Str) : Option Nat := match x.cps.toList with
  | [c] => some c
  | _ => none
theorem sign1_eq {x : Str} {c : Nat} (h : sign1 x = some c) : x = ⟨#[c]⟩ := by
  unfold sign1 at h
  split at h
  · rename_i e
    cases h
    obtain ⟨a⟩ := x
    congr 1
    have h2 : a.toList = [c] := e
    rw [← Array.toArray_toList (xs := a), h2]
  · cases h
def dInB : D → D → Option Bool
  | .str x, .str z => (sign1 x).map fun c => decide (c ∈ z.cps.toList)
  | d, .lst ds => if plain d = true ∧ plains ds = true ∧ SeqAt.shaped (toP d) = true ∧ SeqAt.shaped (.list (toPs ds)) = true then some ((toPs ds).any fun e => PyData.eqv e (toP d)) else none
  | d, .tup ds => if plain d = true ∧ plains ds = true ∧ SeqAt.shaped (toP d) = true ∧ SeqAt.shaped (.tuple (toPs ds)) = true then some ((toPs ds).any fun e => PyData.eqv e (toP d)) else none
  | _, _ => none
def dIn (d e : D) : Option D := (dInB d e).map .bl
theorem map_some {α β : Type} {o : Option α} {f : α → β} {r : β} (h : o.map f = some r) : ∃ a, o = some a ∧ f a = r := by
  cases o with
  | none => cases h
  | some a => exact ⟨a, rfl, Option.some.inj h⟩
theorem room_in {A : Around} {xs : List PyData} {d : PyData} (h : SeqAt.shaped d = true) (hu : A.units + 100 < cLine) : A.units + 1 + min (PyData.depthAll xs) d.depth < cLine := by
  have h1 := SeqAt.depth_of_shaped h
  have : min (PyData.depthAll xs) d.depth ≤ 64 := Nat.le_trans (Nat.min_le_right _ _) h1
  omega
section
variable {X : Cx}
theorem op_IN (hu : X.A.units + 100 < cLine) : OpR X (compareOp .In) (rD X.K dIn) := by
  intro pins s σ H x y v u Q I rx ry h
  obtain ⟨M, d, e, r, k, hd, he, hg, q⟩ := h
  obtain ⟨b, hb, rfl⟩ := map_some hg
  by_cases c : ∃ x z, d = .str x ∧ e = .str z
  · obtain ⟨x, z, rfl, rfl⟩ := c
    cases hd; cases he
    obtain ⟨c, hc, rfl⟩ := map_some (show (sign1 x).map _ = some b from hb)
    obtain rfl := sign1_eq hc
    exact op_in_sign pins s σ H _ _ v u Q I rx ry ⟨c, z, rfl, rfl, q _ H (.refl H) (.bl _)⟩
  · cases e with
    | lst ds =>
      have hb' : (if plain d = true ∧ plains ds = true ∧ SeqAt.shaped (toP d) = true ∧ SeqAt.shaped (.list (toPs ds)) = true then some ((toPs ds).any fun e => PyData.eqv e (toP d)) else none) = some b := by
        cases d <;> first | exact hb | (exfalso; exact c ⟨_, _, rfl, rfl⟩)
      obtain ⟨⟨a1, a2, a3, a4⟩, rfl⟩ := if_some hb'
      obtain ⟨as, r1⟩ := hd.reads I _ _ _ a1 rx
      obtain ⟨bs, r2⟩ := he.reads I (.lst ds) _ _ (by simpa only [plain] using a2) ry
      simp only [toP] at r2
      exact SeqAt.in_list_reads r2 r1 (SeqAt.canLay_of_shaped a4) (SeqAt.canLay_of_shaped a3) (room_in a3 hu) ⟨.bl _, H, I, rfl, q _ H (.refl H) (.bl _)⟩
    | tup ds =>
      have hb' : (if plain d = true ∧ plains ds = true ∧ SeqAt.shaped (toP d) = true ∧ SeqAt.shaped (.tuple (toPs ds)) = true then some ((toPs ds).any fun e => PyData.eqv e (toP d)) else none) = some b := by
        cases d <;> first | exact hb | (exfalso; exact c ⟨_, _, rfl, rfl⟩)
      obtain ⟨⟨a1, a2, a3, a4⟩, rfl⟩ := if_some hb'
      obtain ⟨as, r1⟩ := hd.reads I _ _ _ a1 rx
      obtain ⟨bs, r2⟩ := he.reads I (.tup ds) _ _ (by simpa only [plain] using a2) ry
      simp only [toP] at r2
      exact SeqAt.in_tuple_reads r2 r1 (SeqAt.canLay_of_shaped a4) (SeqAt.canLay_of_shaped a3) (room_in a3 hu) ⟨.bl _, H, I, rfl, q _ H (.refl H) (.bl _)⟩
    | str z => cases d <;> first | (exfalso; exact c ⟨_, _, rfl, rfl⟩) | (simp [dInB] at hb)
    | _ => cases d <;> simp [dInB] at hb
end
def dIx : D → D → Option D
  | .tup ds, .int i => atI ds i
  | .lst ds, .int i => atI ds i
  | .scr ns, .int i => (atI ns i).map .int
  | .str z, .int i => if z.length ≤ sizeLine then (atI z.cps.toList i).map fun c => .str ⟨#[c]⟩ else none
  | _, _ => none
theorem atI_dat {K : PySem.W.Frag} {M : Addr → Prop} {H : Hp} {xs : List V} {ds : List D} {i : Int} {d : D} (h : DatAll K M H xs ds) (e : atI ds i = some d) : ∃ v, atI xs i = some v ∧ Dat K M H v d := by
  unfold atI at e ⊢
  rw [h.length]
  cases q : ixN ds.length i with
  | none => rw [q] at e; cases e
  | some j =>
    rw [q] at e
    exact h.getD e
theorem atI_map {α β : Type} (f : α → β) (xs : List α) (i : Int) : atI (xs.map f) i = (atI xs i).map f := by
  unfold atI
  rw [List.length_map]
  cases ixN xs.length i with
  | none => rfl
  | some j => simp
def cutD {α : Type} (xs : List α) (lo hi : Option Int) : List α := (xs.drop (HT.sIx xs.length 0 lo)).take (HT.sIx xs.length xs.length hi - HT.sIx xs.length 0 lo)
theorem cut_dat {K : PySem.W.Frag} {M : Addr → Prop} {H : Hp} {xs : List V} {ds : List D} (lo hi : Option Int) (h : DatAll K M H xs ds) : DatAll K M H (cutV xs lo hi) (cutD ds lo hi) := by
  unfold cutV cutD
  rw [h.length]
  exact (h.drop _).take _
theorem cut_map {β : Type} (f : β → V) (xs : List β) (lo hi : Option Int) : cutV (xs.map f) lo hi = (cutD xs lo hi).map f := by
  unfold cutV cutD
  rw [List.length_map, ← List.map_drop, ← List.map_take]
/-- the whole of it -/
theorem cut_whole {α : Type} {xs : List α} {lo hi : Option Int} (h : HT.sIx xs.length 0 lo = 0 ∧ HT.sIx xs.length xs.length hi = xs.length) : cutD xs lo hi = xs := by
  unfold cutD
  rw [h.1, h.2, Nat.sub_zero, List.drop_zero, List.take_length]
def dSl : D → Option Int → Option Int → Option D
  | .tup ds, lo, hi => some (.tup (cutD ds lo hi))
  | .lst ds, lo, hi => some (.lst (cutD ds lo hi))
  | .scr ns, lo, hi => some (.lst ((cutD ns lo hi).map .int))
  | .str z, lo, hi => if z.length ≤ sizeLine then some (.str (cutS z lo hi)) else none
  | _, _, _ => none
section
variable {X : Cx}
theorem ix_ALL : IxR X (rD X.K dIx) := by
  intro value slice pins s σ H x y v u Q I rx ry h hs
  obtain ⟨M, d, e, r, k, hd, he, hg, q⟩ := h
  cases d <;> cases e <;> try (simp [dIx] at hg; done)
  case tup.int ds i =>
    cases he
    cases hd with
    | tup h1 a1 =>
      obtain ⟨w, e1, w1⟩ := atI_dat a1 hg
      exact ix_tup value slice pins s σ H _ _ v u Q I rx ry ⟨_, _, i, w, rfl, rfl, h1, e1, q _ H (.refl H) w1⟩ hs
  case lst.int ds i =>
    cases he
    cases hd with
    | lst n h1 a1 =>
      obtain ⟨w, e1, w1⟩ := atI_dat a1 hg
      exact ix_list value slice pins s σ H _ _ v u Q I rx ry ⟨_, _, i, w, rfl, rfl, SqL.of h1, e1, q _ H (.refl H) w1⟩ hs
  case scr.int ns i =>
    cases he
    cases hd with
    | scr h1 =>
      obtain ⟨n, e1, rfl⟩ := map_some hg
      exact ix_list value slice pins s σ H _ _ v u Q I rx ry ⟨_, _, i, .int n, rfl, rfl, fz_sub h1, by rw [atI_map, e1]; rfl, q _ H (.refl H) (.int n)⟩ hs
  case str.int z i =>
    cases he; cases hd
    have hg : (if z.length ≤ sizeLine then (atI z.cps.toList i).map fun c => D.str ⟨#[c]⟩ else none) = some r := hg
    split at hg
    · rename_i hz
      obtain ⟨c, e1, rfl⟩ := map_some hg
      exact ix_str value slice pins s σ H _ _ v u Q I rx ry ⟨z, i, c, rfl, rfl, hz, e1, q _ H (.refl H) (.str _)⟩ hs
    · cases hg
theorem sl_ALL : SlR X (rS X.K dSl) := by
  intro pins s σ H x v vl vu lo hi sl Q I rx hs pl pu h
  obtain ⟨M, d, r, k, hd, hg, q⟩ := h
  cases d <;> try (simp [dSl] at hg; done)
  case tup ds =>
    cases hg
    cases hd with
    | tup h1 a1 =>
      refine sl_tupA pins s σ H _ v vl vu lo hi sl Q I rx hs pl pu ⟨_, _, rfl, h1, fun w => ?_, fun _ p hp => ?_⟩
      · rw [a1.length] at w
        refine q _ H (.refl H) ?_
        rw [cut_whole w]
        exact .tup h1 a1
      · exact q _ _ (dat_tup hp (cut_dat lo hi a1)).1 (dat_tup hp (cut_dat lo hi a1)).2
  case lst ds =>
    cases hg
    cases hd with
    | lst n h1 a1 =>
      refine sl_list pins s σ H _ v vl vu lo hi sl Q I rx hs pl pu ⟨_, _, rfl, SqL.of h1, fun p hp => ?_⟩
      exact q _ _ (dat_lst k hp (cut_dat lo hi a1)).1 (dat_lst k hp (cut_dat lo hi a1)).2
  case scr ns =>
    cases hg
    cases hd with
    | scr h1 =>
      refine sl_list pins s σ H _ v vl vu lo hi sl Q I rx hs pl pu ⟨_, _, rfl, fz_sub h1, fun p hp => ?_⟩
      rw [cut_map]
      have a := dat_lst k hp (DatAll.of_ints (K := X.K) (M := M) (H := H) (cutD ns lo hi))
      exact q _ _ a.1 a.2
  case str z =>
    cases hd
    obtain ⟨hz, rfl⟩ := if_some hg
    exact sl_str pins s σ H _ v vl vu lo hi sl Q I rx hs pl pu ⟨z, rfl, hz, q _ H (.refl H) (.str _)⟩
end
def dLen : List D → Option D
  | [.tup ds] => some (.int ds.length)
  | [.lst ds] => some (.int ds.length)
  | [.scr ns] => some (.int ns.length)
  | [.str z] => if z.length ≤ sizeLine then some (.int z.length) else none
  | _ => none
def dAbs : List D → Option D
  | [.int i] => some (.int (if i < 0 then -i else i))
  | _ => none
def dMax : List D → Option D
  | [.int i, .int j] => some (.int (if j > i then j else i))
  | _ => none
def dMin : List D → Option D
  | [.int i, .int j] => some (.int (if j < i then j else i))
  | _ => none
def dInt : List D → Option D
  | [.int i] => some (.int i)
  | [.bl k] => some (.int (if k then 1 else 0))
  | [.str a] => if a.length ≤ 640 then (PySem.intText? a).map .int else none
  | _ => none
def dStr : List D → Option D
  | [.int i] => if i.natAbs.log2 < 1920 then some (.str (toString i)) else none
  | _ => none
def dTuple : List D → Option D
  | [.lst ds] => some (.tup ds)
  | [.tup ds] => some (.tup ds)
  | _ => none
def dDivmod : List D → Option D
  | [.int i, .int j] => if 0 < j ∧ j.natAbs.log2 < 9000 then some (.tup [.int (i / j), .int (i % j)]) else none
  | _ => none
def bls? : List D → Option (List Bool)
  | [] => some []
  | .bl b :: r => (bls? r).map (b :: ·)
  | _ => none
def dAll : List D → Option D
  | [.lst ds] => (bls? ds).map fun bs => .bl (bs.all id)
  | _ => none
def dRepr : List D → Option D
  | [.lst ds] => if plains ds = true ∧ PyData.showableAll (toPs ds) = true ∧ (toP (.lst ds)).depth ≤ 60 ∧ (toP (.lst ds)).shown.length ≤ sizeLine then some (.str (toP (.lst ds)).shown) else none
  | [.tup ds] => if plains ds = true ∧ PyData.showableAll (toPs ds) = true ∧ (toP (.tup ds)).depth ≤ 60 ∧ (toP (.tup ds)).shown.length ≤ sizeLine then some (.str (toP (.tup ds)).shown) else none
  | [.int i] => if i.natAbs.log2 < 1920 then some (.str (toString i)) else none
  | _ => none
theorem bls_eq : ∀ {ds : List D} {bs : List Bool}, bls? ds = some bs → ds = bs.map D.bl
  | [], _, h => by cases h; rfl
  | .bl b :: r, _, h => by
    obtain ⟨t, e, rfl⟩ := map_some (show (bls? r).map _ = _ from h)
    rw [bls_eq e]; rfl
  | .non :: _, _, h | .int _ :: _, _, h | .str _ :: _, _, h | .tup _ :: _, _, h | .lst _ :: _, _, h | .dic _ _ :: _, _, h | .dit _ _ :: _, _, h | .ins _ _ _ :: _, _, h | .cls _ :: _, _, h | .ty _ :: _, _, h | .scr _ :: _, _, h => by simp [bls?] at h
section
variable {X : Cx}
/-- what the value list of one argument is -/
theorem one_of {K : PySem.W.Frag} {M : Addr → Prop} {H : Hp} {xs : List V} {d : D} (h : DatAll K M H xs [d]) : ∃ v, xs = [v] ∧ Dat K M H v d := by
  cases h with
  | cons a t => cases t; exact ⟨_, rfl, a⟩
theorem two_of {K : PySem.W.Frag} {M : Addr → Prop} {H : Hp} {xs : List V} {d e : D} (h : DatAll K M H xs [d, e]) : ∃ v w, xs = [v, w] ∧ Dat K M H v d ∧ Dat K M H w e := by
  cases h with
  | cons a t => cases t with | cons b t => cases t; exact ⟨_, _, rfl, a, b⟩
theorem dat_ii {K : PySem.W.Frag} {M : Addr → Prop} {H : Hp} (i j : Int) : DatAll K M H [.int i, .int j] [.int i, .int j] := .cons (.int i) (.cons (.int j) .nil)
theorem dat_ii_put {K : PySem.W.Frag} {M : Addr → Prop} {H : Hp} {i j : Int} {p : Addr} {Q : VK} (hp : H p = none) (q : ∀ u H', Same H H' → Dat K M H' u (.tup [.int i, .int j]) → Q u H') : Q (.ref p) (upd H p (.tup [.int i, .int j])) :=
  q _ _ (dat_tup hp (dat_ii (K := K) (M := M) i j)).1 (dat_tup hp (dat_ii i j)).2
theorem call_LEN : CallR X (.builtin "len") (rC X.K dLen) := by
  intro pins s σ H xs us Q I r h
  obtain ⟨M, ds, z, k, hd, hg, q⟩ := h
  unfold dLen at hg
  split at hg <;> try (cases hg; done)
  · cases hg
    obtain ⟨v, rfl, hv⟩ := one_of hd
    cases hv with
    | tup h1 a1 => exact call_len pins s σ H _ us Q I r ⟨_, _, rfl, .inr ⟨_, h1, rfl⟩, by rw [a1.length]; exact q _ H (.refl H) (.int _)⟩
  · cases hg
    obtain ⟨v, rfl, hv⟩ := one_of hd
    cases hv with
    | lst n h1 a1 => exact call_len pins s σ H _ us Q I r ⟨_, _, rfl, .inl ⟨_, SqL.of h1, rfl⟩, by rw [a1.length]; exact q _ H (.refl H) (.int _)⟩
  · cases hg
    obtain ⟨v, rfl, hv⟩ := one_of hd
    cases hv with
    | scr h1 => exact call_len pins s σ H _ us Q I r ⟨_, _, rfl, .inl ⟨_, fz_sub h1, rfl⟩, by rw [List.length_map]; exact q _ H (.refl H) (.int _)⟩
  · obtain ⟨hz, rfl⟩ := if_some hg
    obtain ⟨v, rfl, hv⟩ := one_of hd
    cases hv
    exact call_len pins s σ H _ us Q I r ⟨_, _, rfl, ⟨hz, rfl⟩, q _ H (.refl H) (.int _)⟩
theorem call_ABS : CallR X (.builtin "abs") (rC X.K dAbs) := by
  intro pins s σ H xs us Q I r h
  obtain ⟨M, ds, z, k, hd, hg, q⟩ := h
  unfold dAbs at hg
  split at hg <;> try (cases hg; done)
  cases hg
  obtain ⟨v, rfl, hv⟩ := one_of hd
  cases hv
  exact call_abs pins s σ H _ us Q I r ⟨_, rfl, q _ H (.refl H) (.int _)⟩
theorem call_MAX (hc : X.calm = true) : CallR X (.builtin "max") (rC X.K dMax) := by
  intro pins s σ H xs us Q I r h
  obtain ⟨M, ds, z, k, hd, hg, q⟩ := h
  unfold dMax at hg
  split at hg <;> try (cases hg; done)
  cases hg
  obtain ⟨v, w, rfl, hv, hw⟩ := two_of hd
  cases hv; cases hw
  exact call_max2 hc pins s σ H _ us Q I r ⟨_, _, rfl, q _ H (.refl H) (.int _)⟩
theorem call_MIN (hc : X.calm = true) : CallR X (.builtin "min") (rC X.K dMin) := by
  intro pins s σ H xs us Q I r h
  obtain ⟨M, ds, z, k, hd, hg, q⟩ := h
  unfold dMin at hg
  split at hg <;> try (cases hg; done)
  cases hg
  obtain ⟨v, w, rfl, hv, hw⟩ := two_of hd
  cases hv; cases hw
  exact call_min2 hc pins s σ H _ us Q I r ⟨_, _, rfl, q _ H (.refl H) (.int _)⟩
theorem call_INT : CallR X (.type "int") (rC X.K dInt) := by
  intro pins s σ H xs us Q I r h
  obtain ⟨M, ds, z, k, hd, hg, q⟩ := h
  unfold dInt at hg
  split at hg <;> try (cases hg; done)
  · cases hg
    obtain ⟨v, rfl, hv⟩ := one_of hd
    cases hv
    exact call_int1 pins s σ H _ us Q I r (.inl ⟨_, rfl, q _ H (.refl H) (.int _)⟩)
  · cases hg
    obtain ⟨v, rfl, hv⟩ := one_of hd
    cases hv
    exact call_int1 pins s σ H _ us Q I r (.inr ⟨_, rfl, q _ H (.refl H) (.int _)⟩)
  · split at hg
    · obtain ⟨v, rfl, hv⟩ := one_of hd
      cases hv
      obtain ⟨n, e, rfl⟩ := map_some hg
      exact call_int_str pins s σ H _ us Q I r ⟨_, n, rfl, e, by assumption, q _ H (.refl H) (.int _)⟩
    · cases hg
theorem call_STR : CallR X (.type "str") (rC X.K dStr) := by
  intro pins s σ H xs us Q I r h
  obtain ⟨M, ds, z, k, hd, hg, q⟩ := h
  unfold dStr at hg
  split at hg <;> try (cases hg; done)
  obtain ⟨hz, rfl⟩ := if_some hg
  obtain ⟨v, rfl, hv⟩ := one_of hd
  cases hv
  exact call_str_int pins s σ H _ us Q I r ⟨_, rfl, hz, q _ H (.refl H) (.str _)⟩
theorem call_TUPLE : CallR X (.type "tuple") (rC X.K dTuple) := by
  intro pins s σ H xs us Q I r h
  obtain ⟨M, ds, z, k, hd, hg, q⟩ := h
  unfold dTuple at hg
  split at hg <;> try (cases hg; done)
  · cases hg
    obtain ⟨v, rfl, hv⟩ := one_of hd
    cases hv with
    | lst n h1 a1 => exact call_tuple_of pins s σ H _ us Q I r ⟨_, _, rfl, .inl ⟨SqL.of h1, fun l hl => q _ _ (dat_tup hl a1).1 (dat_tup hl a1).2⟩⟩
  · cases hg
    obtain ⟨v, rfl, hv⟩ := one_of hd
    cases hv with
    | tup h1 a1 => exact call_tuple_of pins s σ H _ us Q I r ⟨_, _, rfl, .inr ⟨h1, q _ H (.refl H) (.tup h1 a1)⟩⟩
theorem call_DIVMOD : CallR X (.builtin "divmod") (rC X.K dDivmod) := by
  intro pins s σ H xs us Q I r h
  obtain ⟨M, ds, z, k, hd, hg, q⟩ := h
  unfold dDivmod at hg
  split at hg <;> try (cases hg; done)
  obtain ⟨hz, rfl⟩ := if_some hg
  obtain ⟨v, w, rfl, hv, hw⟩ := two_of hd
  cases hv; cases hw
  refine call_divmodW pins s σ H _ us Q I r ⟨_, _, rfl, ⟨hz.1, PyProof.noPylong_of_log2 hz.2⟩, fun p hp => ?_⟩
  exact dat_ii_put hp q
theorem call_ALL (hc : X.calm = true) : CallR X (.builtin "all") (rC X.K dAll) := by
  intro pins s σ H xs us Q I r h
  obtain ⟨M, ds, z, k, hd, hg, q⟩ := h
  unfold dAll at hg
  split at hg <;> try (cases hg; done)
  obtain ⟨bs, e, rfl⟩ := map_some hg
  obtain ⟨v, rfl, hv⟩ := one_of hd
  cases hv with
  | lst n h1 a1 =>
    rw [bls_eq e] at a1
    rw [a1.bls] at h1
    exact cr_all hc pins s σ H _ us Q I r ⟨_, bs, rfl, SqL.of h1, q _ H (.refl H) (.bl _)⟩
theorem call_REPR (hg : X.A.guards = some []) (hu : X.A.units + 64 < cLine) : CallR X (.builtin "repr") (rC X.K dRepr) := by
  intro pins s σ H xs us Q I r h
  obtain ⟨M, ds, z, k, hd, hg', q⟩ := h
  have core : ∀ (d : D) (a : Addr) (u : Value), Dat X.K M H (.ref a) d → RelV (.ref a) u → plain d = true → (toP d).showable = true → (toP d).depth ≤ 60 → (toP d).shown.length ≤ sizeLine → Q (.str (toP d).shown) H → us = [u] → wpAny (model X.prog X.w) X.A (call (.builtin "repr") us) (EP X pins σ Q) X.xe s := by
    intro d a u hv ru hp hs hdp hl hq e
    subst e
    obtain ⟨as, hr⟩ := hv.reads I _ _ _ hp ru
    cases ru
    refine repr_of_reads' (h₀ := s.heap) hr hs (PyData.noDict_hsm (noDict d hp)) hg (by omega) (fun b o e => e) (fun h' u tk k => ?_) hl
    exact ⟨.str (toP d).shown, H, I.kept (t' := tk) k, ⟨u, rfl⟩, hq⟩
  unfold dRepr at hg'
  split at hg' <;> try (cases hg'; done)
  · obtain ⟨⟨a1, a2, a3, a4⟩, rfl⟩ := if_some hg'
    obtain ⟨v, rfl, hv⟩ := one_of hd
    obtain ⟨u, rfl, ru⟩ := vals1 r
    obtain ⟨a, rfl⟩ : ∃ a, v = .ref a := by cases hv <;> exact ⟨_, rfl⟩
    exact core _ a u hv ru (by simpa only [plain] using a1) (by simp only [toP, PyData.showable]; exact a2) a3 a4 (q _ H (.refl H) (.str _)) rfl
  · obtain ⟨⟨a1, a2, a3, a4⟩, rfl⟩ := if_some hg'
    obtain ⟨v, rfl, hv⟩ := one_of hd
    obtain ⟨u, rfl, ru⟩ := vals1 r
    obtain ⟨a, rfl⟩ : ∃ a, v = .ref a := by cases hv <;> exact ⟨_, rfl⟩
    exact core _ a u hv ru (by simpa only [plain] using a1) (by simp only [toP, PyData.showable]; exact a2) a3 a4 (q _ H (.refl H) (.str _)) rfl
  · obtain ⟨hz, rfl⟩ := if_some hg'
    obtain ⟨v, rfl, hv⟩ := one_of hd
    cases hv
    exact SkE.call_repr_int pins s σ H _ us Q I r ⟨_, rfl, hz, q _ H (.refl H) (.str _)⟩
end
def tyName : D → Option String
  | .non => some "NoneType" | .bl _ => some "bool" | .int _ => some "int" | .str _ => some "str" | .tup _ => some "tuple"
  | .lst _ | .scr _ => some "list" | .dic _ _ => some "dict" | .dit _ _ | .ins _ _ _ | .cls _ | .ty _ => none
def tyNames : List String := ["NoneType", "bool", "int", "str", "tuple", "list", "dict"]
def isTy (n T : String) : Bool := n == T || (n == "bool" && T == "int")
def dIsT : List D → Option D
  | [d, .ty T] => if T ∈ tyNames then (tyName d).map fun n => .bl (isTy n T) else none
  | _ => none
theorem kit_all : ∀ n ∈ tyNames, ∀ T ∈ tyNames, kitB n T = some (isTy n T) := by decide +kernel
theorem tyName_mem {d : D} {n : String} (h : tyName d = some n) : n ∈ tyNames := by
  cases d <;> simp only [tyName, Option.some.injEq, reduceCtorEq] at h <;> subst h <;> decide
theorem tyX_of {K : PySem.W.Frag} {M : Addr → Prop} {H : Hp} {v : V} {d : D} {n : String} (h : Dat K M H v d) (e : tyName d = some n) : TyX K H v (.type n) := by
  cases h with
  | non => cases e; exact .base .non
  | bl b => cases e; exact .base (.bl b)
  | int b => cases e; exact .base (.int b)
  | str b => cases e; exact .base (.str b)
  | tup h a =>
    cases e
    rcases h with (h | ⟨o, h⟩) | ⟨o, its, n, h, c, _⟩
    · exact .base (.tup h)
    · exact .fTuple h
    · exact .kTuple h c
  | lst n h a => cases e; exact .base (.lst h)
  | dic n h q a =>
    cases e
    rcases h with h | ⟨o, h⟩
    · exact .base (.dK h)
    · exact .fDict h
  | dit n h q a => cases e
  | ins n h q a => cases e
  | cls a => cases e
  | ty a => cases e
  | scr h =>
    cases e
    rcases h with (h | ⟨o, h⟩) | ⟨o, its, n, h, c, _⟩
    · obtain ⟨_, _, z, _⟩ := fz_some h
      cases z
    · obtain ⟨ob, u, z, w⟩ := fz_some h
      cases z
      exact .base (.frz w)
    · exact .kList h c
section
variable {X : Cx}
/-- isinstance(x, T) -/
theorem call_ISIT : CallR X (.builtin "isinstance") (rC X.K dIsT) := by
  intro pins s σ H xs us Q I r h
  obtain ⟨M, ds, z, k, hd, hg, q⟩ := h
  unfold dIsT at hg
  split at hg
  · rename_i d T
    split at hg
    · rename_i hT
      obtain ⟨n, hn, rfl⟩ := map_some hg
      obtain ⟨v, w, rfl, hv, hw⟩ := two_of hd
      cases hw
      exact call_isi pins s σ H _ us Q I r ⟨v, .ty T, _, _, _, rfl, .ty T, tyX_of hv hn, kit_ty (kit_all n (tyName_mem hn) T hT), q _ H (.refl H) (.bl _)⟩
    · cases hg
  · cases hg
end
end DL
set_option autoImplicit false
namespace DL
open PySem PySem.Spec PyProof.Rows L2
def mC {α : Type} (a : α) : Mo α := fun ρ => some (a, ρ)
def mBd {α β : Type} (m : Mo α) (f : α → Mo β) : Mo β := fun ρ => match m ρ with
  | some (a, ρ') => f a ρ'
  | none => none
def mL {α : Type} (o : Option α) : Mo α := fun ρ => match o with
  | some a => some (a, ρ)
  | none => none
def mVar (i : Nat) : Mo D := fun ρ => match ρ[i]? with
  | some (.dat d) => some (d, ρ)
  | some (.own false d) => some (d, ρ.set i (.dat d))
  | _ => none
def mOp (g : D → D → Option D) (a b : Mo D) : Mo D := mBd a fun x => mBd b fun y => mL (g x y)
def mUn (g : D → Option D) (a : Mo D) : Mo D := mBd a fun x => mL (g x)
def bl? : D → Option Bool
  | .bl b => some b
  | _ => none
/-- a bool, as a test -/
def mTst (a : Mo D) : Mo Bool := mBd a fun x => mL (bl? x)
def mAndV (a b : Mo D) : Mo D := mBd (mTst a) fun x => if x = true then b else mC (.bl false)
def mOrV (a b : Mo D) : Mo D := mBd (mTst a) fun x => if x = true then mC (.bl true) else b
def mNotV (a : Mo D) : Mo D := mBd (mTst a) fun x => mC (.bl (!x))
def mAnd (a b : Mo Bool) : Mo Bool := mBd a fun x => if x = true then b else mC false
def mOr (a b : Mo Bool) : Mo Bool := mBd a fun x => if x = true then mC true else b
def mNot (a : Mo Bool) : Mo Bool := mBd a fun x => mC (!x)
def mIf (t : Mo Bool) (a b : Mo D) : Mo D := mBd t fun x => if x = true then a else b
def mChain (g h : D → D → Option D) (a b c : Mo D) : Mo D := mBd a fun x => mBd b fun y => mBd (mL (g x y)) fun z => mBd (mL (bl? z)) fun k => if k = true then mBd c fun w => mL (h y w) else mC z
def aNil : Mo (List D) := mC []
def aCons (a : Mo D) (r : Mo (List D)) : Mo (List D) := mBd a fun x => mBd r fun xs => mC (x :: xs)
def mTup (a : Mo (List D)) : Mo D := mBd a fun xs => mL (if xs.length ≤ sizeLine then some (.tup xs) else none)
def mLst (a : Mo (List D)) : Mo D := mBd a fun xs => mL (if xs.length ≤ sizeLine then some (.lst xs) else none)
def mFn (g : List D → Option D) (a : Mo (List D)) : Mo D := mBd a fun xs => mL (g xs)
def int? : D → Option Int
  | .int i => some i
  | _ => none
def mNo : Mo (Option Int) := mC none
def mPart (a : Mo D) : Mo (Option Int) := mBd a fun x => mBd (mL (int? x)) fun i => mC (some i)
def mSl (g : D → Option Int → Option Int → Option D) (a : Mo D) (l h : Mo (Option Int)) : Mo D := mBd a fun x => mBd l fun i => mBd h fun j => mL (g x i j)
theorem mBd_some {α β : Type} {m : Mo α} {f : α → Mo β} {ρ ρ' : Cs} {b : β} (h : mBd m f ρ = some (b, ρ')) : ∃ a ρ1, m ρ = some (a, ρ1) ∧ f a ρ1 = some (b, ρ') := by
  unfold mBd at h
  split at h
  · exact ⟨_, _, by assumption, h⟩
  · cases h
theorem mL_some {α : Type} {o : Option α} {ρ ρ' : Cs} {a : α} (h : mL o ρ = some (a, ρ')) : o = some a ∧ ρ' = ρ := by
  unfold mL at h
  split at h
  · cases h; exact ⟨rfl, rfl⟩
  · cases h
theorem mC_some {α : Type} {x : α} {ρ ρ' : Cs} {a : α} (h : mC x ρ = some (a, ρ')) : a = x ∧ ρ' = ρ := by
  unfold mC at h
  cases h; exact ⟨rfl, rfl⟩
def ROv {K : PySem.W.Frag} (c : Ctx K) (t : TO) (m : Mo (Option Int)) : Prop := ∀ M σ H ρ, Sta c M σ H ρ → ∀ o ρ', m ρ = some (o, ρ') → ∀ Q : Option Int → Hp → Prop, (∀ M' H', Es σ M H ρ σ M' H' ρ' → Sta c M' σ H' ρ' → Q o H') → t σ H Q
structure DO' (X : Cx) {K : PySem.W.Frag} (c : Ctx K) (e : Option Expr) (t : TO) (m : Mo (Option Int)) : Prop where
  p : PO X e t
  r : ROv c t m
section
variable {K : PySem.W.Frag} {c : Ctx K} {ta tb tc : TE} {ma mb mc : Mo D} {t t' : TT} {m m' : Mo Bool} {tl : TA} {ml : Mo (List D)}
theorem r_const {v : V} {d : D} (h : ∀ M H, Dat K M H v d) : REv c (tC v) (mC d) := by
  intro M σ H ρ S e ρ' hm Q q
  obtain ⟨rfl, rfl⟩ := mC_some hm
  exact q M v H .refl S (h M H)
theorem r_var (i : Nat) : REv c (tVar i) (mVar i) := by
  intro M σ H ρ S d ρ' hm Q q
  unfold mVar at hm
  split at hm
  · rename_i e
    cases hm
    obtain ⟨v, hv, hd⟩ := S.dat e
    exact ⟨v, hv, q M v H .refl S hd⟩
  · rename_i e
    cases hm
    obtain ⟨a, ha, _, _, _⟩ := S.own e
    obtain ⟨E, S', hd⟩ := S.freezeE ha e
    exact ⟨_, ha, q _ _ H E S' hd⟩
  · cases hm
theorem r_op {g : D → D → Option D} (ha : REv c ta ma) (hb : REv c tb mb) : REv c (tOp (rD K g) ta tb) (mOp g ma mb) := by
  intro M σ H ρ S d ρ' hm Q q
  obtain ⟨x, ρ1, h1, hm⟩ := mBd_some hm
  obtain ⟨y, ρ2, h2, hm⟩ := mBd_some hm
  obtain ⟨hg, rfl⟩ := mL_some hm
  refine ha M σ H ρ S x ρ1 h1 _ fun M1 v H1 E1 S1 d1 => hb M1 σ H1 ρ1 S1 y _ h2 _ fun M2 w H2 E2 S2 d2 => ?_
  exact ⟨M2, x, y, d, S2.kind, d1.ev S1.kind E2.ev, d2, hg, fun u H3 s h => q M2 u H3 ((E1.trans E2 S.kind).trans (.same s) S.kind) (S2.same s) h⟩
theorem r_new {M M1 : Addr → Prop} {σ : L2.St} {H H1 H2 : Hp} {ρ ρ1 : Cs} {a : Addr} {o : HO} {d : D} {Q : VK} (S : Sta c M σ H ρ) (E : Es σ M H ρ σ M1 H1 ρ1) (S1 : Sta c M1 σ H1 ρ1) (n : H1 a = none) (s : Same H1 H2) (ho : H2 a = some o) (h : Cont K M1 H1 o d)
    (q : ∀ M' a H', H a = none → Es σ M H ρ σ M' H' ρ1 → Sta c M' σ H' ρ1 → Nw c M' σ H' ρ1 a d → Q (.ref a) H') : Q (.ref a) H2 := by
  obtain ⟨E2, S2, N⟩ := S1.nw n s ho h
  exact q _ a H2 (E.dm a n) (E.trans E2 S.kind) S2 N
theorem bl_of {K : PySem.W.Frag} {M : Addr → Prop} {H : Hp} {v : V} {d : D} {b : Bool} (h : Dat K M H v d) (e : bl? d = some b) : v = .bl b := by
  cases h <;> simp [bl?] at e
  subst e; rfl
theorem r_tst (ha : REv c ta ma) : RTt c (tB ta) (mTst ma) := by
  intro M σ H ρ S b ρ' hm Q q
  obtain ⟨x, ρ1, h1, hm⟩ := mBd_some hm
  obtain ⟨hg, rfl⟩ := mL_some hm
  exact ha M σ H ρ S x _ h1 _ fun M1 v H1 E1 S1 d1 => ⟨b, bl_of d1 hg, q M1 H1 E1 S1⟩
theorem r_test (ha : REv c ta ma) : RTt c (tTest ta) (mTst ma) := r_tst ha
theorem r_andV (ha : REv c ta ma) (hb : REv c tb mb) : REv c (tAndV ta tb) (mAndV ma mb) := by
  intro M σ H ρ S d ρ' hm Q q
  obtain ⟨x, ρ1, h1, hm⟩ := mBd_some hm
  obtain ⟨z, ρ2, h2, h1⟩ := mBd_some h1
  obtain ⟨hg, rfl⟩ := mL_some h1
  refine ha M σ H ρ S z _ h2 _ fun M1 v H1 E1 S1 d1 => ⟨x, bl_of d1 hg, ?_⟩
  cases x with
  | true => exact hb M1 σ H1 _ S1 d ρ' hm Q fun M2 w H2 E2 S2 d2 => q M2 w H2 (E1.trans E2 S.kind) S2 d2
  | false =>
    obtain ⟨rfl, rfl⟩ := mC_some (show mC (D.bl false) ρ1 = some (d, ρ') from hm)
    exact q M1 _ H1 E1 S1 (.bl _)
theorem r_notV (ha : REv c ta ma) : REv c (tNotV ta) (mNotV ma) := by
  intro M σ H ρ S d ρ' hm Q q
  obtain ⟨x, ρ1, h1, hm⟩ := mBd_some hm
  obtain ⟨z, ρ2, h2, h1⟩ := mBd_some h1
  obtain ⟨hg, rfl⟩ := mL_some h1
  obtain ⟨rfl, rfl⟩ := mC_some hm
  exact ha M σ H ρ S z _ h2 _ fun M1 v H1 E1 S1 d1 => ⟨x, bl_of d1 hg, q M1 _ H1 E1 S1 (.bl _)⟩
theorem r_and (ha : RTt c t m) (hb : RTt c t' m') : RTt c (tAnd t t') (mAnd m m') := by
  intro M σ H ρ S b ρ' hm Q q
  obtain ⟨x, ρ1, h1, hm⟩ := mBd_some hm
  refine ha M σ H ρ S x ρ1 h1 _ fun M1 H1 E1 S1 => ?_
  cases x with
  | true => exact hb M1 σ H1 ρ1 S1 b ρ' hm Q fun M2 H2 E2 S2 => q M2 H2 (E1.trans E2 S.kind) S2
  | false =>
    obtain ⟨rfl, rfl⟩ := mC_some (show mC false ρ1 = some (b, ρ') from hm)
    exact q M1 H1 E1 S1
theorem r_or (ha : RTt c t m) (hb : RTt c t' m') : RTt c (tOr t t') (mOr m m') := by
  intro M σ H ρ S b ρ' hm Q q
  obtain ⟨x, ρ1, h1, hm⟩ := mBd_some hm
  refine ha M σ H ρ S x ρ1 h1 _ fun M1 H1 E1 S1 => ?_
  cases x with
  | false => exact hb M1 σ H1 ρ1 S1 b ρ' hm Q fun M2 H2 E2 S2 => q M2 H2 (E1.trans E2 S.kind) S2
  | true =>
    obtain ⟨rfl, rfl⟩ := mC_some (show mC true ρ1 = some (b, ρ') from hm)
    exact q M1 H1 E1 S1
theorem r_not (ha : RTt c t m) : RTt c (tNot t) (mNot m) := by
  intro M σ H ρ S b ρ' hm Q q
  obtain ⟨x, ρ1, h1, hm⟩ := mBd_some hm
  obtain ⟨rfl, rfl⟩ := mC_some hm
  exact ha M σ H ρ S x _ h1 _ fun M1 H1 E1 S1 => q M1 H1 E1 S1
theorem r_if (ht : RTt c t m) (ha : REv c ta ma) (hb : REv c tb mb) : REv c (tIf t ta tb) (mIf m ma mb) := by
  intro M σ H ρ S d ρ' hm Q q
  obtain ⟨x, ρ1, h1, hm⟩ := mBd_some hm
  refine ht M σ H ρ S x ρ1 h1 _ fun M1 H1 E1 S1 => ?_
  cases x with
  | true => exact ha M1 σ H1 ρ1 S1 d ρ' hm Q fun M2 w H2 E2 S2 d2 => q M2 w H2 (E1.trans E2 S.kind) S2 d2
  | false => exact hb M1 σ H1 ρ1 S1 d ρ' hm Q fun M2 w H2 E2 S2 d2 => q M2 w H2 (E1.trans E2 S.kind) S2 d2
theorem r_chain {g h : D → D → Option D} (ha : REv c ta ma) (hb : REv c tb mb) (hc : REv c tc mc) : REv c (tChain (rD K g) (rD K h) ta tb tc) (mChain g h ma mb mc) := by
  intro M σ H ρ S d ρ' hm Q q
  obtain ⟨x, ρ1, h1, hm1⟩ := mBd_some hm
  obtain ⟨y, ρ2, h2, hm2⟩ := mBd_some hm1
  obtain ⟨z, ρ3, h3, hm3⟩ := mBd_some hm2
  obtain ⟨hg, e3⟩ := mL_some h3
  subst e3
  obtain ⟨k, ρ4, h4, hm4⟩ := mBd_some hm3
  obtain ⟨hk, e4⟩ := mL_some h4
  subst e4
  refine ha M σ H ρ S x ρ1 h1 _ fun M1 v H1 E1 S1 d1 => hb M1 σ H1 ρ1 S1 y _ h2 _ fun M2 w H2 E2 S2 d2 => ?_
  refine ⟨M2, x, y, z, S2.kind, d1.ev S1.kind E2.ev, d2, hg, fun u H3 s hu => ⟨k, bl_of hu hk, ?_⟩⟩
  cases k with
  | true =>
    rw [if_pos rfl] at hm4
    obtain ⟨w', ρ5, h5, hm5⟩ := mBd_some hm4
    obtain ⟨hh, e5⟩ := mL_some hm5
    subst e5
    show if true = true then _ else _
    rw [if_pos rfl]
    refine hc M2 σ H3 _ (S2.same s) w' _ h5 _ fun M3 x3 H4 E3 S3 d3 => ?_
    exact ⟨M3, y, w', d, S3.kind, (d2.same s).ev (S2.same s).kind E3.ev, d3, hh, fun u H5 s5 h => q M3 u H5 (((E1.trans E2 S.kind).trans (.same s) S.kind).trans (E3.trans (.same s5) (S2.same s).kind) S.kind) (S3.same s5) h⟩
  | false =>
    rw [if_neg (by decide)] at hm4
    obtain ⟨e6, e7⟩ := mC_some hm4
    subst e6 e7
    show if false = true then _ else _
    rw [if_neg (by decide)]
    have eu := bl_of hu hk
    rw [eu] at hu
    exact q M2 _ H3 ((E1.trans E2 S.kind).trans (.same s) S.kind) (S2.same s) hu
theorem r_anil : RAv c tNil aNil := by
  intro M σ H ρ S d ρ' hm Q q
  obtain ⟨rfl, rfl⟩ := mC_some hm
  exact q M [] H .refl S .nil
theorem r_acons (ha : REv c ta ma) (hr : RAv c tl ml) : RAv c (tCons ta tl) (aCons ma ml) := by
  intro M σ H ρ S ds ρ' hm Q q
  obtain ⟨x, ρ1, h1, hm⟩ := mBd_some hm
  obtain ⟨xs, ρ2, h2, hm⟩ := mBd_some hm
  obtain ⟨rfl, rfl⟩ := mC_some hm
  exact ha M σ H ρ S x ρ1 h1 _ fun M1 v H1 E1 S1 d1 => hr M1 σ H1 ρ1 S1 xs _ h2 _ fun M2 vs H2 E2 S2 d2 => q M2 _ H2 (E1.trans E2 S.kind) S2 (.cons (d1.ev S1.kind E2.ev) d2)
theorem r_tup (h : RAv c tl ml) : REv c (tTup tl) (mTup ml) := by
  intro M σ H ρ S d ρ' hm Q q
  obtain ⟨xs, ρ1, h1, hm⟩ := mBd_some hm
  obtain ⟨hg, rfl⟩ := mL_some hm
  obtain ⟨hl, rfl⟩ := if_some hg
  refine h M σ H ρ S xs _ h1 _ fun M1 vs H1 E1 S1 d1 => ⟨by rw [d1.length]; exact hl, fun p hp => ?_⟩
  have a := dat_tup hp d1
  exact q M1 _ _ (E1.trans (.same a.1) S.kind) (S1.same a.1) a.2
theorem r_lst (h : RAv c tl ml) : RNw c (tLst tl) (mLst ml) := by
  intro M σ H ρ S d ρ' hm Q q
  obtain ⟨xs, ρ1, h1, hm⟩ := mBd_some hm
  obtain ⟨hg, rfl⟩ := mL_some hm
  obtain ⟨hl, rfl⟩ := if_some hg
  exact h M σ H ρ S xs _ h1 _ fun M1 vs H1 E1 S1 d1 => ⟨by rw [d1.length]; exact hl, fun p hp => r_new S E1 S1 hp (same_new hp) upd_same (.lst d1) q⟩
theorem r_fn {g : List D → Option D} (h : RAv c tl ml) : REv c (tCB (rC K g) tl) (mFn g ml) := by
  intro M σ H ρ S d ρ' hm Q q
  obtain ⟨xs, ρ1, h1, hm⟩ := mBd_some hm
  obtain ⟨hg, rfl⟩ := mL_some hm
  exact h M σ H ρ S xs _ h1 _ fun M1 vs H1 E1 S1 d1 => ⟨M1, xs, d, S1.kind, d1, hg, fun u H' s h => q M1 u H' (E1.trans (.same s) S.kind) (S1.same s) h⟩
theorem r_no : ROv c tNoPart mNo := by
  intro M σ H ρ S d ρ' hm Q q
  obtain ⟨rfl, rfl⟩ := mC_some hm
  exact q M H .refl S
theorem int_of {K : PySem.W.Frag} {M : Addr → Prop} {H : Hp} {v : V} {d : D} {b : Int} (h : Dat K M H v d) (e : int? d = some b) : v = .int b := by
  cases h <;> simp [int?] at e
  subst e; rfl
theorem r_part (ha : REv c ta ma) : ROv c (tPart ta) (mPart ma) := by
  intro M σ H ρ S o ρ' hm Q q
  obtain ⟨x, ρ1, h1, hm1⟩ := mBd_some hm
  obtain ⟨i, ρ2, h2, hm2⟩ := mBd_some hm1
  obtain ⟨hg, e1⟩ := mL_some h2
  obtain ⟨e2, e3⟩ := mC_some hm2
  subst e1 e2 e3
  exact ha M σ H ρ S x _ h1 _ fun M1 v H1 E1 S1 d1 => ⟨i, int_of d1 hg, q M1 H1 E1 S1⟩
theorem r_sl {g : D → Option Int → Option Int → Option D} {tl th : TO} {ml mh : Mo (Option Int)} (ha : REv c ta ma) (hl : ROv c tl ml) (hh : ROv c th mh) : REv c (tSl (rS K g) ta tl th) (mSl g ma ml mh) := by
  intro M σ H ρ S d ρ' hm Q q
  obtain ⟨x, ρ1, h1, hm⟩ := mBd_some hm
  obtain ⟨i, ρ2, h2, hm⟩ := mBd_some hm
  obtain ⟨j, ρ3, h3, hm⟩ := mBd_some hm
  obtain ⟨hg, rfl⟩ := mL_some hm
  refine ha M σ H ρ S x ρ1 h1 _ fun M1 v H1 E1 S1 d1 => hl M1 σ H1 ρ1 S1 i ρ2 h2 _ fun M2 H2 E2 S2 => hh M2 σ H2 ρ2 S2 j _ h3 _ fun M3 H3 E3 S3 => ?_
  exact ⟨M3, x, d, S3.kind, (d1.ev S1.kind E2.ev).ev S2.kind E3.ev, hg, fun u H' s h => q M3 u H' (((E1.trans E2 S.kind).trans E3 S.kind).trans (.same s) S.kind) (S3.same s) h⟩
end
section
variable {X : Cx} {K : PySem.W.Frag} {c : Ctx K} {a b e : Expr} {es : List Expr} {pos : Pos} {ta tb tc : TE} {ma mb mc : Mo D} {t t' : TT} {m m' : Mo Bool} {tl : TA} {ml : Mo (List D)} {rest : List Expr}
theorem dv (i : Nat) {x : Str} {pos : Pos} (hN : X.N[i]? = some x := by rfl) (hv : Vis X.env.scope x := by first | exact Or.inl rfl | exact Or.inr (Or.inl rfl) | exact Or.inr (Or.inr rfl)) (hd : (x == ("__debug__" : Str)) = false := by decide)
    (hcd : (x == ("__classdict__" : Str)) = false := by decide) : DE X c (.Name x pos) (tVar i) (mVar i) := ⟨pv i hN hv hd hcd, r_var i⟩
theorem d_int {i : Int} {j pos} : DE X c (.Constant (.int i) j pos) (tC (.int i)) (mC (.int i)) := ⟨pe_int, r_const fun _ _ => .int i⟩
theorem d_bl {b j pos} : DE X c (.Constant (.bool b) j pos) (tC (.bl b)) (mC (.bl b)) := ⟨pe_bl, r_const fun _ _ => .bl b⟩
theorem d_non {j pos} : DE X c (.Constant .none j pos) (tC .non) (mC .non) := ⟨pe_non, r_const fun _ _ => .non⟩
theorem d_str {x j pos} : DE X c (.Constant (.str x) j pos) (tC (.str x)) (mC (.str x)) := ⟨pe_str, r_const fun _ _ => .str x⟩
theorem d_gi {x : Str} {n : Int} {pos : Pos} (T : L2.Ci X.mg x n) (hg : Gl X x := by rfl) (hd : (x == ("__debug__" : Str)) = false := by decide) : DE X c (.Name x pos) (tC (.int n)) (mC (.int n)) := ⟨pe_glob hg T.g ⟨_, rfl⟩ hd, r_const fun _ _ => .int n⟩
theorem d_gs {x z : Str} {pos : Pos} (T : L2.Cs X.mg x z) (hg : Gl X x := by rfl) (hd : (x == ("__debug__" : Str)) = false := by decide) : DE X c (.Name x pos) (tC (.str z)) (mC (.str z)) := ⟨pe_glob hg T.g ⟨_, rfl⟩ hd, r_const fun _ _ => .str z⟩
/-- a constant of the top by what is known of its value -/
theorem d_gd {x : Str} {v : V} {u : Value} {d : D} {pos : Pos} (hm : X.mg x = some u) (r : RelV v u) (h : ∀ M H, Dat K M H v d) (hg : Gl X x := by rfl) (hd : (x == ("__debug__" : Str)) = false := by decide) : DE X c (.Name x pos) (tC v) (mC d) := ⟨pe_glob hg hm r hd, r_const h⟩
theorem d_ty {x : Str} {n : String} {pos : Pos} (hm : X.mg x = none) (hv : bootBuiltins x = some (.type n)) (hg : Gl X x := by rfl) (hn : x ≠ "__name__" := by decide) (hd : (x == ("__debug__" : Str)) = false := by decide) : DE X c (.Name x pos) (tC (.ty n)) (mC (.ty n)) := ⟨pe_bltn hg hm hv rfl hn hd, r_const fun _ _ => .ty n⟩
theorem d_cls {x : Str} {C : Addr} {pos : Pos} (hm : X.mg x = some (.ref C)) (hg : Gl X x := by rfl) (hd : (x == ("__debug__" : Str)) = false := by decide) : DE X c (.Name x pos) (tC (.ref C)) (mC (.cls C)) := ⟨pe_glob hg hm rfl hd, r_const fun _ _ => .cls C⟩
theorem d_op {op : Operator} {g : D → D → Option D} (ho : OpR X (binaryOp op) (rD X.K g)) (ha : DE X c a ta ma) (hb : DE X c b tb mb) (hK : X.K = K := by rfl) : DE X c (.BinOp a op b pos) (tOp (rD K g) ta tb) (mOp g ma mb) := ⟨by rw [← hK]; exact pe_op ho ha.p hb.p, r_op ha.r hb.r⟩
theorem d_notV (ha : DE X c a ta ma) : DE X c (.UnaryOp .Not a pos) (tNotV ta) (mNotV ma) := ⟨pe_not ha.p, r_notV ha.r⟩
theorem d_cmp {op : CmpOp} {g : D → D → Option D} (ho : OpR X (compareOp op) (rD X.K g)) (ha : DE X c a ta ma) (hb : DE X c b tb mb) (hm : behindInMarks op b = false) (hK : X.K = K := by rfl) : DE X c (.Compare a [op] [b] pos) (tOp (rD K g) ta tb) (mOp g ma mb) := ⟨by rw [← hK]; exact pe_cmpR ho ha.p hb.p hm, r_op ha.r hb.r⟩
theorem d_tcmp {op : CmpOp} {g : D → D → Option D} (ho : OpR X (compareOp op) (rD X.K g)) (ha : DE X c a ta ma) (hb : DE X c b tb mb) (hm : behindInMarks op b = false) (hK : X.K = K := by rfl) : DT X c (.Compare a [op] [b] pos) (tTest (tOp (rD K g) ta tb)) (mTst (mOp g ma mb)) := ⟨by rw [← hK]; exact pt_cmpR ho ha.p hb.p hm, r_test (r_op ha.r hb.r)⟩
theorem d_chain {op op' : CmpOp} {g h : D → D → Option D} {d : Expr} (ho : OpR X (compareOp op) (rD X.K g)) (ho' : OpR X (compareOp op') (rD X.K h)) (ha : DE X c a ta ma) (hb : DE X c b tb mb) (hc : DE X c d tc mc) (hm : lastMarks [op, op'] [b, d] = false := by rfl) (hK : X.K = K := by rfl) :
    DE X c (.Compare a [op, op'] [b, d] pos) (tChain (rD K g) (rD K h) ta tb tc) (mChain g h ma mb mc) := ⟨by rw [← hK]; exact pe_chain ho ho' ha.p hb.p hc.p hm, r_chain ha.r hb.r hc.r⟩
theorem d_tchain {op op' : CmpOp} {g h : D → D → Option D} {d : Expr} (ho : OpR X (compareOp op) (rD X.K g)) (ho' : OpR X (compareOp op') (rD X.K h)) (ha : DE X c a ta ma) (hb : DE X c b tb mb) (hc : DE X c d tc mc) (hm : lastMarks [op, op'] [b, d] = false := by rfl) (hK : X.K = K := by rfl) :
    DT X c (.Compare a [op, op'] [b, d] pos) (tTest (tChain (rD K g) (rD K h) ta tb tc)) (mTst (mChain g h ma mb mc)) := ⟨by rw [← hK]; exact pt_chain ho ho' ha.p hb.p hc.p hm, r_test (r_chain ha.r hb.r hc.r)⟩
theorem d_tval (ha : DE X c e ta ma) (he : ∀ whole, isTrue e X.env whole = (do let v ← whole; standAt e.pos; holding [v] (truthy v)) := by intro _; rfl) : DT X c e (tB ta) (mTst ma) := ⟨pt_val ha.p he, r_tst ha.r⟩
theorem d_one {op} (h : DE X c a ta ma) : DE X c (.BoolOp op [a] pos) ta ma := ⟨pe_one h.p, h.r⟩
theorem d_andV (ha : DE X c a ta ma) (hb : DE X c (.BoolOp .And (b :: rest) pos) tb mb) : DE X c (.BoolOp .And (a :: b :: rest) pos) (tAndV ta tb) (mAndV ma mb) := ⟨pe_and ha.p hb.p, r_andV ha.r hb.r⟩
theorem d_and1 (ha : DT X c a t m) : DW X c (.BoolOp .And [a] pos) t m := ⟨pw_and1 ha.p, ha.r⟩
theorem d_or1 (ha : DT X c a t m) : DW X c (.BoolOp .Or [a] pos) t m := ⟨pw_or1 ha.p, ha.r⟩
theorem d_and (ha : DT X c a t m) (hb : DW X c (.BoolOp .And (b :: rest) pos) t' m') : DW X c (.BoolOp .And (a :: b :: rest) pos) (tAnd t t') (mAnd m m') := ⟨pw_and ha.p hb.p, r_and ha.r hb.r⟩
theorem d_or (ha : DT X c a t m) (hb : DW X c (.BoolOp .Or (b :: rest) pos) t' m') : DW X c (.BoolOp .Or (a :: b :: rest) pos) (tOr t t') (mOr m m') := ⟨pw_or ha.p hb.p, r_or ha.r hb.r⟩
theorem DW.dt (h : DW X c e t m) : DT X c e t m := ⟨h.p.pt, h.r⟩
theorem d_not (ha : DT X c a t m) : DT X c (.UnaryOp .Not a pos) (tNot t) (mNot m) := ⟨pt_not ha.p, r_not ha.r⟩
theorem d_if (ht : DT X c e t m) (ha : DE X c a ta ma) (hb : DE X c b tb mb) : DE X c (.IfExp e a b pos) (tIf t ta tb) (mIf m ma mb) := ⟨pe_ifExp ht.p ha.p hb.p, r_if ht.r ha.r hb.r⟩
theorem d_anil : DA X c [] tNil aNil := ⟨pa_nil, r_anil⟩
theorem d_acons (ha : DE X c e ta ma) (hr : DA X c es tl ml) (hs : starEach (e :: es) X.env = (false, eval e X.env) :: starEach es X.env := by rfl) : DA X c (e :: es) (tCons ta tl) (aCons ma ml) := ⟨pa_cons ha.p hr.p hs, r_acons ha.r hr.r⟩
theorem d_tup {x1} (h : DA X c es tl ml) : DE X c (.Tuple es x1 pos) (tTup tl) (mTup ml) := ⟨pe_tup h.p, r_tup h.r⟩
theorem d_lst (h : DA X c es tl ml) : DN X c (.List es pos) (tLst tl) (mLst ml) := ⟨pe_lst h.p, r_lst h.r⟩
theorem d_ix (ha : DE X c a ta ma) (hb : DE X c b tb mb) (hs : PlainIx b) (hK : X.K = K := by rfl) : DE X c (.Subscript a b pos) (tOp (rD K dIx) ta tb) (mOp dIx ma mb) := ⟨by rw [← hK]; exact pe_ix ix_ALL ha.p hb.p hs, r_op ha.r hb.r⟩
theorem d_no : DO' X c none tNoPart mNo := ⟨po_none, r_no⟩
theorem d_part (h : DE X c e ta ma) : DO' X c (some e) (tPart ta) (mPart ma) := ⟨po_some h.p, r_part h.r⟩
theorem d_sl {lo hi : Option Expr} {p2 : Pos} {tl th : TO} {mlo mhi : Mo (Option Int)} (ha : DE X c a ta ma) (hl : DO' X c lo tl mlo) (hh : DO' X c hi th mhi) (hK : X.K = K := by rfl) : DE X c (.Subscript a (.Slice lo hi none p2) pos) (tSl (rS K dSl) ta tl th) (mSl dSl ma mlo mhi) := ⟨by rw [← hK]; exact pe_slice sl_ALL ha.p hl.p hh.p, r_sl ha.r hl.r hh.r⟩
theorem d_blt {x : Str} {id : String} {g : List D → Option D} {p : Pos} (hc : CallR X (.builtin id) (rC X.K g)) (hm : X.mg x = none) (hv : bootBuiltins x = some (.builtin id)) (ha : DA X c (e :: es) tl ml) (hg : Gl X x := by rfl) (hn : x ≠ "__name__" := by decide) (hdb : (x == ("__debug__" : Str)) = false := by decide)
    (he : starEach (e :: es) X.env = (false, eval e X.env) :: starEach es X.env := by rfl) (hpl : (backTo pos (starEach es X.env)).any (·.1) = false := by rfl) (hK : X.K = K := by rfl) : DE X c (.Call (.Name x p) (e :: es) [] pos) (tCB (rC K g) tl) (mFn g ml) := ⟨by rw [← hK]; exact pe_callB hc hg hm hv ha.p hn hdb he hpl, r_fn ha.r⟩
theorem d_cty {x : Str} {T : String} {g : List D → Option D} {p : Pos} (hc : CallR X (.type T) (rC X.K g)) (hm : X.mg x = none) (hv : bootBuiltins x = some (.type T)) (ha : DA X c (e :: es) tl ml) (hg : Gl X x := by rfl) (hn : x ≠ "__name__" := by decide) (hdb : (x == ("__debug__" : Str)) = false := by decide)
    (he : starEach (e :: es) X.env = (false, eval e X.env) :: starEach es X.env := by rfl) (hpl : (backTo pos (starEach es X.env)).any (·.1) = false := by rfl) (hK : X.K = K := by rfl) : DE X c (.Call (.Name x p) (e :: es) [] pos) (tCB (rC K g) tl) (mFn g ml) := ⟨by rw [← hK]; exact pe_callTy hc hg hm hv ha.p hn hdb he hpl, r_fn ha.r⟩
end
end DL
set_option autoImplicit false
namespace DL
open PySem PySem.Spec PyProof.Rows L2
def sNx : Mo Fl := mC .nx
def sSeq (a b : Mo Fl) : Mo Fl := fun ρ => match a ρ with
  | some (.nx, ρ') => b ρ'
  | r => r
def sSet (i : Nat) (a : Mo D) : Mo Fl := mBd a fun d ρ => some (.nx, ρ.set i (.dat d))
def sSetN (i : Nat) (a : Mo D) : Mo Fl := mBd a fun d ρ => some (.nx, ρ.set i (.own false d))
def sRet (a : Mo D) : Mo Fl := mBd a fun d => mC (.rt d)
def sRetN : Mo Fl := mC (.rt .non)
def sRetNew (a : Mo D) : Mo Fl := mBd a fun d => mC (.rn d)
def sIf (t : Mo Bool) (a b : Mo Fl) : Mo Fl := mBd t fun x => if x = true then a else b
def sDrop (a : Mo D) : Mo Fl := mBd a fun _ => sNx
def sNo : Mo Fl := fun _ => none
def sBk : Mo Fl := mC .bk
def sCt : Mo Fl := mC .ct
def sAsg (a : Mo D) (g : D → Mo Unit) : Mo Fl := mBd a fun d => mBd (g d) fun _ => sNx
def gNm (i : Nat) (d : D) : Mo Unit := fun ρ => some ((), ρ.set i (.dat d))
def gsNil (ds : List D) : Mo Unit := match ds with
  | [] => mC ()
  | _ => fun _ => none
def gsCons (g : D → Mo Unit) (r : List D → Mo Unit) (ds : List D) : Mo Unit := match ds with
  | d :: ds => mBd (g d) fun _ => r ds
  | [] => fun _ => none
def gTp (n : Nat) (r : List D → Mo Unit) (d : D) : Mo Unit := match d with
  | .tup ds => if ds.length = n then r ds else fun _ => none
  | _ => fun _ => none
/-- o[k] = v, o an owned list in slot i -/
def putL (i : Nat) (k : D) (d : D) : Mo Unit := fun ρ => match ρ[i]? with
  | some (.own p (.lst ds)) => match int? k with
    | some n => match ixN ds.length n with
      | some j => some ((), ρ.set i (.own p (.lst (ds.set j d))))
      | none => none
    | none => none
  | _ => none
def owns (i : Nat) (ρ : Cs) : Bool := match ρ[i]? with
  | some (.own _ _) => true
  | _ => false
def gPut (i : Nat) (k : Mo D) (d : D) : Mo Unit := fun ρ => if owns i ρ = true then mBd k (fun n => putL i n d) ρ else none
/-- f of what slot i owns (a list's append ..) -/
def sApp (i : Nat) (a : Mo D) : Mo Fl := mBd a fun d ρ => match ρ[i]? with
  | some (.own p (.lst ds)) => if ds.length < sizeLine then some (.nx, ρ.set i (.own p (.lst (ds ++ [d])))) else none
  | _ => none
def goFor (g : D → Mo Unit) (b : Mo Fl) : List D → Mo Fl
  | [], ρ => some (.nx, ρ)
  | d :: ds, ρ => match g d ρ with
    | none => none
    | some (_, ρ1) => match b ρ1 with
      | none => none
      | some (.nx, ρ2) => goFor g b ds ρ2
      | some (.ct, ρ2) => goFor g b ds ρ2
      | some (.bk, ρ2) => some (.nx, ρ2)
      | some (.rt d, ρ2) => some (.rt d, ρ2)
      | some (.rn d, ρ2) => some (.rn d, ρ2)
def sFor (it : Mo (List D)) (g : D → Mo Unit) (b : Mo Fl) : Mo Fl := mBd it fun ds => goFor g b ds
section
variable {K : PySem.W.Frag} {c : Ctx K} {t u : TS} {m k : Mo Fl} {te : TE} {me : Mo D} {tt : TT} {mt : Mo Bool}
theorem r_nx : RSt c tNext sNx := by
  intro M σ H ρ S f ρ' hm D q
  obtain ⟨e1, e2⟩ := mC_some hm
  subst e1 e2
  exact q M σ H .refl S
theorem r_seq (h1 : RSt c t m) (h2 : RSt c u k) : RSt c (tSeq t u) (sSeq m k) := by
  intro M σ H ρ S f ρ' hm D q
  unfold sSeq at hm
  cases e : m ρ with
  | none => rw [e] at hm; cases hm
  | some r =>
    obtain ⟨f1, ρ1⟩ := r
    rw [e] at hm
    cases f1 with
    | nx => exact h1 M σ H ρ S .nx ρ1 e { D with nx := u D } fun M' σ' H' E S' => h2 M' σ' H' ρ1 S' f ρ' hm D (q.ev E)
    | rt d => cases hm; exact h1 M σ H ρ S _ _ e { D with nx := u D } q
    | rn d => cases hm; exact h1 M σ H ρ S _ _ e { D with nx := u D } q
    | bk => cases hm; exact h1 M σ H ρ S _ _ e { D with nx := u D } q
    | ct => cases hm; exact h1 M σ H ρ S _ _ e { D with nx := u D } q
theorem r_set (h : REv c te me) (i : Nat) : RSt c (tAsg te (gName i)) (sSet i me) := by
  intro M σ H ρ S f ρ' hm D q
  obtain ⟨d, ρ1, h1, h2⟩ := mBd_some hm
  cases h2
  exact h M σ H ρ S d ρ1 h1 _ fun M' v H' E S' hd => q M' _ H' E.ev (S'.setDat i hd)
theorem r_setN (h : RNw c te me) (i : Nat) : RSt c (tAsg te (gName i)) (sSetN i me) := by
  intro M σ H ρ S f ρ' hm D q
  obtain ⟨d, ρ1, h1, h2⟩ := mBd_some hm
  cases h2
  exact h M σ H ρ S d ρ1 h1 _ fun M' a H' _ E S' n => q M' _ H' E.ev (S'.takeN n i)
theorem r_ret (h : REv c te me) : RSt c (tRet te) (sRet me) := by
  intro M σ H ρ S f ρ' hm D q
  obtain ⟨d, ρ1, h1, h2⟩ := mBd_some hm
  obtain ⟨e1, e2⟩ := mC_some h2
  subst e1 e2
  exact h M σ H ρ S d _ h1 _ fun M' v H' E S' hd => q M' σ v H' E.ev S' hd
theorem r_retNew (h : RNw c te me) : RSt c (tRet te) (sRetNew me) := by
  intro M σ H ρ S f ρ' hm D q
  obtain ⟨d, ρ1, h1, h2⟩ := mBd_some hm
  obtain ⟨e1, e2⟩ := mC_some h2
  subst e1 e2
  exact h M σ H ρ S d _ h1 _ fun M' a H' _ E S' n => q M' σ a H' E.ev S' n
theorem r_ifS (ht : RTt c tt mt) (ha : RSt c t m) (hb : RSt c u k) : RSt c (tIfS tt t u) (sIf mt m k) := by
  intro M σ H ρ S f ρ' hm D q
  obtain ⟨x, ρ1, h1, h2⟩ := mBd_some hm
  refine ht M σ H ρ S x ρ1 h1 _ fun M1 H1 E1 S1 => ?_
  cases x with
  | true => exact ha M1 σ H1 ρ1 S1 f ρ' h2 D (q.ev E1.ev)
  | false => exact hb M1 σ H1 ρ1 S1 f ρ' h2 D (q.ev E1.ev)
theorem r_never : RSt c tNever sNo := fun M σ H ρ S f ρ' hm D q => by cases hm
theorem r_asg {g : TG} {mg : D → Mo Unit} (h : REv c te me) (hg : RTg c g mg) : RSt c (tAsg te g) (sAsg me mg) := by
  intro M σ H ρ S f ρ' hm D q
  obtain ⟨d, ρ1, h1, h2⟩ := mBd_some hm
  obtain ⟨x, ρ2, h3, h4⟩ := mBd_some h2
  obtain ⟨e1, e2⟩ := mC_some (show mC Fl.nx ρ2 = some (f, ρ') from h4)
  subst e1 e2
  exact h M σ H ρ S d ρ1 h1 _ fun M' v H' E S' hd => hg M' σ H' ρ1 S' v d hd x _ h3 _ fun M2 σ2 H2 E2 S2 => q M2 σ2 H2 (E.ev.trans E2.ev) S2
theorem held_setDat {σ : L2.St} {ρ : Cs} {i : Nat} {x : Option V} {d : D} (b : Addr) (l : σ.length = ρ.length) (h : Held (σ.set i x) (ρ.set i (.dat d)) b) : Held σ ρ b := by
  obtain ⟨j, p, e, h1, h2⟩ := h
  by_cases z : i = j
  · subst z
    have l : i < ρ.length := by
      have := (List.getElem?_eq_some_iff.mp h2).1
      simpa using this
    rw [List.getElem?_set_self l] at h2
    cases h2
  · rw [List.getElem?_set_ne z] at h1 h2
    exact ⟨j, p, e, h1, h2⟩
theorem r_gname (i : Nat) : RTg c (gName i) (gNm i) := by
  intro M σ H ρ S v d hd u ρ' hm Q q
  cases hm
  exact q M _ H ⟨.refl, fun _ _ _ h => h, fun b _ _ => held_setDat b S.len.symm, fun _ h _ => h, fun _ h => h⟩ (S.setDat i hd)
theorem r_gnil : RTgs c gNil gsNil := by
  intro M σ H ρ S vs ds hd u ρ' hm Q q
  cases hd with
  | nil => cases hm; exact ⟨rfl, q M σ H .refl S⟩
  | cons _ _ => cases hm
theorem r_gcons {g : TG} {gs : TGs} {mg : D → Mo Unit} {ms : List D → Mo Unit} (h : RTg c g mg) (hs : RTgs c gs ms) : RTgs c (gCons g gs) (gsCons mg ms) := by
  intro M σ H ρ S vs ds hd u ρ' hm Q q
  cases hd with
  | nil => cases hm
  | cons h1 h2 =>
    obtain ⟨x, ρ1, e1, e2⟩ := mBd_some (show mBd (mg _) (fun _ => ms _) ρ = some (u, ρ') from hm)
    refine ⟨_, _, rfl, h M σ H ρ S _ _ h1 x ρ1 e1 _ fun M1 σ1 H1 E1 S1 => ?_⟩
    exact hs M1 σ1 H1 ρ1 S1 _ _ (h2.ev S.kind E1.ev) u ρ' e2 Q fun M2 σ2 H2 E2 S2 => q M2 σ2 H2 (E1.trans E2 S.kind) S2
theorem r_gtup {n : Nat} {gs : TGs} {ms : List D → Mo Unit} (hs : RTgs c gs ms) : RTg c (gTup K n gs) (gTp n ms) := by
  intro M σ H ρ S v d hd u ρ' hm Q q
  cases hd with
  | tup h a =>
    unfold gTp at hm
    simp only at hm
    split at hm
    · rename_i hl
      exact ⟨_, _, rfl, h, by rw [a.length]; exact hl, hs M σ H ρ S _ _ a u ρ' hm Q q⟩
    · cases hm
  | _ => cases hm
theorem owns_some {i : Nat} {ρ : Cs} (h : owns i ρ = true) : ∃ p d, ρ[i]? = some (.own p d) := by
  unfold owns at h
  split at h
  · exact ⟨_, _, by assumption⟩
  · cases h
/-- o[k] = v -/
theorem r_gput {i : Nat} {ti : TE} {mi : Mo D} (hi : REv c ti mi) : RTg c (gSub (tVar i) ti rSetL) (gPut i mi) := by
  intro M σ H ρ S v d hd u ρ' hm Q q
  unfold gPut at hm
  split at hm
  · rename_i hw
    obtain ⟨p0, d0, e0⟩ := owns_some hw
    obtain ⟨a, ha, _⟩ := S.own e0
    obtain ⟨n, ρ1, h1, h2⟩ := mBd_some hm
    unfold putL at h2
    split at h2
    · rename_i p ds e
      split at h2
      · rename_i n' hn
        split at h2
        · rename_i j hj
          cases h2
          refine ⟨_, ha, hi M σ H ρ S _ _ h1 _ fun M1 w H1 E1 S1 hw => ?_⟩
          obtain ⟨a', ha', hM, _, o, ho, hc⟩ := S1.own e
          rw [ha] at ha'
          cases ha'
          cases hc with
          | lst hx =>
            rename_i xs
            refine ⟨a, xs, n', j, rfl, int_of hw hn, ho, by rw [hx.length]; exact hj, ?_⟩
            have hv := (hd.ev S.kind E1.ev)
            have k2 : Kind M1 (upd H1 a (.lst (xs.set j v))) := fun b hb => by
              by_cases z : b = a
              · subst z; exact ⟨_, upd_same, trivial⟩
              · obtain ⟨o, q, m⟩ := S1.kind b hb
                exact ⟨o, by rw [upd_ne z]; exact q, m⟩
            have ev2 : Ev M1 H1 M1 (upd H1 a (.lst (xs.set j v))) := ⟨fun b h => .inl h, fun b o nb h => by rw [upd_ne (fun z => nb (by rw [z]; exact hM))]; exact h⟩
            have E2 := S1.mutE (d' := .lst (ds.set j d)) (H' := upd H1 a (.lst (xs.set j v))) ha e (fun b o nb h => by rw [upd_ne nb]; exact h) ⟨_, upd_same, .lst ((hx.set hv j).ev S1.kind ev2)⟩
            exact q M1 σ _ (E1.trans E2.1 S.kind) E2.2
        · cases h2
      · cases h2
    · cases h2
  · cases hm
end
end DL
namespace L2
open PySem PySem.Spec PyProof.Rows
def Pu (m : Nat) (H : Hp) (p : Addr) : Prop := ∃ d s c : Int, H p = some (.lst [.int d, .int s, .int c]) ∧ Builtin.Int.intBits d ≤ 1048576 ∧ 0 ≤ s ∧ s < 2147483648 ∧ 0 ≤ c ∧ c + (m : Int) ≤ 1000000000
theorem Pu.mono {m n : Nat} {H : Hp} {p : Addr} (h : Pu m H p) (k : n ≤ m) : Pu n H p := by
  obtain ⟨d, s, c, e, a, b, f, g, i⟩ := h
  exact ⟨d, s, c, e, a, b, f, g, by omega⟩
theorem Pu.same {m : Nat} {H H' : Hp} {p : Addr} (h : Pu m H p) (e : Same H H') : Pu m H' p := by
  obtain ⟨d, s, c, q, r⟩ := h
  exact ⟨d, s, c, e _ _ q, r⟩
theorem Pu.ne {m : Nat} {H : Hp} {p q : Addr} (h : Pu m H p) (e : H q = none) : q ≠ p := by
  obtain ⟨d, s, c, z, _⟩ := h
  intro x; subst x; rw [z] at e; cases e
theorem Pu.free {m : Nat} {H H' : Hp} {p q : Addr} (h : Pu m H' p) (e : Sm p H H') (z : H' q = none) : H q = none := by
  obtain ⟨d, s, c, k, _⟩ := h
  exact e.free k z
theorem bits_mono {i j : Int} (h : i.natAbs ≤ j.natAbs) : Builtin.Int.intBits i ≤ Builtin.Int.intBits j := by
  unfold Builtin.Int.intBits
  by_cases hi : i = 0
  · simp [hi]
  · have hj : j ≠ 0 := by omega
    simp only [beq_iff_eq, hi, hj, if_false]
    have a : i.natAbs ≠ 0 := by omega
    have b : j.natAbs ≠ 0 := by omega
    have : 2 ^ i.natAbs.log2 ≤ j.natAbs := Nat.le_trans (Nat.log2_self_le a) h
    have := (Nat.le_log2 b).mpr this
    omega
theorem bits_div {d n : Int} (hd : 0 ≤ d) (hn : 0 < n) : Builtin.Int.intBits (d / n) ≤ Builtin.Int.intBits d := by
  refine bits_mono ?_
  have h1 : 0 ≤ d / n := Int.ediv_nonneg hd (by omega)
  have h2 : d / n ≤ d := Int.ediv_le_self n hd
  omega
end L2
namespace PySem
open Sem (wp)
open AutoSeq1 (wpAny_loadPart')
theorem my_enum_meets (l : Addr) (items : Array Value) (n : Nat) (dct : Option Addr) (sl : Array (Option Value)) :
    Meets (Builtin.«enumerate.__new__» ⟨[.type "enumerate", .ref l], []⟩) (fun _ R s => s.heap.get? l = some { cls := .type "tuple", dict := dct, data := .seq items n, slots := sl } ∧
      R (.ok (.ret (.ref (s.heap.push { cls := .type "tuple_iterator", data := .fields #[.ref l, .int 0 0] }).objs.size)))
        { s with heap := (s.heap.push { cls := .type "tuple_iterator", data := .fields #[.ref l, .int 0 0] }).push { cls := .type "enumerate", data := .fields #[.none, .bool false, .ref s.heap.objs.size, rawInt 0, .none, .none] } }) := by
  refine .of_wp fun prog w A R s h => ?_
  obtain ⟨hp, g, d, tk, os⟩ := s
  obtain ⟨hl, h⟩ := h
  have hsub := sub_enumerate
  have hL : Heap.IsTuple (Shared.heap ⟨hp, g, d, tk, os⟩) l items := ⟨_, hl, rfl, n, rfl⟩
  wp_walk using wpAny_loadPart' hl
  refine wpAny_stack_any fun st => wpAny_pure ?_
  split
  · rename_i c _ _ _ _ _
    cases (c == Value.type "enumerate") <;> (wp_walk using wpAny_loadPart' hl, wpAny_pyIter_tuple hL; exact ⟨_, rfl, h⟩)
  · wp_walk using wpAny_loadPart' hl, wpAny_pyIter_tuple hL
    exact ⟨_, rfl, h⟩
theorem my_enum_tuple {prog : Program} {w : World} {A : Around} {E : Value → Shared → Prop} {s : Shared} {l : Addr} {items : Array Value} {Q : Value → Shared → Prop} (hL : s.heap.IsTuple l items)
    (h : ∀ h', IsEnum h' (s.heap.objs.size + 1) s.heap.objs.size 0 .none → h'.IsTupleIter s.heap.objs.size l 0 → h'.objs.size = s.heap.objs.size + 2 →
      (∀ b o, s.heap.get? b = some o → h'.get? b = some o) → Q (.ref (s.heap.objs.size + 1)) { s with heap := h' }) :
    wpAny (model prog w) A (call (.type "enumerate") [.ref l]) Q E s := by
  obtain ⟨⟨c, dct, dt, sl⟩, hl, hc, n, hd⟩ := hL
  obtain rfl : c = .type "tuple" := hc
  obtain rfl : dt = .seq items n := hd
  have z : (s.heap.push { cls := .type "tuple_iterator", data := .fields #[.ref l, .int 0 0] }).objs.size = s.heap.objs.size + 1 := Heap.size_push ..
  refine callType_new F.called_enumerate (by decide) (F.typeCall_enumerate_1 _) (F.newCall_enumerate_1 _) (fun obj => F.args_object_init_2 obj _) F.entry_enumerate_new (my_enum_meets l items n dct sl) ⟨hl, ?_⟩
  show _ ∧ _
  rw [z]
  have he : IsEnum ((s.heap.push { cls := .type "tuple_iterator", data := .fields #[.ref l, .int 0 0] }).push { cls := .type "enumerate", data := .fields #[.none, .bool false, .ref s.heap.objs.size, rawInt 0, .none, .none] }) (s.heap.objs.size + 1) s.heap.objs.size 0 .none := by
    have q := Heap.get?_push_size (s.heap.push { cls := .type "tuple_iterator", data := .fields #[.ref l, .int 0 0] }) (o := { cls := .type "enumerate", data := .fields #[.none, .bool false, .ref s.heap.objs.size, rawInt 0, .none, .none] }) rfl
    rw [z] at q
    exact q
  exact ⟨⟨_, he, rfl⟩, h _ he ⟨_, Heap.get?_push_of_some _ (Heap.get?_push_size _ rfl), rfl, rfl⟩ (by rw [Heap.size_push, z]) fun b o x => Heap.get?_push_of_some _ (Heap.get?_push_of_some _ x)⟩
end PySem
namespace L2
open PySem PySem.Spec PyProof.Rows
/-- the tuple at a, each item in a new pair with its place -/
def IteT (K : PySem.W.Frag) (a : Addr) : It :=
  ⟨fun i H => ∃ (xs : List V) (x : V), SqT K H a xs ∧ xs[i]? = some x, fun i H v H' => ∃ T x, v = .ref T ∧ H T = none ∧ H' = upd H T (.tup [.int (i : Nat), x]) ∧ ∀ xs, SqT K H a xs → xs[i]? = some x, fun i H => ∃ xs : List V, SqT K H a xs ∧ xs.length ≤ i⟩
theorem my_turn_enum {P : Program} {w : World} {K : PySem.W.Frag} {elts : List Expr} {kk : Nat} {tpos : Pos} (a e it : Addr) (hne : e ≠ it) :
    Turn P w K (.Tuple elts kk tpos) (IteT K a) [e, it] e (fun i h => (∃ old, IsEnum h e it ((i : Nat) : Int) old) ∧ h.IsTupleIter it a i) := by
  have two : ∀ {b : Addr}, b ∈ [e, it] → b = e ∨ b = it := fun hb => by simpa using hb
  constructor
  case mem => simp
  case obj =>
    rintro i h ⟨⟨old, he⟩, o, ho, hc, hd⟩ b hb
    rcases two hb with z | z
    · rw [z]; exact ⟨_, he, fun v q => nomatch q⟩
    · rw [z]; exact ⟨o, ho, fun v q => by rw [hd] at q; cases q⟩
  case keep => exact fun i h h' ⟨⟨old, he⟩, hi⟩ k => ⟨⟨old, k e (by simp) _ he⟩, hi.at fun o q => k it (by simp) o q⟩
  case self => exact fun A i s Q E ⟨⟨_, he⟩, _⟩ h => wpAny_pyIter_enum he h
  case item =>
    intro X hP hw hK hc i pins s σ H E I hf st hg
    subst hP hw hK
    obtain ⟨⟨old, he⟩, hit⟩ := st
    obtain ⟨xs, x, hq, hx⟩ := hg
    obtain ⟨its, rv, p, hz⟩ := I.tuple hq
    obtain ⟨u, hu, ru⟩ := rv.get hx
    have hel : e < s.heap.objs.size := Heap.lt_size he
    have hil : it < s.heap.objs.size := by obtain ⟨_, q, _⟩ := hit; exact Heap.lt_size q
    have tn : a ≠ it := by
      rintro rfl
      obtain ⟨o1, q1, c1, _⟩ := hit
      obtain ⟨o2, q2, c2, _⟩ := p
      rw [q1] at q2; cases q2; rw [c1] at c2; simp at c2
    have te : a ≠ e := by
      rintro rfl
      obtain ⟨o2, q2, c2, _⟩ := p
      rw [he] at q2; cases q2; simp at c2
    have nef : e ∉ [it, a] := fun z => by
      rcases (show e = it ∨ e = a by simpa using z) with z | z
      · exact hne z
      · exact te z.symm
    have hlt : i < its.toArray.size := by
      have := (List.getElem?_eq_some_iff.mp hu).1
      simpa using this
    refine wpAny_pyNext_enum_itemD (Draws.tuple (prog := X.prog) (w := X.w) (A := X.A.in1) (I.ok.hd hc) it a tn its.toArray) he ⟨hit, p⟩ hlt hne nef fun v h' tk hv ho hst hT hsz hk => ?_
    obtain rfl : v = u := by
      have hu' : its.toArray[i]? = some u := by simpa using hu
      rw [hu'] at hv
      exact (Option.some.inj hv).symm
    refine ⟨_, rfl, wpAny_letOwnedTupleGo_enum (s := { s with heap := h', toks := tk + 1 }) ho fun h'' he' sb => ?_⟩
    have hT2 : h''.get? s.heap.objs.size = some { cls := .type "tuple", data := .seq #[.int i tk, v] } := (sb.2 _ (Nat.ne_of_gt hel)).trans hT
    have new : ObjOk X.prog X.w (upd H s.heap.objs.size (.tup [.int (i : Nat), x])) h'' s.heap.objs.size (.tup [.int (i : Nat), x]) :=
      ⟨by show 2 ≤ sizeLine; decide, [.int i tk, v], .cons ⟨_, rfl⟩ (.cons ru .nil), ⟨_, hT2, rfl, _, rfl⟩⟩
    have I1 : Inv X pins σ (upd H s.heap.objs.size (.tup [.int (i : Nat), x])) { s with heap := h'', toks := tk + 1 } :=
      I.turnedNew (ch := [e, it]) (fun b ob hb q => (sb.2 b (fun z => hb (by simp [z]))).trans (hk b ob (fun z => hb (by simp [z])) (fun z => hb (by simp [z])) q)) hf (Nat.le_refl _) new
    refine ⟨.ref s.heap.objs.size, _, I1, rfl, ⟨_, x, rfl, I.hok.fresh (Nat.le_refl _), rfl, fun ys hy => by rw [I.tuple_inj hy hq]; exact hx⟩, ⟨⟨v, ?_⟩, hst.1.at fun o q => (sb.2 it (Ne.symm hne)).trans q⟩, fun b hb => ?_⟩
    · have e1 : ((i + 1 : Nat) : Int) = (i : Int) + 1 := by omega
      rw [e1]; exact he'
    · have hb' : b < s.heap.objs.size := by
        rcases two hb with z | z
        · rw [z]; exact hel
        · rw [z]; exact hil
      rw [upd_ne (Nat.ne_of_lt hb')]
      exact (hf b hb).1
  case done =>
    intro X hP hw hK hc i pins s σ H E I hf st hg
    subst hP hw hK
    obtain ⟨⟨old, he⟩, hit⟩ := st
    obtain ⟨xs, hq, hx⟩ := hg
    obtain ⟨its, rv, p, hz⟩ := I.tuple hq
    obtain ⟨f0, f1, f2, f3, f4, f5⟩ := hf it (by simp)
    have hl := rv.length
    have D : Draws X.prog X.w X.A.in1 it [it, a] 0 (fun _ _ => False) (fun _ h => h.IsTupleIter it a i ∧ h.IsTuple a its.toArray) :=
      { live := fun _ _ st => let ⟨o, ho, _⟩ := st.1; ⟨o, ho⟩
        frame := fun _ _ _ st hk => ⟨st.1.at fun o e => hk it (by simp) o e, st.2.at fun o e => hk a (by simp) o e⟩
        item := fun j s Q E hj => absurd hj (Nat.not_lt_zero _)
        done := fun s Q E st hE => wpAny_nextOf_tuple_end (I.ok.hd hc) st.1 st.2 (by simp; omega) hE }
    exact wpAny_pyNext_enum_endD D he ⟨hit, p⟩ fun h' eb => ⟨rfl, I.turned (t' := s.toks) (fun b o hb q => eb b o hb q) f0 f1 f3 f4 f5⟩
def iEnumT (K : PySem.W.Frag) (ta : TA) : TI := fun σ H R => ta σ H fun vs H1 => ∃ a xs, vs = [.ref a] ∧ SqT K H1 a xs ∧ R (IteT K a) H1
theorem pi_enumT {X : Cx} {e : Expr} {ta : TA} {p pos tpos : Pos} {elts : List Expr} {kk : Nat} (hg : Gl X "enumerate") (hm : X.mg "enumerate" = none) (ha : PA X [e] ta) (hs : starEach [e] X.env = [(false, eval e X.env)] := by rfl) :
    PI X (.Tuple elts kk tpos) (.Call (.Name "enumerate" p) [e] [] pos) (iEnumT X.K ta) := by
  constructor
  intro pins s σ H R I h
  refine Call_ (ld_blt I hg hm boot_enumerate (PyProof.Rows.callWith_type1 (thn (ha.run pos pins s σ H _ I h) fun us s1 ⟨vs, H1, I1, r1, a, xs, ex, hq, q⟩ => ?_) hs rfl))
  subst ex
  obtain ⟨u, rfl, r⟩ := vals1 r1
  cases r
  obtain ⟨its, rv, p', hz⟩ := I1.tuple hq
  refine my_enum_tuple p' fun h' he hit hsz hk => wpAny_pyIter_enum he ?_
  have I2 : Inv X pins σ H1 { s1 with heap := h' } := I1.kept (t' := s1.toks) hk
  refine ⟨s1.heap.objs.size + 1, [s1.heap.objs.size + 1, s1.heap.objs.size], _, _, H1, rfl, I2, my_turn_enum a _ _ (Nat.succ_ne_self _), ⟨⟨.none, he⟩, hit⟩, fun b hb => ?_, q⟩
  have hle : s1.heap.objs.size ≤ b := by
    rcases (show b = s1.heap.objs.size + 1 ∨ b = s1.heap.objs.size by simpa using hb) with z | z
    · rw [z]; exact Nat.le_add_right _ _
    · rw [z]; exact Nat.le_refl _
  exact I1.fpOk hle (I1.hok.fresh hle)
theorem walk_enumT {K : PySem.W.Frag} {a : Addr} {xs : List V} : Walk (IteT K a) xs.length (fun H => SqT K H a xs) (YPair (fun i => some (.int (i : Nat))) (fun i => xs[i]?)) :=
  ⟨fun i _ hi q => ⟨xs, xs[i], q, by simp [hi]⟩, fun _ q => ⟨xs, q, Nat.le_refl _⟩, fun i H v H' _ q ⟨T, x, h1, h2, h3, h4⟩ => ⟨T, .int (i : Nat), x, h1, h2, h3, rfl, h4 xs q⟩⟩
end L2
set_option autoImplicit false
namespace DL
open PySem PySem.Spec PyProof.Rows L2
structure Wk {K : PySem.W.Frag} (c : Ctx K) (M : Addr → Prop) (H : Hp) (J : It) (ds : List D) (G : Hp → Prop) (Y : Nat → Hp → V → Hp → Prop) : Prop where
  w : Walk J ds.length G Y
  g : ∀ M1 H1, Ev M H M1 H1 → G H1
  y : ∀ i M1 H1 x H2, Ev M H M1 H1 → Kind M1 H1 → i < ds.length → Y i H1 x H2 → Same H1 H2 ∧ ∃ d, ds[i]? = some d ∧ Dat K M1 H2 x d
def RIt {K : PySem.W.Frag} (c : Ctx K) (wi : TI) (m : Mo (List D)) : Prop := ∀ M σ H ρ, Sta c M σ H ρ → ∀ ds ρ', m ρ = some (ds, ρ') → ∀ R : It → Hp → Prop,
  (∀ M' H' J G Y, Es σ M H ρ σ M' H' ρ' → Sta c M' σ H' ρ' → Wk c M' H' J ds G Y → R J H') → wi σ H R
structure DI (X : Cx) {K : PySem.W.Frag} (c : Ctx K) (tg e : Expr) (wi : TI) (m : Mo (List D)) : Prop where
  p : PI X tg e wi
  r : RIt c wi m
def seqL : D → Option (List D)
  | .lst ds => some ds
  | _ => none
def seqT : D → Option (List D)
  | .tup ds => some ds
  | _ => none
def iSeq (f : D → Option (List D)) (a : Mo D) : Mo (List D) := mBd a fun d => mL (f d)
def rngD (lo : Int) (n : Nat) : List D := (List.range n).map fun (k : Nat) => D.int (lo + k)
def rng1? : List D → Option (List D)
  | [.int j] => if -(2 ^ 62) ≤ j ∧ j < 2 ^ 62 then some (rngD 0 j.toNat) else none
  | _ => none
def iFn (f : List D → Option (List D)) (a : Mo (List D)) : Mo (List D) := mBd a fun ds => mL (f ds)
def enumD (k : Nat) : List D → List D
  | [] => []
  | d :: r => .tup [.int (k : Nat), d] :: enumD (k + 1) r
def enumT? : List D → Option (List D)
  | [.tup ds] => some (enumD 0 ds)
  | _ => none
theorem rngD_length (lo : Int) (n : Nat) : (rngD lo n).length = n := by simp [rngD]
theorem rngD_get {lo : Int} {n i : Nat} (h : i < n) : (rngD lo n)[i]? = some (.int (lo + i)) := by
  unfold rngD
  rw [List.getElem?_map, List.getElem?_range h]
  rfl
theorem enumD_length : ∀ (k : Nat) (ds : List D), (enumD k ds).length = ds.length
  | _, [] => rfl
  | k, d :: r => by rw [enumD, List.length_cons, List.length_cons, enumD_length]
theorem enumD_get : ∀ {k i : Nat} {ds : List D} {d : D}, ds[i]? = some d → (enumD k ds)[i]? = some (.tup [.int ((k + i : Nat) : Int), d])
  | k, 0, d :: r, _, h => by simp at h; subst h; rfl
  | k, i + 1, d :: r, e, h => by
    have h' : r[i]? = some e := by simpa using h
    have := enumD_get (k := k + 1) h'
    rw [enumD, List.getElem?_cons_succ, this, show k + 1 + i = k + (i + 1) by omega]
  | _, _, [], _, h => by simp at h
section
variable {K : PySem.W.Frag} {c : Ctx K} {te : TE} {me : Mo D} {ta : TA} {ma : Mo (List D)}
theorem r_ilist (h : REv c te me) : RIt c (iList K te) (iSeq seqL me) := by
  intro M σ H ρ S ds ρ' hm R q
  obtain ⟨d, ρ1, h1, h2⟩ := mBd_some hm
  obtain ⟨h3, e⟩ := mL_some h2
  subst e
  refine h M σ H ρ S d _ h1 _ fun M' v H' E S' hd => ?_
  cases d <;> simp [seqL] at h3
  subst h3
  cases hd with
  | lst n hH a =>
    refine ⟨_, rfl, ⟨_, SqL.of hH⟩, q M' H' _ _ _ E S' ⟨by rw [← a.length]; exact walk_list, fun M1 H1 e => SqL.of (e.h _ _ n hH), fun i M1 H1 x H2 e k hi y => ?_⟩⟩
    obtain ⟨rfl, hx⟩ := y
    obtain ⟨d, e1, hd⟩ := (a.ev S'.kind e).get hx
    exact ⟨.refl _, d, e1, hd⟩
theorem r_itup (h : REv c te me) : RIt c (iTup K te) (iSeq seqT me) := by
  intro M σ H ρ S ds ρ' hm R q
  obtain ⟨d, ρ1, h1, h2⟩ := mBd_some hm
  obtain ⟨h3, e⟩ := mL_some h2
  subst e
  refine h M σ H ρ S d _ h1 _ fun M' v H' E S' hd => ?_
  cases d <;> simp [seqT] at h3
  subst h3
  cases hd with
  | tup hH a =>
    refine ⟨_, rfl, ⟨_, hH⟩, q M' H' _ _ _ E S' ⟨by rw [← a.length]; exact walk_tup, fun M1 H1 e => S'.kind.sqT e hH, fun i M1 H1 x H2 e k hi y => ?_⟩⟩
    obtain ⟨rfl, hx⟩ := y
    obtain ⟨d, e1, hd⟩ := (a.ev S'.kind e).get hx
    exact ⟨.refl _, d, e1, hd⟩
theorem wk_range {M : Addr → Prop} {H : Hp} (lo : Int) (n : Nat) : Wk c M H (Itr lo n) (rngD lo n) (fun _ => True) (YFn fun i => .int (lo + i)) := by
  refine ⟨by rw [rngD_length]; exact walk_range, fun _ _ _ => trivial, fun i M1 H1 x H2 e k hi y => ?_⟩
  obtain ⟨rfl, rfl⟩ := y
  rw [rngD_length] at hi
  exact ⟨.refl _, _, rngD_get hi, .int _⟩
theorem r_irng1 (h : RAv c ta ma) : RIt c (iRng1 ta) (iFn rng1? ma) := by
  intro M σ H ρ S ds ρ' hm R q
  obtain ⟨d, ρ1, h1, h2⟩ := mBd_some hm
  obtain ⟨h3, e⟩ := mL_some h2
  subst e
  refine h M σ H ρ S d _ h1 _ fun M' vs H' E S' hd => ?_
  unfold rng1? at h3
  split at h3 <;> try (cases h3; done)
  obtain ⟨⟨a1, a2⟩, rfl⟩ := if_some h3
  obtain ⟨v, rfl, hv⟩ := one_of hd
  cases hv
  exact ⟨_, rfl, a1, a2, q M' H' _ _ _ E S' (wk_range 0 _)⟩
theorem pair_y {M M1 : Addr → Prop} {H1 H2 : Hp} {T : Addr} {x y : V} {d e : D} (hT : H1 T = none) (hH : H2 = upd H1 T (.tup [x, y])) (hd : Dat K M1 H1 x d) (he : Dat K M1 H1 y e) : Same H1 H2 ∧ Dat K M1 H2 (.ref T) (.tup [d, e]) := by
  subst hH
  exact dat_tup hT (.cons hd (.cons he .nil))
theorem r_ienumT (h : RAv c ta ma) : RIt c (iEnumT K ta) (iFn enumT? ma) := by
  intro M σ H ρ S ds ρ' hm R q
  obtain ⟨d, ρ1, h1, h2⟩ := mBd_some hm
  obtain ⟨h3, e⟩ := mL_some h2
  subst e
  refine h M σ H ρ S d _ h1 _ fun M' vs H' E S' hd => ?_
  unfold enumT? at h3
  split at h3 <;> try (cases h3; done)
  cases h3
  obtain ⟨v, rfl, hv⟩ := one_of hd
  cases hv with
  | tup hH a =>
    refine ⟨_, _, rfl, hH, q M' H' _ _ _ E S' ⟨by rw [enumD_length, ← a.length]; exact walk_enumT, fun M1 H1 e => S'.kind.sqT e hH, fun i M1 H1 x H2 e k hi y => ?_⟩⟩
    obtain ⟨T, x1, x2, rfl, hT, hH2, e1, e2⟩ := y
    cases e1
    obtain ⟨d, e3, hd⟩ := (a.ev S'.kind e).get e2
    obtain ⟨s, t⟩ := pair_y (M := M1) hT hH2 (.int _) hd
    exact ⟨s, _, by rw [enumD_get e3, Nat.zero_add], t⟩
end
end DL
set_option autoImplicit false
namespace DL
open PySem PySem.Spec PyProof.Rows L2
section
variable {K : PySem.W.Frag} {c : Ctx K} {wi : TI} {mi : Mo (List D)} {g : TG} {mg : D → Mo Unit} {tb : TS} {mb : Mo Fl}
theorem drop_get {α : Type} {l : List α} {i : Nat} {d : α} (h : l[i]? = some d) : l.drop i = d :: l.drop (i + 1) := by
  obtain ⟨hl, e⟩ := List.getElem?_eq_some_iff.mp h
  rw [← e]
  exact List.drop_eq_getElem_cons hl
theorem r_for (hi : RIt c wi mi) (hg : RTg c g mg) (hb : RSt c tb mb) : RSt c (tFor wi g tb) (sFor mi mg mb) := by
  intro M σ H ρ S f ρ' hm D q
  obtain ⟨ds, ρ1, h1, h2⟩ := mBd_some hm
  refine hi M σ H ρ S ds ρ1 h1 _ fun M' H' J G Y E S' W => ?_
  have q' : Post c M' H' D f ρ' := q.ev E.ev
  refine for_it W.w (fun i σ2 H2 => ∃ M2 ρ2, Ev M' H' M2 H2 ∧ Sta c M2 σ2 H2 ρ2 ∧ goFor mg mb (ds.drop i) ρ2 = some (f, ρ')) ⟨M', ρ1, .refl, S', by rw [List.drop_zero]; exact h2⟩ (fun i σ2 H2 _ ⟨M2, ρ2, e, _, _⟩ => W.g M2 H2 e) ?_ ?_
  · rintro i x σ2 H2 H3 hlt ⟨M2, ρ2, e2, S2, go⟩ y
    obtain ⟨s3, d, hd, dx⟩ := W.y i M2 H2 x H3 e2 S2.kind hlt y
    rw [drop_get hd] at go
    unfold goFor at go
    cases e3 : mg d ρ2 with
    | none => rw [e3] at go; cases go
    | some r =>
      obtain ⟨u, ρ3⟩ := r
      rw [e3] at go
      simp only at go
      refine hg M2 σ2 H3 ρ2 (S2.same s3) x d dx u ρ3 e3 _ fun M4 σ4 H4 E4 S4 => ?_
      have e4 : Ev M' H' M4 H4 := (e2.trans (.same s3)).trans E4.ev
      cases e5 : mb ρ3 with
      | none => rw [e5] at go; cases go
      | some r5 =>
        obtain ⟨f5, ρ5⟩ := r5
        rw [e5] at go
        refine hb M4 σ4 H4 ρ3 S4 f5 ρ5 e5 _ ?_
        cases f5 with
        | nx => exact fun M6 σ6 H6 E6 S6 => ⟨M6, ρ5, e4.trans E6, S6, go⟩
        | ct => exact fun M6 σ6 H6 E6 S6 => ⟨M6, ρ5, e4.trans E6, S6, go⟩
        | bk =>
          cases go
          exact fun M6 σ6 H6 E6 S6 => q' M6 σ6 H6 (e4.trans E6) S6
        | rt d =>
          cases go
          exact fun M6 σ6 v H6 E6 S6 hd => q' M6 σ6 v H6 (e4.trans E6) S6 hd
        | rn d =>
          cases go
          exact fun M6 σ6 a H6 E6 S6 n => q' M6 σ6 a H6 (e4.trans E6) S6 n
  · rintro σ2 H2 ⟨M2, ρ2, e2, S2, go⟩
    rw [List.drop_length] at go
    cases go
    exact q' M2 σ2 H2 e2 S2
end
/-- the comprehension's own slots, forgotten; put back -/
def clr : List Nat → Cs → Cs
  | [], ρ => ρ
  | v :: vs, ρ => (clr vs ρ).set v .no
def back : List Nat → Cs → Cs → Cs
  | [], _, ρ => ρ
  | v :: vs, ρ0, ρ => match ρ0[v]? with
    | some x => (back vs ρ0 ρ).set v x
    | none => back vs ρ0 ρ
/-- none of them is owned -/
def free (vs : List Nat) (ρ : Cs) : Bool := vs.all fun v => match ρ[v]? with
  | some (.own _ _) => false
  | _ => true
def goLc (vs : List Nat) (g : D → Mo Unit) (t : Mo Bool) (e : Mo D) : List D → List D → Mo (List D)
  | [], acc, ρ => some (acc, ρ)
  | d :: ds, acc, ρ => match g d (clr vs ρ) with
    | none => none
    | some (_, ρ1) => match t ρ1 with
      | none => none
      | some (false, ρ2) => goLc vs g t e ds acc ρ2
      | some (true, ρ2) => match e ρ2 with
        | none => none
        | some (y, ρ3) => if acc.length < sizeLine then goLc vs g t e ds (acc ++ [y]) ρ3 else none
def mLc (vs : List Nat) (it : Mo (List D)) (g : D → Mo Unit) (t : Mo Bool) (e : Mo D) : Mo D := mBd it fun ds ρ0 => if free vs ρ0 = true then (match goLc vs g t e ds [] (clr vs ρ0) with
  | some (acc, ρ1) => some (.lst acc, back vs ρ0 (clr vs ρ1))
  | none => none) else none
theorem clr_length : ∀ (vs : List Nat) (ρ : Cs), (clr vs ρ).length = ρ.length
  | [], _ => rfl
  | v :: vs, ρ => by rw [clr, List.length_set, clr_length vs ρ]
theorem clr_out : ∀ {vs : List Nat} {ρ : Cs} {i : Nat}, i ∉ vs → (clr vs ρ)[i]? = ρ[i]?
  | [], _, _, _ => rfl
  | v :: vs, ρ, i, h => by
    rw [clr, List.getElem?_set_ne (fun z => h (by rw [z]; exact List.mem_cons_self)), clr_out fun z => h (List.mem_cons_of_mem _ z)]
theorem clr_in : ∀ {vs : List Nat} {ρ : Cs} {i : Nat}, i ∈ vs → i < ρ.length → (clr vs ρ)[i]? = some .no
  | v :: vs, ρ, i, h, hl => by
    rw [clr]
    by_cases z : v = i
    · subst z
      rw [List.getElem?_set_self (by rw [clr_length]; exact hl)]
    · rw [List.getElem?_set_ne z]
      exact clr_in ((List.mem_cons.mp h).elim (fun e => (z e.symm).elim) id) hl
theorem back_length : ∀ (vs : List Nat) (ρ0 ρ : Cs), (back vs ρ0 ρ).length = ρ.length
  | [], _, _ => rfl
  | v :: vs, ρ0, ρ => by
    rw [back]
    split
    · rw [List.length_set, back_length vs ρ0 ρ]
    · exact back_length vs ρ0 ρ
theorem back_out : ∀ {vs : List Nat} {ρ0 ρ : Cs} {i : Nat}, i ∉ vs → (back vs ρ0 ρ)[i]? = ρ[i]?
  | [], _, _, _, _ => rfl
  | v :: vs, ρ0, ρ, i, h => by
    rw [back]
    split
    · rw [List.getElem?_set_ne (fun z => h (by rw [z]; exact List.mem_cons_self)), back_out fun z => h (List.mem_cons_of_mem _ z)]
    · exact back_out fun z => h (List.mem_cons_of_mem _ z)
theorem back_in : ∀ {vs : List Nat} {ρ0 ρ : Cs} {i : Nat} {x : Cell}, i ∈ vs → ρ0[i]? = some x → i < ρ.length → (back vs ρ0 ρ)[i]? = some x
  | v :: vs, ρ0, ρ, i, x, h, hx, hl => by
    rw [back]
    by_cases z : v = i
    · subst z
      rw [hx]
      simp only
      rw [List.getElem?_set_self (by rw [back_length]; exact hl)]
    · have h' : i ∈ vs := (List.mem_cons.mp h).elim (fun e => (z e.symm).elim) id
      split
      · rw [List.getElem?_set_ne z]
        exact back_in h' hx hl
      · exact back_in h' hx hl
theorem wipe_no : ∀ {vs : List Nat} {σ : L2.St} {i : Nat}, i ∈ vs → i < σ.length → (wipe σ vs)[i]? = some none
  | v :: vs, σ, i, h, hl => by
    show ((wipe σ vs).set v none)[i]? = some none
    by_cases z : v = i
    · subst z
      rw [List.getElem?_set_self (by rw [wipe_length]; exact hl)]
    · rw [List.getElem?_set_ne z]
      exact wipe_no ((List.mem_cons.mp h).elim (fun e => (z e.symm).elim) id) hl
section
variable {K : PySem.W.Frag} {c : Ctx K} {M M1 : Addr → Prop} {σ : L2.St} {H H1 : Hp} {ρ ρ1 : Cs}
/-- the state within the comprehension -/
theorem Sta.clr (S : Sta c M σ H ρ) (vs : List Nat) : Sta c M (wipe σ vs) H (DL.clr vs ρ) := by
  refine ⟨S.pm, S.sub, S.new, S.kind, S.base, by rw [clr_length, wipe_length]; exact S.len, fun i x y h1 h2 => ?_, fun i j a p q d e a1 a2 a3 a4 => ?_⟩
  · by_cases z : i ∈ vs
    · have hl : i < ρ.length := by
        have := (List.getElem?_eq_some_iff.mp h2).1
        rw [clr_length] at this; exact this
      rw [clr_in z hl] at h2
      cases h2
      exact .no _
    · rw [clr_out z] at h2
      rw [wipe_out z] at h1
      exact S.cell i x y h1 h2
  · have out : ∀ {n : Nat} {q : Bool} {e : D}, (DL.clr vs ρ)[n]? = some (.own q e) → n ∉ vs := fun {n q e} h z => by
      have hl : n < ρ.length := by
        have := (List.getElem?_eq_some_iff.mp h).1
        rw [clr_length] at this; exact this
      rw [clr_in z hl] at h
      cases h
    rw [clr_out (out a2)] at a2
    rw [clr_out (out a4)] at a4
    have w : ∀ {n : Nat} {b : Addr}, (wipe σ vs)[n]? = some (some (.ref b)) → σ[n]? = some (some (.ref b)) := fun h => (wipe_some h).1
    exact S.inj i j a p q d e (w a1) a2 (w a3) a4
theorem held_clr {vs : List Nat} {b : Addr} (hl : σ.length = ρ.length) : Held (wipe σ vs) (clr vs ρ) b → Held σ ρ b := by
  rintro ⟨i, p, d, h1, h2⟩
  have out : i ∉ vs := fun z => by
    have hl : i < ρ.length := by
      have := (List.getElem?_eq_some_iff.mp h2).1
      rw [clr_length] at this; exact this
    rw [clr_in z hl] at h2
    cases h2
  rw [clr_out out] at h2
  exact ⟨i, p, d, (wipe_some h1).1, h2⟩
/-- .. and behind it -/
theorem wipe_same {σ σ1 : L2.St} {vs : List Nat} (hw : wipe σ1 vs = wipe σ vs) {i : Nat} (z : i ∉ vs) : σ1[i]? = σ[i]? := by
  rw [← wipe_out (σ := σ1) z, hw, wipe_out z]
theorem Sta.back {σ1 : L2.St} (S : Sta c M σ H ρ) (vs : List Nat) (hf : DL.free vs ρ = true) (E : Ev M H M1 H1) (hw : wipe σ1 vs = wipe σ vs) (S1 : Sta c M1 σ1 H1 ρ1) : Sta c M1 σ H1 (DL.back vs ρ (DL.clr vs ρ1)) := by
  have len1 : ρ1.length = σ.length := by rw [S1.len, ← wipe_length σ1 vs, hw, wipe_length]
  have own_out : ∀ {n : Nat} {q : Bool} {e : D}, (DL.back vs ρ (DL.clr vs ρ1))[n]? = some (.own q e) → n ∉ vs ∧ ρ1[n]? = some (.own q e) := fun {n q e} h => by
    have hl : n < ρ1.length := by
      have := (List.getElem?_eq_some_iff.mp h).1
      rw [back_length, clr_length] at this; exact this
    by_cases z : n ∈ vs
    · exfalso
      have hn : n < ρ.length := by rw [S.len, ← len1]; exact hl
      have e1 : ρ[n]? = some ρ[n] := List.getElem?_eq_getElem hn
      rw [back_in z e1 (by rw [clr_length]; exact hl)] at h
      have h' := Option.some.inj h
      have := List.all_eq_true.mp hf n z
      rw [e1, h'] at this
      cases this
    · rw [back_out z, clr_out z] at h
      exact ⟨z, h⟩
  refine ⟨S.pm, S1.sub, S1.new, S1.kind, S1.base, by rw [back_length, clr_length]; exact len1, fun i x y h1 h2 => ?_, fun i j a p q d e a1 a2 a3 a4 => ?_⟩
  · by_cases z : i ∈ vs
    · have hl : i < ρ1.length := by
        have := (List.getElem?_eq_some_iff.mp h2).1
        rw [back_length, clr_length] at this; exact this
      have hn : i < ρ.length := by rw [S.len, ← len1]; exact hl
      have e1 : ρ[i]? = some ρ[i] := List.getElem?_eq_getElem hn
      rw [back_in z e1 (by rw [clr_length]; exact hl)] at h2
      have h' := Option.some.inj h2
      have hc := S.cell i x _ h1 e1
      rw [h'] at hc
      cases hc with
      | no => exact .no _
      | dat q => exact .dat (q.ev S.kind E)
      | own m p q =>
        have := List.all_eq_true.mp hf i z
        rw [e1, h'] at this
        cases this
    · rw [back_out z, clr_out z] at h2
      exact S1.cell i x y (by rw [wipe_same hw z]; exact h1) h2
  · obtain ⟨z1, b1⟩ := own_out a2
    obtain ⟨z2, b2⟩ := own_out a4
    exact S1.inj i j a p q d e (by rw [wipe_same hw z1]; exact a1) b1 (by rw [wipe_same hw z2]; exact a3) b2
theorem held_back {σ1 : L2.St} {vs : List Nat} {ρ0 : Cs} {b : Addr} (l0 : ρ0.length = σ.length) (l1 : ρ1.length = σ.length) (hf : free vs ρ0 = true) (hw : wipe σ1 vs = wipe σ vs) : Held σ (back vs ρ0 (clr vs ρ1)) b → Held σ1 ρ1 b := by
  rintro ⟨i, p, d, h1, h2⟩
  have hl : i < ρ1.length := by
    have := (List.getElem?_eq_some_iff.mp h2).1
    rw [back_length, clr_length] at this; exact this
  by_cases z : i ∈ vs
  · exfalso
    have hn : i < ρ0.length := by rw [l0, ← l1]; exact hl
    have e1 : ρ0[i]? = some ρ0[i] := List.getElem?_eq_getElem hn
    rw [back_in z e1 (by rw [clr_length]; exact hl)] at h2
    have h' := Option.some.inj h2
    have := List.all_eq_true.mp hf i z
    rw [e1, h'] at this
    cases this
  · rw [back_out z, clr_out z] at h2
    exact ⟨i, p, d, by rw [wipe_same hw z]; exact h1, h2⟩
/-- an object that is being made, not yet in a slot, is changed -/
theorem Sta.put {a : Addr} {o : HO} (S : Sta c M σ H ρ) (hM : M a) (h0 : c.H0 a = none) (nh : ¬ Held σ ρ a) (hm : MutK o) : Ev M H M (upd H a o) ∧ Sta c M σ (upd H a o) ρ := by
  have E : Ev M H M (upd H a o) := ⟨fun b h => .inl h, fun b u n h => by rw [upd_ne (fun z => n (by rw [z]; exact hM))]; exact h⟩
  refine ⟨E, S.pm, S.sub, S.new, fun b hb => ?_, fun b u n h => ?_, S.len, fun i x y h1 h2 => ?_, S.inj⟩
  · by_cases z : b = a
    · subst z; exact ⟨_, upd_same, hm⟩
    · obtain ⟨u, q, m⟩ := S.kind b hb
      exact ⟨u, by rw [upd_ne z]; exact q, m⟩
  · rw [upd_ne (fun z => by rw [z, h0] at h; cases h)]
    exact S.base b u n h
  · cases S.cell i x y h1 h2 with
    | no => exact .no _
    | dat q => exact .dat (q.ev S.kind E)
    | own m q w =>
      rename_i p' a' d'
      have ne : a' ≠ a := fun z => nh ⟨i, p', d', by rw [← z]; exact h1, h2⟩
      exact .own m q (w.elim fun u r => ⟨u, by rw [upd_ne ne]; exact r.1, r.2.ev S.kind E⟩)
end
/-- the target is the comprehension's own -/
def OwnG (g : TG) (vs : List Nat) : Prop := ∀ v σ H w (Q : L2.St → Hp → Prop), wipe σ vs = w → g v σ H (fun σ2 H2 => wipe σ2 vs = w → Q σ2 H2) → g v σ H fun σ2 H2 => wipe σ2 vs = w ∧ Q σ2 H2
def OwnGs (g : TGs) (vs : List Nat) : Prop := ∀ v σ H w (Q : L2.St → Hp → Prop), wipe σ vs = w → g v σ H (fun σ2 H2 => wipe σ2 vs = w → Q σ2 H2) → g v σ H fun σ2 H2 => wipe σ2 vs = w ∧ Q σ2 H2
theorem wipe_set {σ : L2.St} {vs : List Nat} {i : Nat} {x : Option V} (h : i ∈ vs) : wipe (σ.set i x) vs = wipe σ vs := by
  refine List.ext_getElem? fun j => ?_
  by_cases z : j ∈ vs
  · by_cases l : j < σ.length
    · rw [wipe_no z (by rw [List.length_set]; exact l), wipe_no z l]
    · rw [List.getElem?_eq_none (by rw [wipe_length, List.length_set]; omega), List.getElem?_eq_none (by rw [wipe_length]; omega)]
  · rw [wipe_out z, wipe_out z, List.getElem?_set_ne fun e => z (by rw [← e]; exact h)]
theorem wipe_wipe {σ : L2.St} {vs : List Nat} : wipe (wipe σ vs) vs = wipe σ vs := by
  refine List.ext_getElem? fun j => ?_
  by_cases z : j ∈ vs
  · by_cases l : j < σ.length
    · rw [wipe_no z (by rw [wipe_length]; exact l), wipe_no z l]
    · rw [List.getElem?_eq_none (by rw [wipe_length, wipe_length]; omega), List.getElem?_eq_none (by rw [wipe_length]; omega)]
  · rw [wipe_out z]
theorem own_name {i : Nat} {vs : List Nat} (h : i ∈ vs) : OwnG (gName i) vs := fun v σ H w Q e q => ⟨by rw [wipe_set h]; exact e, q (by rw [wipe_set h]; exact e)⟩
theorem own_nil {vs : List Nat} : OwnGs gNil vs := fun v σ H w Q e q => ⟨q.1, e, q.2 e⟩
/-- a target that asks less when less is wanted -/
theorem own_cons {g : TG} {gs : TGs} {vs : List Nat} (h : OwnG g vs) (hs : OwnGs gs vs) (mono : ∀ v σ H (Q Q' : L2.St → Hp → Prop), (∀ s h, Q s h → Q' s h) → g v σ H Q → g v σ H Q') : OwnGs (gCons g gs) vs := fun v σ H w Q e q => by
  obtain ⟨x, r, rfl, q⟩ := q
  refine ⟨x, r, rfl, mono _ _ _ _ _ (fun s h' z => z.2) (h x σ H w (fun σ' H' => gs r σ' H' fun σ2 H2 => wipe σ2 vs = w ∧ Q σ2 H2) e ?_)⟩
  exact mono _ _ _ _ _ (fun s h' z e' => hs r s h' w Q e' z) q
theorem own_tup {K : PySem.W.Frag} {n : Nat} {gs : TGs} {vs : List Nat} (hs : OwnGs gs vs) : OwnG (gTup K n gs) vs := fun v σ H w Q e q => by
  obtain ⟨a, xs, h1, h2, h3, q⟩ := q
  exact ⟨a, xs, h1, h2, h3, hs xs σ H w Q e q⟩
theorem mono_name {i : Nat} : ∀ v σ H (Q Q' : L2.St → Hp → Prop), (∀ s h, Q s h → Q' s h) → gName i v σ H Q → gName i v σ H Q' := fun _ _ _ _ _ h q => h _ _ q
section
variable {K : PySem.W.Frag} {c : Ctx K} {wi : TI} {mi : Mo (List D)} {g : TG} {mg : D → Mo Unit} {tt : TT} {mt : Mo Bool} {te : TE} {me : Mo D}
theorem r_yes : RTt c tYes (mC true) := by
  intro M σ H ρ S b ρ' hm Q q
  obtain ⟨e1, e2⟩ := mC_some hm
  subst e1 e2
  exact q M H .refl S
theorem r_lc {vs : List Nat} (hi : RIt c wi mi) (hg : RTg c g mg) (ho : OwnG g vs) (ht : RTt c tt mt) (he : REv c te me) : RNw c (tLc wi g tt te vs) (mLc vs mi mg mt me) := by
  intro M σ H ρ S d ρ' hm Q q
  obtain ⟨ds, ρ0, h1, h2⟩ := mBd_some hm
  split at h2
  case isFalse => cases h2
  rename_i hf
  refine hi M σ H ρ S ds ρ0 h1 _ fun M' H' J G Y E S' W => fun D hD => ?_
  cases go0 : goLc vs mg mt me ds [] (clr vs ρ0) with
  | none => rw [go0] at h2; cases h2
  | some r0 =>
    obtain ⟨accf, ρf⟩ := r0
    rw [go0] at h2
    cases h2
    obtain ⟨eD, sD, nD⟩ := S'.nw (o := .lst []) (d := .lst []) hD (same_new hD) upd_same (.lst .nil)
    have h0D := nD.h0
    have n0D := nD.n0
    -- the invariant
    refine lc_it W.w (fun i Hi => ∃ M1 σ1 ρ1 acc accd, wipe σ1 vs = wipe σ vs ∧ Sta c M1 σ1 Hi ρ1 ∧ Es σ M' H' ρ0 σ1 M1 Hi ρ1 ∧ M1 D ∧ ¬ Held σ1 ρ1 D ∧ Hi D = some (.lst acc) ∧ DatAll K M1 Hi acc accd ∧ goLc vs mg mt me (ds.drop i) accd ρ1 = some (accf, ρf)) ?_ (fun i Hi _ ⟨M1, σ1, ρ1, _, _, _, _, e, _⟩ => W.g M1 Hi e.ev) ?_ ?_
    · refine ⟨_, wipe σ vs, clr vs ρ0, [], [], wipe_wipe, sD.clr vs, ⟨eD.ev, eD.kp, fun b o h z => held_clr S'.len.symm z, eD.mc, eD.dm⟩, nD.m, fun z => nD.nh (held_clr S'.len.symm z), upd_same, .nil, by rw [List.drop_zero]; exact go0⟩
    · rintro i x Hi H3 hlt ⟨M1, σ1, ρ1, acc, accd, hw, S1, E1, mD, hD1, aD, dacc, go⟩ y
      obtain ⟨s3, dv, hd, dx⟩ := W.y i M1 Hi x H3 E1.ev S1.kind hlt y
      rw [drop_get hd] at go
      unfold goLc at go
      have S3 : Sta c M1 (wipe σ vs) H3 (clr vs ρ1) := by rw [← hw]; exact (S1.same s3).clr vs
      have E3 : Es σ1 M1 Hi ρ1 (wipe σ vs) M1 H3 (clr vs ρ1) := by
        rw [← hw]
        exact ⟨.same s3, fun b o _ h => s3 b o h, fun b o _ z => held_clr S1.len.symm z, fun _ h _ => h, fun _ h => s3.free h⟩
      cases e4 : mg dv (clr vs ρ1) with
      | none => rw [e4] at go; cases go
      | some r4 =>
        obtain ⟨u4, ρ4⟩ := r4
        rw [e4] at go
        simp only at go
        refine ho x (wipe σ vs) H3 (wipe σ vs) _ wipe_wipe (hg M1 (wipe σ vs) H3 (clr vs ρ1) S3 x dv dx u4 ρ4 e4 _ fun M4 σ4 H4 E4 S4 => ?_)
        · intro hw4
          have E14 : Es σ1 M1 Hi ρ1 σ4 M4 H4 ρ4 := E3.trans E4 S1.kind
          cases e5 : mt ρ4 with
          | none => rw [e5] at go; cases go
          | some r5 =>
            obtain ⟨b5, ρ5⟩ := r5
            rw [e5] at go
            refine ht M4 σ4 H4 ρ4 S4 b5 ρ5 e5 _ fun M5 H5 E5 S5 => ?_
            have E15 : Es σ1 M1 Hi ρ1 σ4 M5 H5 ρ5 := E14.trans E5 S1.kind
            cases b5 with
            | false =>
              rw [if_neg (by decide)]
              exact ⟨M5, σ4, ρ5, acc, accd, hw4, S5, E1.trans E15 S'.kind, E15.mc D mD hD1, fun z => hD1 (E15.hs D _ aD z), E15.kp D _ hD1 aD, dacc.ev S1.kind E15.ev, go⟩
            | true =>
              rw [if_pos rfl]
              simp only at go
              cases e6 : me ρ5 with
              | none => rw [e6] at go; cases go
              | some r6 =>
                obtain ⟨dy, ρ6⟩ := r6
                rw [e6] at go
                simp only at go
                split at go
                case isFalse => cases go
                rename_i hlen
                refine he M5 σ4 H5 ρ5 S5 dy ρ6 e6 _ fun M6 yv H6 E6 S6 dyv => ?_
                have E16 : Es σ1 M1 Hi ρ1 σ4 M6 H6 ρ6 := E15.trans E6 S1.kind
                have a6 := E16.kp D _ hD1 aD
                have m6 := E16.mc D mD hD1
                have h6 : ¬ Held σ4 ρ6 D := fun z => hD1 (E16.hs D _ aD z)
                obtain ⟨E7, S7⟩ := S6.put (o := .lst (acc ++ [yv])) m6 h0D h6 trivial
                refine ⟨acc, a6, by rw [dacc.length]; exact hlen, M6, σ4, ρ6, acc ++ [yv], accd ++ [dy], hw4, S7, ?_, m6, h6, upd_same, ((dacc.ev S1.kind E16.ev).append (.cons dyv .nil)).ev S6.kind E7, go⟩
                have E' := E1.trans E16 S'.kind
                refine ⟨E'.ev.trans E7, fun b o n h => ?_, E'.hs, E'.mc, fun b h => E'.dm b ?_⟩
                · rw [upd_ne (fun z => by rw [z, hD] at h; cases h)]
                  exact E'.kp b o n h
                · by_cases z : b = D
                  · subst z; rw [upd_same] at h; cases h
                  · rw [upd_ne z] at h; exact h
    · rintro Hi ⟨M1, σ1, ρ1, acc, accd, hw, S1, E1, mD, hD1, aD, dacc, go⟩
      rw [List.drop_length] at go
      cases go
      have len1 : ρf.length = σ.length := by rw [S1.len, ← wipe_length σ1 vs, hw, wipe_length]
      have Sb := S'.back vs hf E1.ev hw S1
      have hb : ∀ b, Held σ (back vs ρ0 (clr vs ρf)) b → Held σ1 ρf b := fun b => held_back S'.len len1 hf hw
      exact q M1 D Hi (E.dm D hD) (E.trans ⟨E1.ev, E1.kp, fun b o h z => E1.hs b o h (hb b z), E1.mc, E1.dm⟩ S.kind) Sb ⟨mD, fun z => hD1 (hb D z), h0D, n0D, _, aD, .lst dacc⟩
end
end DL
set_option autoImplicit false
namespace DL
open PySem PySem.Spec PyProof.Rows L2
inductive Items {K : PySem.W.Frag} (c : Ctx K) (M : Addr → Prop) (σ : L2.St) (H : Hp) (ρ : Cs) : List V → List D → List Bool → List Addr → Prop
  | nil : Items c M σ H ρ [] [] [] []
  | dat {v : V} {d : D} {vs : List V} {ds : List D} {fs : List Bool} {as : List Addr} : Dat K M H v d → Items c M σ H ρ vs ds fs as → Items c M σ H ρ (v :: vs) (d :: ds) (false :: fs) as
  | new {a : Addr} {d : D} {vs : List V} {ds : List D} {fs : List Bool} {as : List Addr} : Nw c M σ H ρ a d → a ∉ as → Items c M σ H ρ vs ds fs as → Items c M σ H ρ (.ref a :: vs) (d :: ds) (true :: fs) (a :: as)
def stAll : List Nat → List Bool → List D → Cs → Option Cs
  | [], [], [], ρ => some ρ
  | i :: is, b :: bs, d :: ds, ρ => stAll is bs ds (ρ.set i (if b = true then .own false d else .dat d))
  | _, _, _, _ => none
def svAll : List Nat → List V → L2.St → L2.St
  | i :: is, v :: vs, σ => svAll is vs (σ.set i (some v))
  | _, _, σ => σ
section
variable {K : PySem.W.Frag} {c : Ctx K} {M M' : Addr → Prop} {σ σ' : L2.St} {H H' : Hp} {ρ ρ' : Cs}
theorem Items.es (k : Kind M H) (e : Es σ M H ρ σ' M' H' ρ') {vs : List V} {ds : List D} {fs : List Bool} {as : List Addr} (h : Items c M σ H ρ vs ds fs as) : Items c M' σ' H' ρ' vs ds fs as := by
  induction h with
  | nil => exact .nil
  | dat q _ ih => exact .dat (q.ev k e.ev) ih
  | new q n _ ih => exact .new (q.es k e) n ih
/-- a name takes a new object: the others stay -/
theorem Items.taken {i : Nat} {a : Addr} {d : D} {vs : List V} {ds : List D} {fs : List Bool} {as : List Addr} (h : Items c M σ H ρ vs ds fs as) (n : a ∉ as) : Items c M (σ.set i (some (.ref a))) H (ρ.set i (.own false d)) vs ds fs as := by
  induction h with
  | nil => exact .nil
  | dat q _ ih => exact .dat q (ih n)
  | @new b _ _ _ _ _ q n' _ ih =>
    have nb : b ≠ a := fun z => n (by rw [z]; exact List.mem_cons_self)
    refine .new ⟨q.m, fun z => ?_, q.h0, q.n0, q.o⟩ n' (ih fun z => n (List.mem_cons_of_mem _ z))
    obtain ⟨j, p, e, h1, h2⟩ := z
    by_cases w : i = j
    · subst w
      by_cases l : i < σ.length
      · rw [List.getElem?_set_self l] at h1
        cases h1
        exact nb rfl
      · rw [List.getElem?_eq_none (by rw [List.length_set]; omega)] at h1
        cases h1
    · rw [List.getElem?_set_ne w] at h1 h2
      exact q.nh ⟨j, p, e, h1, h2⟩
theorem Items.setDat {i : Nat} {v : V} {d : D} {vs : List V} {ds : List D} {fs : List Bool} {as : List Addr} (l : σ.length = ρ.length) (h : Items c M σ H ρ vs ds fs as) : Items c M (σ.set i (some v)) H (ρ.set i (.dat d)) vs ds fs as := by
  induction h with
  | nil => exact .nil
  | dat q _ ih => exact .dat q ih
  | new q n' _ ih => exact .new ⟨q.m, fun z => q.nh (held_setDat _ l z), q.h0, q.n0, q.o⟩ n' ih
theorem Items.store : ∀ {is : List Nat} {vs : List V} {ds : List D} {fs : List Bool} {as : List Addr} {σ : L2.St} {ρ ρ' : Cs}, Sta c M σ H ρ → Items c M σ H ρ vs ds fs as → stAll is fs ds ρ = some ρ' → Sta c M (svAll is vs σ) H ρ'
  | [], _, _, _, _, σ, ρ, ρ', S, .nil, e => by cases e; exact S
  | [], _, _, _, _, σ, ρ, ρ', S, .dat _ _, e => by cases e
  | [], _, _, _, _, σ, ρ, ρ', S, .new _ _ _, e => by cases e
  | _ :: _, _, _, _, _, σ, ρ, ρ', S, .nil, e => by cases e
  | i :: is, _, _, _, _, σ, ρ, ρ', S, .dat q r, e => Items.store (is := is) (S.setDat i q) (r.setDat S.len.symm) e
  | i :: is, _, _, _, _, σ, ρ, ρ', S, .new q n r, e => Items.store (is := is) (S.takeN q i) (r.taken n) e
end
def RAf {K : PySem.W.Frag} (c : Ctx K) (t : TA) (fs : List Bool) (m : Mo (List D)) : Prop := ∀ M σ H ρ, Sta c M σ H ρ → ∀ ds ρ', m ρ = some (ds, ρ') → ∀ Q : List V → Hp → Prop,
  (∀ M' vs H' as, (∀ a ∈ as, H a = none) → Es σ M H ρ σ M' H' ρ' → Sta c M' σ H' ρ' → Items c M' σ H' ρ' vs ds fs as → Q vs H') → t σ H Q
structure DF (X : Cx) {K : PySem.W.Frag} (c : Ctx K) (es : List Expr) (t : TA) (fs : List Bool) (m : Mo (List D)) : Prop where
  p : PA X es t
  r : RAf c t fs m
def sPar (is : List Nat) (fs : List Bool) (m : Mo (List D)) : Mo Fl := mBd m fun ds ρ => match stAll is fs ds ρ with
  | some ρ' => some (.nx, ρ')
  | none => none
def gNames : List Nat → TGs
  | [] => gNil
  | i :: is => gCons (gName i) (gNames is)
theorem gNames_run : ∀ {is : List Nat} {vs : List V} {σ : L2.St} {H : Hp} {Q : L2.St → Hp → Prop}, vs.length = is.length → Q (svAll is vs σ) H → gNames is vs σ H Q
  | [], [], _, _, _, _, q => ⟨rfl, q⟩
  | i :: is, v :: vs, σ, H, Q, h, q => ⟨v, vs, rfl, gNames_run (by simpa using h) q⟩
  | [], _ :: _, _, _, _, h, _ => by simp at h
  | _ :: _, [], _, _, _, h, _ => by simp at h
section
variable {K : PySem.W.Frag} {c : Ctx K} {te : TE} {me : Mo D} {tl : TA} {ml : Mo (List D)} {fs : List Bool}
theorem r_fnil : RAf c tNil [] aNil := by
  intro M σ H ρ S ds ρ' hm Q q
  obtain ⟨e1, e2⟩ := mC_some hm
  subst e1 e2
  exact q M [] H [] (fun _ h => nomatch h) .refl S .nil
theorem r_fdat (ha : REv c te me) (hr : RAf c tl fs ml) : RAf c (tCons te tl) (false :: fs) (aCons me ml) := by
  intro M σ H ρ S ds ρ' hm Q q
  obtain ⟨x, ρ1, h1, hm1⟩ := mBd_some hm
  obtain ⟨xs, ρ2, h2, hm2⟩ := mBd_some hm1
  obtain ⟨e1, e2⟩ := mC_some hm2
  subst e1 e2
  exact ha M σ H ρ S x ρ1 h1 _ fun M1 v H1 E1 S1 d1 => hr M1 σ H1 ρ1 S1 xs _ h2 _ fun M2 vs H2 as hf E2 S2 d2 => q M2 _ H2 as (fun a ha => E1.dm a (hf a ha)) (E1.trans E2 S.kind) S2 (.dat (d1.ev S1.kind E2.ev) d2)
theorem r_fnew (ha : RNw c te me) (hr : RAf c tl fs ml) : RAf c (tCons te tl) (true :: fs) (aCons me ml) := by
  intro M σ H ρ S ds ρ' hm Q q
  obtain ⟨x, ρ1, h1, hm1⟩ := mBd_some hm
  obtain ⟨xs, ρ2, h2, hm2⟩ := mBd_some hm1
  obtain ⟨e1, e2⟩ := mC_some hm2
  subst e1 e2
  refine ha M σ H ρ S x ρ1 h1 _ fun M1 a H1 hfa E1 S1 n1 => hr M1 σ H1 ρ1 S1 xs _ h2 _ fun M2 vs H2 as hf E2 S2 d2 => q M2 _ H2 (a :: as) (fun b hb => ?_) (E1.trans E2 S.kind) S2 (.new (n1.es S1.kind E2) (fun z => ?_) d2)
  · rcases List.mem_cons.mp hb with rfl | hb
    · exact hfa
    · exact E1.dm b (hf b hb)
  · obtain ⟨o, ho, _⟩ := n1.o
    rw [hf a z] at ho; cases ho
theorem Items.len {M : Addr → Prop} {σ : L2.St} {H : Hp} {ρ : Cs} {vs : List V} {ds : List D} {as : List Addr} (h : Items c M σ H ρ vs ds fs as) : vs.length = ds.length := by
  induction h with
  | nil => rfl
  | dat _ _ ih => rw [List.length_cons, List.length_cons, ih]
  | new _ _ _ ih => rw [List.length_cons, List.length_cons, ih]
theorem stAll_len : ∀ {is : List Nat} {fs : List Bool} {ds : List D} {ρ ρ' : Cs}, stAll is fs ds ρ = some ρ' → ds.length = is.length
  | [], [], [], _, _, _ => rfl
  | i :: is, b :: bs, d :: ds, ρ, ρ', h => by rw [List.length_cons, List.length_cons, stAll_len (is := is) (fs := bs) (ds := ds) h]
  | [], [], _ :: _, _, _, h => by cases h
  | [], _ :: _, _, _, _, h => by cases h
  | _ :: _, [], _, _, _, h => by cases h
  | _ :: _, _ :: _, [], _, _, h => by cases h
theorem r_par2 {i j : Nat} (h : RAf c tl fs ml) : RSt c (tPar i j tl) (sPar [i, j] fs ml) := by
  intro M σ H ρ S f ρ' hm D q
  obtain ⟨ds, ρ1, h1, h2⟩ := mBd_some hm
  cases e : stAll [i, j] fs ds ρ1 with
  | none => simp only [e] at h2; cases h2
  | some ρ2 =>
    simp only [e] at h2
    cases h2
    refine h M σ H ρ S ds ρ1 h1 _ fun M1 vs H1 as _ E1 S1 it => ?_
    have l : vs.length = 2 := by rw [it.len, stAll_len e]; rfl
    match vs, l with
    | [v, w], _ => exact ⟨v, w, rfl, q M1 _ H1 E1.ev (it.store S1 e)⟩
def ownsL (i : Nat) (ρ : Cs) : Bool := match ρ[i]? with
  | some (.own _ (.lst _)) => true
  | _ => false
theorem ownsL_some {i : Nat} {ρ : Cs} (h : ownsL i ρ = true) : ∃ p ds, ρ[i]? = some (.own p (.lst ds)) := by
  unfold ownsL at h
  split at h
  · exact ⟨_, _, by assumption⟩
  · cases h
def sAppV (i : Nat) (me : Mo D) : Mo Fl := fun ρ => if ownsL i ρ = true then sApp i me ρ else none
theorem grown {M M1 : Addr → Prop} {σ : L2.St} {H H1 : Hp} {ρ ρ1 : Cs} {i : Nat} {a : Addr} {p : Bool} {ds es : List D} {ys : List V} (ha : σ[i]? = some (some (.ref a))) (e1 : ρ1[i]? = some (.own p (.lst ds))) (E1 : Es σ M H ρ σ M1 H1 ρ1) (S1 : Sta c M1 σ H1 ρ1) (hv : DatAll K M1 H1 ys es) :
    ∃ xs, H1 a = some (.lst xs) ∧ xs.length = ds.length ∧ (Ev M H M1 (upd H1 a (.lst (xs ++ ys))) ∧ Sta c M1 σ (upd H1 a (.lst (xs ++ ys))) (ρ1.set i (.own p (.lst (ds ++ es))))) := by
  obtain ⟨a', ha', hM, _, o, ho, hc⟩ := S1.own e1
  rw [ha] at ha'
  cases ha'
  cases hc with
  | lst hx =>
    rename_i xs
    refine ⟨xs, ho, hx.length, ?_⟩
    have ev2 : Ev M1 H1 M1 (upd H1 a (.lst (xs ++ ys))) := ⟨fun b h => .inl h, fun b o nb h => by rw [upd_ne (fun z => nb (by rw [z]; exact hM))]; exact h⟩
    have E2 := S1.mut (d' := .lst (ds ++ es)) (H' := upd H1 a (.lst (xs ++ ys))) ha e1 (fun b o nb h => by rw [upd_ne nb]; exact h) ⟨_, upd_same, .lst ((hx.append hv).ev S1.kind ev2)⟩
    exact ⟨E1.ev.trans E2.1, E2.2⟩
theorem r_app {i : Nat} (h : REv c te me) : RSt c (tDrop (tBM K "list" rAppend (tVar i) (tCons te tNil))) (sAppV i me) := by
  intro M σ H ρ S f ρ' hm D q
  unfold sAppV at hm
  split at hm
  case isFalse => cases hm
  rename_i hw
  obtain ⟨p0, d0, e0⟩ := ownsL_some hw
  obtain ⟨a, ha, _, _, o0, ho0, hc0⟩ := S.own e0
  obtain ⟨d, ρ1, h1, h2⟩ := mBd_some hm
  split at h2
  · rename_i p ds e1
    obtain ⟨hl, e2⟩ := if_some h2
    cases e2
    cases hc0 with
    | lst _ =>
      refine ⟨_, ha, .inl ⟨rfl, _, SqL.of ho0⟩, h M σ H ρ S d ρ1 h1 _ fun M1 v H1 E1 S1 hv => ?_⟩
      obtain ⟨xs, hx, hlx, E2, S2⟩ := grown ha e1 E1 S1 (.cons hv .nil)
      exact ⟨a, xs, v, rfl, rfl, hx, by rw [hlx]; exact hl, q M1 _ _ E2 S2⟩
  · cases h2
end
end DL
set_option autoImplicit false
namespace DL
open PySem PySem.Spec PyProof.Rows L2
def scal : D → Bool
  | .non | .bl _ | .int _ | .str _ => true
  | _ => false
theorem scal_dat {K : PySem.W.Frag} {M M' : Addr → Prop} {H : Hp} {v : V} {d : D} (h : Dat K M H v d) (s : scal d = true) : Dat K M' H v d := by
  cases d <;> simp [scal] at s <;> cases h <;> constructor
/-- the object of slot i, which the def owns, read as data -/
theorem Sta.peek {K : PySem.W.Frag} {c : Ctx K} {M : Addr → Prop} {σ : L2.St} {H : Hp} {ρ : Cs} (S : Sta c M σ H ρ) {i : Nat} {p : Bool} {d : D} (h : ρ[i]? = some (.own p d)) :
    ∃ a, σ[i]? = some (some (.ref a)) ∧ Kind (fun b => M b ∧ b ≠ a) H ∧ (∀ b, (M b ∧ b ≠ a) → M b) ∧ Dat K (fun b => M b ∧ b ≠ a) H (.ref a) d := by
  obtain ⟨a, ha, _, _, o, ho, hc⟩ := S.own h
  exact ⟨a, ha, fun b hb => S.kind b hb.1, fun b hb => hb.1, (hc.less fun b hb => hb.1).dat (fun z => z.2 rfl) ho⟩
def sc? (o : Option D) : Option D := match o with
  | some d => if scal d = true then some d else none
  | none => none
theorem sc_some {o : Option D} {d : D} (h : sc? o = some d) : o = some d ∧ scal d = true := by
  unfold sc? at h
  split at h
  · obtain ⟨a, rfl⟩ := if_some h
    exact ⟨rfl, a⟩
  · cases h
/-- x op e, x the name in slot i -/
def mOpL (g : D → D → Option D) (i : Nat) (b : Mo D) : Mo D := fun ρ => match ρ[i]? with
  | some (.own _ _) => mBd b (fun y ρ1 => match ρ1[i]? with
    | some (.own _ d) => mL (sc? (g d y)) ρ1
    | _ => none) ρ
  | _ => mOp g (mVar i) b ρ
/-- e op x -/
def mOpRt (g : D → D → Option D) (a : Mo D) (i : Nat) : Mo D := mBd a fun x ρ => match ρ[i]? with
  | some (.own _ d) => mL (sc? (g x d)) ρ
  | _ => mBd (mVar i) (fun y => mL (g x y)) ρ
/-- f(x) -/
def mFnP (g : List D → Option D) (i : Nat) : Mo D := fun ρ => match ρ[i]? with
  | some (.own _ d) => mL (sc? (g [d])) ρ
  | _ => mFn g (aCons (mVar i) aNil) ρ
section
variable {K : PySem.W.Frag} {c : Ctx K} {ta tb : TE} {ma mb : Mo D}
theorem r_opRt {g : D → D → Option D} {i : Nat} (ha : REv c ta ma) : REv c (tOp (rD K g) ta (tVar i)) (mOpRt g ma i) := by
  intro M σ H ρ S d ρ' hm Q q
  obtain ⟨x, ρ1, h1, h2⟩ := mBd_some hm
  split at h2
  · rename_i p1 d1 e1
    obtain ⟨h3, e3⟩ := mL_some h2
    subst e3
    obtain ⟨hg, hs⟩ := sc_some h3
    refine ha M σ H ρ S x _ h1 _ fun M1 w H1 E1 S1 dw => ?_
    obtain ⟨a', ha', k, L, dd⟩ := S1.peek e1
    exact ⟨_, ha', _, x, d1, d, k, dw.less L, dd, hg, fun u H2 s h => q M1 u H2 (E1.trans (.same s) S.kind) (S1.same s) (scal_dat h hs)⟩
  · refine r_op ha (r_var i) M σ H ρ S d ρ' ?_ Q q
    show mBd ma (fun x => mBd (mVar i) fun y => mL (g x y)) ρ = _
    unfold mBd
    rw [h1]
    exact h2
theorem r_fnP {g : List D → Option D} {i : Nat} : REv c (tCB (rC K g) (tCons (tVar i) tNil)) (mFnP g i) := by
  intro M σ H ρ S d ρ' hm Q q
  unfold mFnP at hm
  split at hm
  · rename_i p1 d1 e1
    obtain ⟨h3, e3⟩ := mL_some hm
    subst e3
    obtain ⟨hg, hs⟩ := sc_some h3
    obtain ⟨a', ha', k, L, dd⟩ := S.peek e1
    exact ⟨_, ha', _, [d1], d, k, .cons dd .nil, hg, fun u H2 s h => q M u H2 (.same s) (S.same s) (scal_dat h hs)⟩
  · exact r_fn (r_acons (r_var i) r_anil) M σ H ρ S d ρ' hm Q q
end
def rIxO (K : PySem.W.Frag) : R2 := fun x y H Q => rD K dIx x y H Q ∨ ∃ p q xs i v, x = .ref p ∧ y = .int i ∧ SqL q H p xs ∧ q = K ∧ atI xs i = some v ∧ Q v H
def mIxV (i : Nat) (b : Mo D) : Mo D := fun ρ => match ρ[i]? with
  | some (.own _ (.lst _)) => mBd b (fun y ρ1 => match ρ1[i]? with
    | some (.own _ (.lst ds)) => (match y with
      | .int k => mL (atI ds k) ρ1
      | _ => none)
    | _ => none) ρ
  | _ => mOp dIx (mVar i) b ρ
section
variable {X : Cx}
theorem ix_OWN : IxR X (rIxO X.K) := by
  intro value slice pins s σ H x y v u Q I rx ry h hs
  rcases h with h | ⟨p, q, xs, i, w, rfl, rfl, h1, rfl, e1, h2⟩
  · exact ix_ALL value slice pins s σ H x y v u Q I rx ry h hs
  · exact ix_list value slice pins s σ H _ _ v u Q I rx ry ⟨_, _, i, w, rfl, rfl, h1, e1, h2⟩ hs
end
theorem r_ixV {K : PySem.W.Frag} {c : Ctx K} {i : Nat} {tb : TE} {mb : Mo D} (hb : REv c tb mb) : REv c (tOp (rIxO K) (tVar i) tb) (mIxV i mb) := by
  intro M σ H ρ S d ρ' hm Q q
  unfold mIxV at hm
  split at hm
  · rename_i p d0 e0
    obtain ⟨y, ρ1, h1, h2⟩ := mBd_some hm
    split at h2
    · rename_i p1 ds e1
      split at h2
      · rename_i k
        obtain ⟨h3, e3⟩ := mL_some h2
        subst e3
        obtain ⟨a, ha, _⟩ := S.own e0
        refine ⟨_, ha, hb M σ H ρ S _ _ h1 _ fun M1 w H1 E1 S1 dw => ?_⟩
        cases dw
        obtain ⟨a', ha', _, _, o, ho, hc⟩ := S1.own e1
        rw [ha] at ha'; cases ha'
        cases hc with
        | lst hx =>
          obtain ⟨v, hv, dv⟩ := atI_dat hx h3
          exact .inr ⟨_, _, _, k, v, rfl, rfl, SqL.of ho, rfl, hv, q M1 v H1 E1 S1 dv⟩
      · cases h2
    · cases h2
  · obtain ⟨x, ρ1, h1, hm⟩ := mBd_some hm
    obtain ⟨y, ρ2, h2, hm⟩ := mBd_some hm
    obtain ⟨hg, rfl⟩ := mL_some hm
    refine r_var i M σ H ρ S x ρ1 h1 _ fun M1 v H1 E1 S1 d1 => hb M1 σ H1 ρ1 S1 y _ h2 _ fun M2 w H2 E2 S2 d2 => ?_
    exact .inl ⟨M2, x, y, d, S2.kind, d1.ev S1.kind E2.ev, d2, hg, fun u H3 s h => q M2 u H3 ((E1.trans E2 S.kind).trans (.same s) S.kind) (S2.same s) h⟩
section
variable {X : Cx} {K : PySem.W.Frag} {c : Ctx K} {a b e : Expr} {es : List Expr} {pos : Pos} {ta tb tc : TE} {ma mb mc : Mo D}
theorem d_ixV (i : Nat) {x : Str} {p : Pos} (hb : DE X c b tb mb) (hs : PlainIx b) (hN : X.N[i]? = some x := by rfl) (hv : Vis X.env.scope x := by first | exact Or.inl rfl | exact Or.inr (Or.inl rfl) | exact Or.inr (Or.inr rfl)) (hd : (x == ("__debug__" : Str)) = false := by decide)
    (hcd : (x == ("__classdict__" : Str)) = false := by decide) (hK : X.K = K := by rfl) : DE X c (.Subscript (.Name x p) b pos) (tOp (rIxO K) (tVar i) tb) (mIxV i mb) := ⟨by rw [← hK]; exact pe_ix ix_OWN (pv i hN hv hd hcd) hb.p hs, r_ixV hb.r⟩
theorem d_tcmpRt {op : CmpOp} {g : D → D → Option D} (i : Nat) {x : Str} {p : Pos} (ho : OpR X (compareOp op) (rD X.K g)) (ha : DE X c a ta ma) (hm : behindInMarks op (.Name x p) = false) (hN : X.N[i]? = some x := by rfl) (hv : Vis X.env.scope x := by first | exact Or.inl rfl | exact Or.inr (Or.inl rfl) | exact Or.inr (Or.inr rfl)) (hd : (x == ("__debug__" : Str)) = false := by decide)
    (hcd : (x == ("__classdict__" : Str)) = false := by decide) (hK : X.K = K := by rfl) : DT X c (.Compare a [op] [.Name x p] pos) (tTest (tOp (rD K g) ta (tVar i))) (mTst (mOpRt g ma i)) := ⟨by rw [← hK]; exact pt_cmpR ho ha.p (pv i hN hv hd hcd) hm, r_test (r_opRt ha.r)⟩
theorem d_bltP {x y : Str} {id : String} {g : List D → Option D} {p p2 : Pos} (i : Nat) (hc : CallR X (.builtin id) (rC X.K g)) (hm : X.mg x = none) (hv : bootBuiltins x = some (.builtin id)) (hg : Gl X x := by rfl) (hn : x ≠ "__name__" := by decide) (hdb : (x == ("__debug__" : Str)) = false := by decide)
    (he : starEach [.Name y p2] X.env = (false, eval (.Name y p2) X.env) :: starEach [] X.env := by rfl) (hpl : (backTo pos (starEach [] X.env)).any (·.1) = false := by rfl)
    (hN : X.N[i]? = some y := by rfl) (hv' : Vis X.env.scope y := by first | exact Or.inl rfl | exact Or.inr (Or.inl rfl) | exact Or.inr (Or.inr rfl)) (hd : (y == ("__debug__" : Str)) = false := by decide)
    (hcd : (y == ("__classdict__" : Str)) = false := by decide) (hK : X.K = K := by rfl) : DE X c (.Call (.Name x p) [.Name y p2] [] pos) (tCB (rC K g) (tCons (tVar i) tNil)) (mFnP g i) := ⟨by rw [← hK]; exact pe_callB hc hg hm hv (pa_cons (pv i hN hv' hd hcd) pa_nil he) hn hdb he hpl, r_fnP⟩
end
section
variable {X : Cx} {K : PySem.W.Frag} {c : Ctx K} {a b e st : Expr} {es : List Expr} {pos pos' : Pos} {te : TE} {me : Mo D} {t u : TS} {m k : Mo Fl} {tt : TT} {mt : Mo Bool} {tl : TA} {ml : Mo (List D)} {g : TG} {mg : D → Mo Unit} {gs : TGs} {ms : List D → Mo Unit} {wi : TI} {mi : Mo (List D)}
theorem b_nil : DB X c [] tNext sNx := ⟨pss_nil, r_nx⟩
theorem b_cons {s : Stmt} {rest : List Stmt} (h : DS X c s t m) (hr : DB X c rest u k) : DB X c (s :: rest) (tSeq t u) (sSeq m k) := ⟨pss_cons h.p hr.p, r_seq h.r hr.r⟩
theorem b_one {s : Stmt} (h : DS X c s t m) : DB X c [s] t m := ⟨pss_one h.p, h.r⟩
theorem s_never {s : Stmt} : DS X c s tNever sNo := ⟨ps_never, r_never⟩
theorem s_ret (h : DE X c e te me) : DS X c (.Return (some e) pos) (tRet te) (sRet me) := ⟨ps_ret h.p, r_ret h.r⟩
theorem s_retNew (h : DN X c e te me) : DS X c (.Return (some e) pos) (tRet te) (sRetNew me) := ⟨ps_ret h.p, r_retNew h.r⟩
theorem s_if {x : Expr} {p q : List Stmt} (ht : DT X c x tt mt) (ha : DB X c p t m) (hb : DB X c q u k) : DS X c (.If x p q pos) (tIfS tt t u) (sIf mt m k) := ⟨ps_if ht.p ha.p hb.p, r_ifS ht.r ha.r hb.r⟩
theorem s_set {i : Nat} {x : Str} (hN : X.N.Nodup) (hi : X.N[i]? = some x) (hx : Loc X.env.scope x) (he : DE X c e te me) (hs : swapsWith e (some (.Name x pos')) pos.line X.env = pure false := by rfl) (hf : X.fn x = true ∨ X.env.scope.names.lookup x = some .local := by first | exact .inl rfl | exact .inr rfl | assumption) :
    DS X c (.Assign [.Name x pos'] e pos) (tAsg te (gName i)) (sSet i me) := ⟨ps_set hN hi hx he.p hs hf, r_set he.r i⟩
theorem s_setN {i : Nat} {x : Str} (hN : X.N.Nodup) (hi : X.N[i]? = some x) (hx : Loc X.env.scope x) (he : DN X c e te me) (hs : swapsWith e (some (.Name x pos')) pos.line X.env = pure false := by rfl) (hf : X.fn x = true ∨ X.env.scope.names.lookup x = some .local := by first | exact .inl rfl | exact .inr rfl | assumption) :
    DS X c (.Assign [.Name x pos'] e pos) (tAsg te (gName i)) (sSetN i me) := ⟨ps_set hN hi hx he.p hs hf, r_setN he.r i⟩
theorem s_asg {tg : Expr} (he : DE X c e te me) (hg : DG X c tg g mg) (hs : swapsWithSole [tg] e pos.line X.env = pure false := by rfl) (hw : swappedStores [tg] e X.env = pure none := by rfl)
    (h1 : (assignEach [tg] X.env).map (·.2) = [assign tg X.env] := by rfl) : DS X c (.Assign [tg] e pos) (tAsg te g) (sAsg me mg) := ⟨ps_asg he.p hg.p hs hw h1, r_asg he.r hg.r⟩
/-- i, j = a, b -/
theorem s_par {fs : List Bool} {i j : Nat} {x y : Str} {px py pt : Pos} {kt k2 pt2} (hc : X.calm = true) (hN : X.N.Nodup) (hi : X.N[i]? = some x) (hj : X.N[j]? = some y) (hij : i ≠ j)
    (hx : X.env.scope.names.lookup x = some .local) (hy : X.env.scope.names.lookup y = some .local) (ha : DF X c [a, b] tl fs ml)
    (hw : swappedStores [.Tuple [.Name x px, .Name y py] kt pt] (.Tuple [a, b] k2 pt2) X.env = pure (some [x, y]))
    (hs : swapsWithSole [.Tuple [.Name x px, .Name y py] kt pt] (.Tuple [a, b] k2 pt2) pos.line X.env = pure false := by rfl) :
    DS X c (.Assign [.Tuple [.Name x px, .Name y py] kt pt] (.Tuple [a, b] k2 pt2) pos) (tPar i j tl) (sPar [i, j] fs ml) := ⟨ps_par hc hN hi hj hij hx hy ha.p hw hs, r_par2 ha.r⟩
theorem s_for {tg iter : Expr} {body : List Stmt} (hp : PassesOwn (model X.prog X.w) X.A X.env X.xe) (hc : X.calm = true) (hi : DI X c tg iter wi mi) (hg : DG X c tg g mg) (hb : DB X c body t m)
    (hs : ∀ x, foldedSetIterable iter X.env x = pure x := by intro _; rfl) : DS X c (.For tg iter body [] pos) (tFor wi g t) (sFor mi mg m) := ⟨ps_for hp hc hi.p hg.p hb.p hs, r_for hi.r hg.r hb.r⟩
theorem f_nil : DF X c [] tNil [] aNil := ⟨pa_nil, r_fnil⟩
theorem f_dat {fs : List Bool} (he : DE X c e te me) (hr : DF X c es tl fs ml) (hs : starEach (e :: es) X.env = (false, eval e X.env) :: starEach es X.env := by rfl) : DF X c (e :: es) (tCons te tl) (false :: fs) (aCons me ml) := ⟨pa_cons he.p hr.p hs, r_fdat he.r hr.r⟩
theorem f_new {fs : List Bool} (he : DN X c e te me) (hr : DF X c es tl fs ml) (hs : starEach (e :: es) X.env = (false, eval e X.env) :: starEach es X.env := by rfl) : DF X c (e :: es) (tCons te tl) (true :: fs) (aCons me ml) := ⟨pa_cons he.p hr.p hs, r_fnew he.r hr.r⟩
theorem g_name {i : Nat} {x : Str} (hN : X.N.Nodup) (hi : X.N[i]? = some x) (hx : Loc X.env.scope x) (hf : X.fn x = true ∨ X.env.scope.names.lookup x = some .local := by first | exact .inl rfl | exact .inr rfl | assumption) : DG X c (.Name x pos) (gName i) (gNm i) := ⟨pg_name hN hi hx hf, r_gname i⟩
theorem gs_nil : DGs X c [] gNil gsNil := ⟨pgs_nil, r_gnil⟩
theorem gs_cons (h1 : DG X c e g mg) (h2 : DGs X c es gs ms) (hs : (assignEach (e :: es) X.env).map (·.2) = assign e X.env :: (assignEach es X.env).map (·.2) := by rfl) : DGs X c (e :: es) (gCons g gs) (gsCons mg ms) := ⟨pgs_cons h1.p h2.p hs, r_gcons h1.r h2.r⟩
theorem g_tup {k : Nat} {n : Nat} (hc : X.calm = true) (h : DGs X c es gs ms) (hn : (assignEach es X.env).length = n := by rfl) (hst : (assignEach es X.env).findIdx? (·.1) = none := by rfl) (hK : X.K = K := by rfl) :
    DG X c (.Tuple es k pos) (gTup K n gs) (gTp n ms) := ⟨by rw [← hK]; exact pg_tup hc h.p hn hst, r_gtup h.r⟩
theorem i_list {tg : Expr} (h : DE X c e te me) (hK : X.K = K := by rfl) : DI X c tg e (iList K te) (iSeq seqL me) := ⟨by rw [← hK]; exact pi_list h.p, r_ilist h.r⟩
theorem i_tup {tg : Expr} (h : DE X c e te me) (hK : X.K = K := by rfl) : DI X c tg e (iTup K te) (iSeq seqT me) := ⟨by rw [← hK]; exact pi_tup h.p, r_itup h.r⟩
theorem i_rng1 {tg : Expr} {p : Pos} (hm : X.mg "range" = none) (ha : DA X c [a] tl ml) (hg : Gl X "range" := by rfl) (hs : starEach [a] X.env = [(false, eval a X.env)] := by rfl) : DI X c tg (.Call (.Name "range" p) [a] [] pos) (iRng1 tl) (iFn rng1? ml) := ⟨pi_range1 hg hm ha.p hs, r_irng1 ha.r⟩
end
end DL
set_option autoImplicit false
namespace DL
open PySem PySem.Spec PyProof.Rows L2
abbrev ctx (K : PySem.W.Frag) (M0 P : Addr → Prop) (H0 : Hp) : Ctx K := ⟨M0, P, H0⟩
def cells (ds : List D) (n : Nat) : Cs := ds.map .dat ++ List.replicate n .no
def fin1 : Option (Fl × Cs) → Option D
  | some (.rt d, _) => some d
  | some (.rn d, _) => some d
  | some (.nx, _) => some .non
  | _ => none
/-- m parameters, n more slots -/
def runF (m n : Nat) (b : Mo Fl) (ds : List D) : Option D := if ds.length = m then fin1 (b (cells ds n)) else none
def own0 : Cs → Option D
  | .own true d :: _ => some d
  | _ => none
def fin2 : Option (Fl × Cs) → Option (D × D)
  | some (.rt d, ρ) => (own0 ρ).map fun e => (d, e)
  | some (.rn d, ρ) => (own0 ρ).map fun e => (d, e)
  | some (.nx, ρ) => (own0 ρ).map fun e => (.non, e)
  | _ => none
/-- the first parameter may be changed -/
def runO (m n : Nat) (b : Mo Fl) (d0 : D) (ds : List D) : Option (D × D) := if ds.length + 1 = m then fin2 (b (.own true d0 :: cells ds n)) else none
def fin3 : Option (Fl × Cs) → Option D
  | some (.rn d, _) => some d
  | _ => none
/-- the value is a new object, the caller's own -/
def runN (m n : Nat) (b : Mo Fl) (ds : List D) : Option D := if ds.length = m then fin3 (b (cells ds n)) else none
def spF (K : PySem.W.Frag) (m : Nat) (F : List D → Option D) : Sp := fun vs H Q _ => ∃ M ds d, Kind M H ∧ DatAll K M H vs ds ∧ ds.length = m ∧ F ds = some d ∧ ∀ u H', Same H H' → Dat K M H' u d → Q u H'
def spN (K : PySem.W.Frag) (m : Nat) (F : List D → Option D) : Sp := fun vs H Q _ => ∃ M ds d, Kind M H ∧ DatAll K M H vs ds ∧ ds.length = m ∧ F ds = some d ∧ ∀ a H' o, H a = none → Same H H' → H' a = some o → Cont K (fun b => M b ∨ b = a) H' o d → Q (.ref a) H'
def spO (K : PySem.W.Frag) (m : Nat) (F : D → List D → Option (D × D)) : Sp := fun vs H Q _ => ∃ M a d0 xs ds r d1, vs = .ref a :: xs ∧ Kind M H ∧ M a ∧ Own K M H a d0 ∧ DatAll K M H xs ds ∧ ds.length + 1 = m ∧ F d0 ds = some (r, d1) ∧
  ∀ u H', (∀ b o, b ≠ a → H b = some o → H' b = some o) → Own K M H' a d1 → Dat K M H' u r → Q u H'
section
variable {K : PySem.W.Frag} {M : Addr → Prop} {H : Hp} {vs : List V} {ds : List D} {N : List Str} {t : TS} {b : Mo Fl} {m n : Nat} {Q : VK} {E : XK}
theorem cells_len : (cells ds n).length = ds.length + n := by simp [cells]
theorem cells_lt {i : Nat} {d : D} (h : ds[i]? = some d) : (cells ds n)[i]? = some (.dat d) := by
  have hl := (List.getElem?_eq_some_iff.mp h).1
  unfold cells
  rw [List.getElem?_append_left (by simpa using hl)]
  simp [h]
theorem cells_ge {i : Nat} {x : Cell} (hi : ds.length ≤ i) (h : (cells ds n)[i]? = some x) : x = .no := by
  unfold cells at h
  rw [List.getElem?_append_right (by simpa using hi)] at h
  rw [List.getElem?_replicate] at h
  exact (if_some h).2.symm
theorem start_lt {i : Nat} {v : V} (h : vs[i]? = some v) : (start N vs)[i]? = some (some v) := by
  have hl := (List.getElem?_eq_some_iff.mp h).1
  unfold L2.start
  rw [List.getElem?_append_left (by simpa using hl)]
  simp [h]
theorem start_len (h : vs.length ≤ N.length) : (start N vs).length = N.length := by
  unfold L2.start
  simp; omega
/-- the state at a def's entry -/
theorem sta_start (k : Kind M H) (h : DatAll K M H vs ds) (hn : N.length = ds.length + n) : Sta (ctx K M (fun _ => False) H) M (start N vs) H (cells ds n) := by
  refine ⟨fun _ z => z.elim, fun _ z => z, fun b z w => absurd z w, k, fun _ _ _ z => z, ?_, fun i x y h1 h2 => ?_, fun i j a p q d e a1 a2 a3 a4 => ?_⟩
  · rw [cells_len, start_len (by rw [h.length]; omega), hn]
  · cases hd : ds[i]? with
    | some d =>
      obtain ⟨v, hv, hdv⟩ := h.getD hd
      rw [start_lt hv] at h1
      rw [cells_lt hd] at h2
      cases h1; cases h2
      exact .dat hdv
    | none =>
      obtain rfl := cells_ge (List.getElem?_eq_none_iff.mp hd) h2
      exact .no _
  · exfalso
    cases hd : ds[i]? with
    | some d => rw [cells_lt hd] at a2; cases a2
    | none => cases cells_ge (List.getElem?_eq_none_iff.mp hd) a2
theorem sta_startO {a : Addr} {d0 : D} (k : Kind M H) (hM : M a) (ho : Own K M H a d0) (h : DatAll K M H vs ds) (hn : N.length = ds.length + 1 + n) : Sta (ctx K M (fun b => b = a) H) M (start N (.ref a :: vs)) H (.own true d0 :: cells ds n) := by
  have ne : ∀ {i : Nat} {p : Bool} {d : D}, (Cell.own true d0 :: cells ds n)[i]? = some (.own p d) → i = 0 := fun {i p d} z => by
    cases i with
    | zero => rfl
    | succ i =>
      rw [List.getElem?_cons_succ] at z
      cases hd : ds[i]? with
      | some d => rw [cells_lt hd] at z; cases z
      | none => cases cells_ge (List.getElem?_eq_none_iff.mp hd) z
  refine ⟨fun b z => by rw [show b = a from z]; exact hM, fun _ z => z, fun b z w => absurd z w, k, fun _ _ _ z => z, ?_, fun i x y h1 h2 => ?_, fun i j a p q d e a1 a2 a3 a4 => by rw [ne a2, ne a4]⟩
  · rw [List.length_cons, cells_len, start_len (by rw [List.length_cons, h.length]; omega), hn]; omega
  · cases i with
    | zero =>
      rw [start_lt (v := .ref a) (by rfl)] at h1
      cases h1; cases h2
      exact .own hM (by simp) ho
    | succ i =>
      rw [List.getElem?_cons_succ] at h2
      cases hd : ds[i]? with
      | some d =>
        obtain ⟨v, hv, hdv⟩ := h.getD hd
        rw [start_lt (v := v) (by simpa using hv)] at h1
        rw [cells_lt hd] at h2
        cases h1; cases h2
        exact .dat hdv
      | none =>
        obtain rfl := cells_ge (List.getElem?_eq_none_iff.mp hd) h2
        exact .no _
theorem own0_some {ρ : Cs} {d : D} (h : own0 ρ = some d) : ρ[0]? = some (.own true d) := by
  unfold own0 at h
  split at h
  · cases h; rfl
  · cases h
theorem run_F (hn : N.length = m + n) (h : ∀ (M0 : Addr → Prop) (P : Addr → Prop) (H0 : Hp), RSt (ctx K M0 P H0) t b) (sp : spF K m (runF m n b) vs H Q E) : t { nx := fun _ H' => Q .non H', rt := Q } (start N vs) H := by
  obtain ⟨M, ds, d, k, hd, hl, hF, q⟩ := sp
  have hF := (if_pos hl).symm.trans hF
  have S := sta_start (N := N) (n := n) k hd (by rw [hl]; exact hn)
  have sm : ∀ {M' : Addr → Prop} {σ' : L2.St} {H' : Hp} {ρ' : Cs}, Sta (ctx K M (fun _ => False) H) M' σ' H' ρ' → Same H H' := fun S b o z => S.base b o id z
  cases e : b (cells ds n) with
  | none => rw [e] at hF; cases hF
  | some r =>
    obtain ⟨f, ρ'⟩ := r
    rw [e] at hF
    refine h M _ H M _ H _ S f ρ' e _ ?_
    cases f with
    | nx => cases hF; exact fun M' σ' H' _ S' => q _ H' (sm S') .non
    | rt r => cases hF; exact fun M' σ' v H' _ S' hv => q v H' (sm S') (hv.less S'.sub)
    | rn r => cases hF; exact fun M' σ' a H' _ S' nw => (nw.give S').elim fun _ z => q _ H' (sm S') (z.2.less fun b hb => ⟨S'.sub b hb, fun w => nw.n0 (by rw [← w]; exact hb)⟩)
    | bk => cases hF
    | ct => cases hF
theorem run_N (hn : N.length = m + n) (h : ∀ (M0 : Addr → Prop) (P : Addr → Prop) (H0 : Hp), RSt (ctx K M0 P H0) t b) (sp : spN K m (runN m n b) vs H Q E) : t { nx := fun _ H' => Q .non H', rt := Q } (start N vs) H := by
  obtain ⟨M, ds, d, k, hd, hl, hF, q⟩ := sp
  have hF := (if_pos hl).symm.trans hF
  have S := sta_start (N := N) (n := n) k hd (by rw [hl]; exact hn)
  cases e : b (cells ds n) with
  | none => rw [e] at hF; cases hF
  | some r =>
    obtain ⟨f, ρ'⟩ := r
    rw [e] at hF
    refine h M _ H M _ H _ S f ρ' e _ ?_
    cases f with
    | rn r =>
      cases hF
      intro M' σ' a H' _ S' nw
      obtain ⟨o, ho, hc⟩ := nw.o
      exact q a H' o nw.h0 (fun b o z => S'.base b o id z) ho (hc.less fun b hb => hb.elim (S'.sub b) fun z => by rw [z]; exact nw.m)
    | nx => cases hF
    | rt r => cases hF
    | bk => cases hF
    | ct => cases hF
theorem run_O (hn : N.length = m + n) (h : ∀ (M0 : Addr → Prop) (P : Addr → Prop) (H0 : Hp), RSt (ctx K M0 P H0) t b) (sp : spO K m (runO m n b) vs H Q E) : t { nx := fun _ H' => Q .non H', rt := Q } (start N vs) H := by
  obtain ⟨M, a, d0, xs, ds, r0, d1, rfl, k, hM, ho, hd, hl, hF, q⟩ := sp
  have hF := (if_pos hl).symm.trans hF
  have S := sta_startO (N := N) (n := n) k hM ho hd (by rw [hl]; exact hn)
  have fin : ∀ {M' : Addr → Prop} {σ' : L2.St} {H' : Hp} {ρ' : Cs} {e : D}, Sta (ctx K M (fun b => b = a) H) M' σ' H' ρ' → own0 ρ' = some e → (∀ b o, b ≠ a → H b = some o → H' b = some o) ∧ Own K M H' a e := fun {M' σ' H' ρ' e} S' w => by
    obtain ⟨a', _, _, hp, o, ho', hc⟩ := S'.own (own0_some w)
    have ea : a' = a := by simpa using hp
    subst ea
    exact ⟨fun b o ne z => S'.base b o (fun z => ne z) z, o, ho', hc.less S'.sub⟩
  cases e : b (.own true d0 :: cells ds n) with
  | none => rw [e] at hF; cases hF
  | some r =>
    obtain ⟨f, ρ'⟩ := r
    rw [e] at hF
    refine h M _ H M _ H _ S f ρ' e _ ?_
    cases f with
    | nx =>
      obtain ⟨x, hx, ex⟩ := map_some (show (own0 ρ').map _ = _ from hF)
      cases ex
      exact fun M' σ' H' _ S' => q _ H' (fin S' hx).1 (fin S' hx).2 .non
    | rt r =>
      obtain ⟨x, hx, ex⟩ := map_some (show (own0 ρ').map _ = _ from hF)
      cases ex
      exact fun M' σ' v H' _ S' hv => q v H' (fin S' hx).1 (fin S' hx).2 (hv.less S'.sub)
    | rn r =>
      obtain ⟨x, hx, ex⟩ := map_some (show (own0 ρ').map _ = _ from hF)
      cases ex
      exact fun M' σ' a H' _ S' nw => (nw.give S').elim fun _ z => q _ H' (fin S' hx).1 (fin S' hx).2 (z.2.less fun b hb => ⟨S'.sub b hb, fun w => nw.n0 (by rw [← w]; exact hb)⟩)
    | bk => cases hF
    | ct => cases hF
end
section
variable {P : Program} {w : World} {K : PySem.W.Frag} {mg : Str → Option Value} {base : Heap} {x qual : Str} {st : Stmt} {f : Addr} {fd : FuncData} {N ps : List Str} {k m n : Nat} {b : Mo Fl}
/-- a body's derivation, for whatever the callers own -/
def BodyD (P : Program) (w : World) (K : PySem.W.Frag) (mg : Str → Option Value) (base : Heap) (qual : Str) (st : Stmt) (f : Addr) (N : List Str) (k : Nat) (b : Mo Fl) : Prop :=
  ∀ (cdv : Value) (A : Around) (outer : List Env) (s : Shared) (H : Hp) (E : XK), Room k (A.deeper (envOfC qual (defScope st) s.heap.objs.size f cdv)) →
    ∃ t, ∀ (M0 : Addr → Prop) (P0 : Addr → Prop) (H0 : Hp), DB (cxOf CX0 P w K mg base N qual (defScope st) f cdv A outer s H E).nox (ctx K M0 P0 H0) (defBody st) t b
/-- .. where no repr is under way -/
def BodyG (P : Program) (w : World) (K : PySem.W.Frag) (mg : Str → Option Value) (base : Heap) (qual : Str) (st : Stmt) (f : Addr) (N : List Str) (k : Nat) (b : Mo Fl) : Prop :=
  ∀ (cdv : Value) (A : Around) (outer : List Env) (s : Shared) (H : Hp) (E : XK), A.guards = some [] → Room k (A.deeper (envOfC qual (defScope st) s.heap.objs.size f cdv)) →
    ∃ t, ∀ (M0 : Addr → Prop) (P0 : Addr → Prop) (H0 : Hp), DB (cxOf CX0 P w K mg base N qual (defScope st) f cdv A outer s H E).nox (ctx K M0 P0 H0) (defBody st) t b
theorem okF (F : Fun K x qual st f fd) (S : FnScope N ps (defScope st)) (hm : ps.length = m) (hn : N.length = m + n) (B : BodyD P w K mg base qual st f N k b) : FnOk P w K mg base CX0 (k + 1) f fd ps (spF K m (runF m n b)) := by
  refine F.ok S (fun vs H Q E h => ?_) (fun cdv A outer s H vs Q E hr h => ?_)
  · obtain ⟨M, ds, d, _, hd, hl, _⟩ := h
    rw [hd.length, hl, hm]
  · obtain ⟨t, d⟩ := B cdv A outer s H E hr
    exact ⟨t, (d (fun _ => False) (fun _ => False) H).p, run_F hn (fun M0 P0 H0 => (d M0 P0 H0).r) h⟩
theorem okN (F : Fun K x qual st f fd) (S : FnScope N ps (defScope st)) (hm : ps.length = m) (hn : N.length = m + n) (B : BodyD P w K mg base qual st f N k b) : FnOk P w K mg base CX0 (k + 1) f fd ps (spN K m (runN m n b)) := by
  refine F.ok S (fun vs H Q E h => ?_) (fun cdv A outer s H vs Q E hr h => ?_)
  · obtain ⟨M, ds, d, _, hd, hl, _⟩ := h
    rw [hd.length, hl, hm]
  · obtain ⟨t, d⟩ := B cdv A outer s H E hr
    exact ⟨t, (d (fun _ => False) (fun _ => False) H).p, run_N hn (fun M0 P0 H0 => (d M0 P0 H0).r) h⟩
theorem okO (F : Fun K x qual st f fd) (S : FnScope N ps (defScope st)) (hm : ps.length = m) (hn : N.length = m + n) (B : BodyD P w K mg base qual st f N k b) : FnOk P w K mg base CX0 (k + 1) f fd ps (spO K m (runO m n b)) := by
  refine F.ok S (fun vs H Q E h => ?_) (fun cdv A outer s H vs Q E hr h => ?_)
  · obtain ⟨M, a, d0, xs, ds, r, d1, rfl, _, _, _, hd, hl, _⟩ := h
    rw [List.length_cons, hd.length, hl, hm]
  · obtain ⟨t, d⟩ := B cdv A outer s H E hr
    exact ⟨t, (d (fun _ => False) (fun _ => False) H).p, run_O hn (fun M0 P0 H0 => (d M0 P0 H0).r) h⟩
theorem bodyN {sp : Sp} (F : Fun K x qual st f fd) (S : FnScope N ps (defScope st)) (len : ∀ vs H Q E, sp vs H Q E → vs.length = ps.length) (B : BodyG P w K mg base qual st f N k b)
    (h : ∀ (t : TS) vs H Q E, (∀ (M0 : Addr → Prop) (P0 : Addr → Prop) (H0 : Hp), RSt (ctx K M0 P0 H0) t b) → sp vs H Q E → t { nx := fun _ H' => Q .non H', rt := Q } (start N vs) H) : FnG P w K mg base CX0 (k + 1) f fd ps sp := by
  refine F.okG S len fun cdv A outer s H vs Q E hg hr hsp => ?_
  obtain ⟨t, d⟩ := B cdv A outer s H E hg hr
  exact ⟨t, (d (fun _ => False) (fun _ => False) H).p.nox, h t vs H Q E (fun M0 P0 H0 => (d M0 P0 H0).r) hsp⟩
theorem okFG (F : Fun K x qual st f fd) (S : FnScope N ps (defScope st)) (hm : ps.length = m) (hn : N.length = m + n) (B : BodyG P w K mg base qual st f N k b) : FnG P w K mg base CX0 (k + 1) f fd ps (spF K m (runF m n b)) := by
  refine bodyN F S (fun vs H Q E h => ?_) B fun t vs H Q E hr h => run_F hn hr h
  obtain ⟨M, ds, d, _, hd, hl, _⟩ := h
  rw [hd.length, hl, hm]
theorem okOG (F : Fun K x qual st f fd) (S : FnScope N ps (defScope st)) (hm : ps.length = m) (hn : N.length = m + n) (B : BodyG P w K mg base qual st f N k b) : FnG P w K mg base CX0 (k + 1) f fd ps (spO K m (runO m n b)) := by
  refine bodyN F S (fun vs H Q E h => ?_) B fun t vs H Q E hr h => run_O hn hr h
  obtain ⟨M, a, d0, xs, ds, r, d1, rfl, _, _, _, hd, hl, _⟩ := h
  rw [List.length_cons, hd.length, hl, hm]
end
end DL
namespace L2
open PySem PySem.Spec PyProof.Rows
def tyName : PyData → String
  | .none => "NoneType" | .bool _ => "bool" | .int _ => "int" | .str _ => "str" | .list _ => "list" | .tuple _ => "tuple" | .dict _ => "dict"
section
variable {K : PySem.W.Frag} {p : Addr} {H H' : Hp} {x : V} {d : PyData} {Q : VK}
theorem ty_list {a : Addr} {xs : List V} (h : SqL K H a xs) : TyX K H (.ref a) (.type "list") := by
  rcases h with (h | ⟨o, h⟩) | ⟨o, its, n, h, c, _⟩
  · exact .base (.lst h)
  · exact .base (.frz h)
  · exact .kList h c
theorem ty_tup {a : Addr} {xs : List V} (h : SqT K H a xs) : TyX K H (.ref a) (.type "tuple") := by
  rcases h with (h | ⟨o, h⟩) | ⟨o, its, n, h, c, _⟩
  · exact .base (.tup h)
  · exact .fTuple h
  · exact .kTuple h c
theorem Dn.ty (h : Dn K p H x d) : TyX K H x (.type (tyName d)) := by
  cases h with
  | non => exact .base .non
  | bl b => exact .base (.bl b)
  | int i => exact .base (.int i)
  | str y _ => exact .base (.str y)
  | lst _ h _ => exact ty_list h
  | tup h _ => exact ty_tup h
  | dic h _ _ => exact .base (.dK h)
end
def getI : PyData → Int | .int i => i | _ => 0
def btw (d : PyData) (lo hi : Int) : Bool := match d with | .int i => decide (lo ≤ i ∧ i ≤ hi) | _ => false
def letters : Str := "abcdefghijklmnopqrstuvwxyz"
def alnums : Str := "abcdefghijklmnopqrstuvwxyz0123456789"
def headOk (x : Str) : Bool := match x.cps.toList with | c :: _ => decide (c ∈ letters.cps.toList) | [] => false
def nameOk (x : Str) : Bool := (decide (1 ≤ x.length) && decide (x.length ≤ 8)) && (headOk x && x.cps.toList.all fun c => decide (c ∈ alnums.cps.toList))
def isName : PyData → Bool | .str x => nameOk x | _ => false
def isWord (d : PyData) (ws : List Str) : Bool := match d with | .str x => ws.contains x | _ => false
def isStretch (d : PyData) (lo hi : Int) : Bool := match d with | .tuple [a, b] => btw a lo hi && btw b (getI a + 1) hi | _ => false
def sndI : PyData → Int | .tuple [_, b] => getI b | _ => 0
def touchesFrom (hi : Int) : List PyData → Int → Bool
  | [], _ => true
  | d :: r, lo => isStretch d lo hi && touchesFrom hi r (sndI d + 1)
def touchesOk (d : PyData) (lo hi : Int) : Bool := match d with | .tuple ds => decide (ds.length ≤ 6) && touchesFrom hi ds lo | _ => false
def modes : List Str := ["write", "latch", "touch", "trim"]
def tails : List Str := ["stop", "on"]
def isOld : PyData → Bool | .str x => decide (x = "old") | _ => false
def isPass (L : Int) (d : PyData) : Bool := match d with
  | .tuple [n, m, f, t, u, g, e] => (isName n && !isOld n) && ((isWord m modes && isWord e tails) && (isStretch (.tuple [f, t]) 0 L && (touchesOk u (getI f) (getI t) && btw g 0 100)))
  | _ => false
def nameOf : PyData → Str | .tuple (.str x :: _) => x | _ => ""
def firstWrong (L : Int) : List PyData → Nat → List Str → Option Nat
  | [], _, _ => none
  | d :: r, i, ns => if decide (8 ≤ i) || (!isPass L d || ns.contains (nameOf d)) then some i else firstWrong L r (i + 1) (ns ++ [nameOf d])
def plOf (x : Str) : List PyData → Nat → Option Nat
  | [], _ => none
  | d :: r, i => if nameOf d = x then some i else plOf x r (i + 1)
/-- data whose outermost tuple may stand anywhere -/
def Dt (K : PySem.W.Frag) (p : Addr) (H : Hp) (x : V) (d : PyData) : Prop := Dn K p H x d ∨ ∃ a xs ds, x = .ref a ∧ d = .tuple ds ∧ SqT K H a xs ∧ DnAll K p H xs ds
theorem Dt.ty {K : PySem.W.Frag} {p : Addr} {H : Hp} {x : V} {d : PyData} (h : Dt K p H x d) : TyX K H x (.type (tyName d)) := by
  rcases h with h | ⟨a, xs, ds, rfl, rfl, h, _⟩
  · exact h.ty
  · exact ty_tup h
end L2
namespace L2
open PySem PySem.Spec PyProof.Rows
theorem DnAll.c1 {K : PySem.W.Frag} {p : Addr} {H : Hp} {xs : List V} {d : PyData} {ds : List PyData} (h : DnAll K p H xs (d :: ds)) : ∃ v r, xs = v :: r ∧ Dn K p H v d ∧ DnAll K p H r ds := by
  cases h with
  | cons a b => exact ⟨_, _, rfl, a, b⟩
theorem DnAll.c0 {K : PySem.W.Frag} {p : Addr} {H : Hp} {xs : List V} (h : DnAll K p H xs []) : xs = [] := by
  cases h
  rfl
theorem DnAll.seven {K : PySem.W.Frag} {p : Addr} {H : Hp} {xs : List V} {a b c d e f g : PyData} (h : DnAll K p H xs [a, b, c, d, e, f, g]) :
    ∃ x1 x2 x3 x4 x5 x6 x7, xs = [x1, x2, x3, x4, x5, x6, x7] ∧ Dn K p H x1 a ∧ Dn K p H x2 b ∧ Dn K p H x3 c ∧ Dn K p H x4 d ∧ Dn K p H x5 e ∧ Dn K p H x6 f ∧ Dn K p H x7 g := by
  obtain ⟨x1, r, rfl, h1, h⟩ := h.c1
  obtain ⟨x2, r, rfl, h2, h⟩ := h.c1
  obtain ⟨x3, r, rfl, h3, h⟩ := h.c1
  obtain ⟨x4, r, rfl, h4, h⟩ := h.c1
  obtain ⟨x5, r, rfl, h5, h⟩ := h.c1
  obtain ⟨x6, r, rfl, h6, h⟩ := h.c1
  obtain ⟨x7, r, rfl, h7, h⟩ := h.c1
  obtain rfl := h.c0
  exact ⟨x1, x2, x3, x4, x5, x6, x7, rfl, h1, h2, h3, h4, h5, h6, h7⟩
theorem stretch_inv {d : PyData} {lo hi : Int} (h : isStretch d lo hi = true) : ∃ i j, d = .tuple [.int i, .int j] ∧ lo ≤ i ∧ i < j ∧ j ≤ hi := by
  cases d with
  | tuple es =>
    match es, h with
    | [u, v], h =>
      have e : (btw u lo hi && btw v (getI u + 1) hi) = true := h
      obtain ⟨e1, e2⟩ := Bool.and_eq_true_iff.mp e
      cases u with
      | int i =>
        cases v with
        | int j =>
          have a : lo ≤ i ∧ i ≤ hi := of_decide_eq_true e1
          have b : i + 1 ≤ j ∧ j ≤ hi := of_decide_eq_true e2
          exact ⟨i, j, rfl, a.1, by omega, b.2⟩
        | _ => simp [btw] at e2
      | _ => simp [btw] at e1
  | _ => simp [isStretch] at h
end L2
namespace L2
open PySem PySem.Spec PyProof.Rows
theorem seven_of {α : Type} {l : List α} (h : l.length = 7) : ∃ a b c d e f g, l = [a, b, c, d, e, f, g] := by
  match l, h with
  | [a, b, c, d, e, f, g], _ => exact ⟨a, b, c, d, e, f, g, rfl⟩
theorem isPass_eq (L : Int) (n m f t u g e : PyData) : isPass L (.tuple [n, m, f, t, u, g, e]) = ((isName n && !isOld n) && ((isWord m modes && isWord e tails) && (isStretch (.tuple [f, t]) 0 L && (touchesOk u (getI f) (getI t) && btw g 0 100)))) := rfl
theorem isPass_len {L : Int} {ds : List PyData} (h : ds.length ≠ 7) : isPass L (.tuple ds) = false := by
  match ds, h with
  | [], _ => rfl
  | [_], _ => rfl
  | [_, _], _ => rfl
  | [_, _, _], _ => rfl
  | [_, _, _, _], _ => rfl
  | [_, _, _, _, _], _ => rfl
  | [_, _, _, _, _, _], _ => rfl
  | [_, _, _, _, _, _, _], h => exact absurd rfl h
  | _ :: _ :: _ :: _ :: _ :: _ :: _ :: _ :: _, _ => rfl
theorem passable {L : Int} {d : PyData} (h : isPass L d = true) : ∃ x m f t u g e, d = .tuple [.str x, m, .int f, .int t, u, .int g, e] ∧ nameOk x = true ∧ isWord m modes = true ∧ isWord e tails = true ∧ 0 ≤ f ∧ f < t ∧ t ≤ L ∧ touchesOk u f t = true ∧ 0 ≤ g ∧ g ≤ 100 ∧ x ≠ "old" := by
  cases d with
  | tuple ds =>
    by_cases l : ds.length = 7
    · obtain ⟨n, m, f, t, u, g, e, rfl⟩ := seven_of l
      rw [isPass_eq] at h
      obtain ⟨k1, k2⟩ := Bool.and_eq_true_iff.mp h
      obtain ⟨a1, a2⟩ := Bool.and_eq_true_iff.mp k1
      obtain ⟨b1, b2⟩ := Bool.and_eq_true_iff.mp k2
      obtain ⟨c1, c2⟩ := Bool.and_eq_true_iff.mp b1
      obtain ⟨d1, d2⟩ := Bool.and_eq_true_iff.mp b2
      obtain ⟨e1, e2⟩ := Bool.and_eq_true_iff.mp d2
      obtain ⟨i, j, ed, y1, y2, y3⟩ := stretch_inv d1
      injection ed with ed
      injection ed with u1 u2
      injection u2 with u2
      subst u1 u2
      cases n with
      | str x =>
        cases g with
        | int g =>
          have b := of_decide_eq_true e2
          refine ⟨x, m, i, j, u, g, e, rfl, a1, c1, c2, y1, y2, y3, e1, b.1, b.2, fun z => ?_⟩
          subst z
          simp [isOld] at a2
        | _ => simp [btw] at e2
      | _ => simp [isName] at a1
    · rw [isPass_len l] at h
      cases h
  | _ => simp [isPass] at h
end L2
namespace L2
open PySem PySem.Spec PyProof.Rows
def Trk (K : PySem.W.Frag) (C p x : Addr) (H : Hp) (L : Int) (ds : List PyData) : Prop :=
  ∃ dx t, H x = some (.ins C dx [("_length", .int L), ("_passes", .ref t)]) ∧ Dn K p H (.ref t) (.tuple ds) ∧ (1 ≤ L ∧ L ≤ 1000000000000) ∧ firstWrong L ds 0 [] = none
theorem Trk.same {K : PySem.W.Frag} {C p x : Addr} {H H' : Hp} {L : Int} {ds : List PyData} (h : Trk K C p x H L ds) (e : Same H H') : Trk K C p x H' L ds :=
  let ⟨dx, t, h1, h2, h3⟩ := h; ⟨dx, t, e _ _ h1, h2.same e, h3⟩
def partIx : Str → Option Nat := fun z => if z = "mode" then some 1 else if z = "from" then some 2 else if z = "to" then some 3 else if z = "touches" then some 4 else if z = "glide" then some 5 else if z = "tail" then some 6 else none
end L2
namespace L2
open PySem PySem.Spec PyProof.Rows
end L2
namespace L2
open PySem PySem.Spec PyProof.Rows
/-- a change of a part that there is: (z, pt, e) at c; pass i of ds, its part j -/
structure Chg (K : PySem.W.Frag) (p c : Addr) (H : Hp) (ds : List PyData) (z pt : Str) (e : PyData) (i j : Nat) (es : List PyData) : Prop where
  at_ : ∃ v, SqT K H c [.str z, .str pt, v] ∧ Dn K p H v e
  lz : Sok z
  place : plOf z ds 0 = some i
  part : partIx pt = some j
  pass : ds[i]? = some (.tuple es)
  seven : es.length = 7
theorem Chg.same {K : PySem.W.Frag} {p c : Addr} {H H' : Hp} {ds : List PyData} {z pt : Str} {e : PyData} {i j : Nat} {es : List PyData} (h : Chg K p c H ds z pt e i j es) (s : Same H H') : Chg K p c H' ds z pt e i j es :=
  ⟨h.at_.elim fun v q => ⟨v, s.seqT q.1, q.2.same s⟩, h.lz, h.place, h.part, h.pass, h.seven⟩
theorem DnAll.set {K : PySem.W.Frag} {p : Addr} {H : Hp} {v : V} {d : PyData} (h : Dn K p H v d) : ∀ {xs : List V} {ds : List PyData} (i : Nat), DnAll K p H xs ds → DnAll K p H (xs.set i v) (ds.set i d)
  | _, _, _, .nil => .nil
  | _, _, 0, .cons _ t => .cons h t
  | _, _, i + 1, .cons q t => .cons q (DnAll.set h i t)
end L2
namespace L2
open PySem PySem.Spec PyProof.Rows
theorem Sm.same {p : Addr} {H H1 H2 : Hp} (a : Sm p H H1) (b : Same H1 H2) : Sm p H H2 := a.trans (.of_same b)
def words : List Str := ["a", "b", "olds", "z9", "write", "c", "on", "pass", "abcdefgh", "t0000001", "ol", "track", "ab", "aa"]
def turned (i : Nat) : List Str := (words.drop i ++ words.take i).take 8
end L2
namespace L2
open PySem PySem.Spec PyProof.Rows
/-- pairs of ints, each at its own place -/
inductive Cells (H : Hp) : List V → List PyData → Prop
  | nil : Cells H [] []
  | cons {t : Addr} {a b : Int} {vs : List V} {ds : List PyData} : H t = some (.tup [.int a, .int b]) → Cells H vs ds → Cells H (.ref t :: vs) (.tuple [.int a, .int b] :: ds)
theorem Cells.mono {H H' : Hp} (e : ∀ b xs, H b = some (.tup xs) → H' b = some (.tup xs)) : ∀ {vs : List V} {ds : List PyData}, Cells H vs ds → Cells H' vs ds
  | _, _, .nil => .nil
  | _, _, .cons h t => .cons (e _ _ h) (Cells.mono e t)
theorem Cells.snoc {H : Hp} {t : Addr} {a b : Int} (h : H t = some (.tup [.int a, .int b])) : ∀ {vs : List V} {ds : List PyData}, Cells H vs ds → Cells H (vs ++ [.ref t]) (ds ++ [.tuple [.int a, .int b]])
  | _, _, .nil => .cons h .nil
  | _, _, .cons q r => .cons q (Cells.snoc h r)
theorem Cells.all {K : PySem.W.Frag} {p : Addr} {H : Hp} : ∀ {vs : List V} {ds : List PyData}, Cells H vs ds → DnAll K p H vs ds
  | _, _, .nil => .nil
  | _, _, .cons h t => .cons (.tup (.inl (.inl h)) (.cons (.int _) (.cons (.int _) .nil))) (Cells.all t)
theorem Cells.length {H : Hp} : ∀ {vs : List V} {ds : List PyData}, Cells H vs ds → vs.length = ds.length
  | _, _, .nil => rfl
  | _, _, .cons _ t => congrArg Nat.succ (Cells.length t)
end L2
namespace L2
open PySem PySem.Spec PyProof.Rows
end L2
namespace L2
open PySem PySem.Spec PyProof.Rows
/-- tuples stay -/
def Tk (H H' : Hp) : Prop := ∀ b xs, (H b = some (.tup xs) → H' b = some (.tup xs)) ∧ ∀ o, H b = some (.frz o (.tup xs)) → H' b = some (.frz o (.tup xs))
theorem Tk.refl (H : Hp) : Tk H H := fun _ _ => ⟨id, fun _ => id⟩
theorem Tk.trans {H H1 H2 : Hp} (a : Tk H H1) (b : Tk H1 H2) : Tk H H2 := fun c xs => ⟨fun h => (b c xs).1 ((a c xs).1 h), fun o h => (b c xs).2 o ((a c xs).2 o h)⟩
theorem Tk.of_same {H H' : Hp} (e : Same H H') : Tk H H' := fun b xs => ⟨fun h => e _ _ h, fun o h => e _ _ h⟩
theorem Tk.put {H : Hp} {o : Addr} {l l' : List V} (ho : H o = some (.lst l)) : Tk H (upd H o (.lst l')) := fun b xs =>
  ⟨fun h => by rw [upd_ne (by rintro rfl; rw [ho] at h; cases h)]; exact h, fun q h => by rw [upd_ne (by rintro rfl; rw [ho] at h; cases h)]; exact h⟩
theorem word_inv {d : PyData} {ws : List Str} (h : isWord d ws = true) : ∃ x, d = .str x ∧ x ∈ ws := by
  cases d with
  | str x => exact ⟨x, rfl, by simpa [isWord] using h⟩
  | _ => simp [isWord] at h
theorem nameOk_len {z : Str} (h : nameOk z = true) : z.length ≤ 8 := by
  unfold nameOk at h
  exact of_decide_eq_true (Bool.and_eq_true_iff.mp (Bool.and_eq_true_iff.mp h).1).2
theorem alnum_small : ∀ c ∈ alnums.cps.toList, c < 0x110000 := by decide +kernel
theorem nameOk_ok {z : Str} (h : nameOk z = true) : Sok z := by
  refine ⟨Nat.le_trans (nameOk_len h) (by decide), ?_⟩
  unfold nameOk at h
  have h2 := (Bool.and_eq_true_iff.mp (Bool.and_eq_true_iff.mp h).2).2
  unfold PyData.strOk
  rw [Array.all_eq_true]
  intro i hi
  have h3 := List.all_eq_true.mp h2 z.cps[i] (by rw [Array.mem_toList_iff]; exact Array.getElem_mem hi)
  exact decide_eq_true (alnum_small _ (of_decide_eq_true h3))
end L2
namespace L2
open PySem PySem.Spec PyProof.Rows
end L2
namespace L2
open PySem PySem.Spec PyProof.Rows
structure Sh (n k : Nat) (d : PyData) : Prop where
  nd : d.hasDict = false
  sh : d.showable = true
  lv : d.leavesShort 20 = true
  bk : d.bulk ≤ n
  dp : d.depth ≤ k
structure ShA (n k : Nat) (ds : List PyData) : Prop where
  nd : PyData.hasDictAll ds = false
  sh : PyData.showableAll ds = true
  lv : PyData.leavesShortAll 20 ds = true
  bk : PyData.bulkAll ds ≤ n
  dp : PyData.depthAll ds ≤ k
theorem Sh.int {i : Int} (h : i.natAbs < 10 ^ 15) : Sh 0 0 (.int i) := by
  refine ⟨by simp [PyData.hasDict], ?_, ?_, by simp [PyData.bulk], by simp [PyData.depth]⟩
  · simp only [PyData.showable]
    refine decide_eq_true ?_
    by_cases z : i.natAbs = 0
    · rw [z]; decide
    · have : i.natAbs < 2 ^ 60 := Nat.lt_trans h (by decide)
      have := (Nat.log2_lt z).mpr this
      omega
  · simp only [PyData.leavesShort]
    refine decide_eq_true ?_
    show (Str.ofString (toString i)).length ≤ 20
    rw [PySem.ofString_length]
    exact Nat.le_trans (int_text_length_le10 (k := 15) (by decide) h) (by decide)
theorem Sh.str {x : Str} (h : Sok x) : Sh x.length 0 (.str x) := by
  refine ⟨by simp [PyData.hasDict], by simp [PyData.showable], ?_, by simp only [PyData.bulk]; exact Nat.le_refl _, by simp [PyData.depth]⟩
  simp only [PyData.leavesShort]
  rw [List.all_eq_true]
  intro c hc
  have h2 := h.2
  unfold PyData.strOk at h2
  obtain ⟨i, hi, e⟩ := List.getElem_of_mem hc
  have h3 := Array.all_eq_true.mp h2 i (by simpa using hi)
  have h4 : c < 0x110000 := by rw [← e]; simpa using h3
  exact decide_eq_true (Nat.lt_trans h4 (by decide))
theorem ShA.nil : ShA 0 0 [] := ⟨by simp [PyData.hasDictAll], by simp [PyData.showableAll], by simp [PyData.leavesShortAll], by simp [PyData.bulkAll], by simp [PyData.depthAll]⟩
theorem ShA.cons {n m k l : Nat} {d : PyData} {ds : List PyData} (h : Sh n k d) (t : ShA m l ds) : ShA (n + 1 + m) (max k l) (d :: ds) := by
  refine ⟨?_, ?_, ?_, ?_, ?_⟩
  · simp only [PyData.hasDictAll, h.nd, t.nd]; rfl
  · simp only [PyData.showableAll, h.sh, t.sh]; rfl
  · simp only [PyData.leavesShortAll, h.lv, t.lv]; rfl
  · simp only [PyData.bulkAll]; have := h.bk; have := t.bk; omega
  · simp only [PyData.depthAll]; have := h.dp; have := t.dp; omega
theorem ShA.tup {n k : Nat} {ds : List PyData} (h : ShA n k ds) : Sh n (k + 1) (.tuple ds) := ⟨by simp only [PyData.hasDict]; exact h.nd, by simp only [PyData.showable]; exact h.sh, by simp only [PyData.leavesShort]; exact h.lv, by simp only [PyData.bulk]; exact h.bk, by simp only [PyData.depth]; have := h.dp; omega⟩
theorem ShA.lst {n k : Nat} {ds : List PyData} (h : ShA n k ds) : Sh n (k + 1) (.list ds) := ⟨by simp only [PyData.hasDict]; exact h.nd, by simp only [PyData.showable]; exact h.sh, by simp only [PyData.leavesShort]; exact h.lv, by simp only [PyData.bulk]; exact h.bk, by simp only [PyData.depth]; have := h.dp; omega⟩
theorem Sh.mono {n m k l : Nat} {d : PyData} (h : Sh n k d) (a : n ≤ m) (b : k ≤ l) : Sh m l d := ⟨h.nd, h.sh, h.lv, Nat.le_trans h.bk a, Nat.le_trans h.dp b⟩
theorem ShA.mono {n m k l : Nat} {ds : List PyData} (h : ShA n k ds) (a : n ≤ m) (b : k ≤ l) : ShA m l ds := ⟨h.nd, h.sh, h.lv, Nat.le_trans h.bk a, Nat.le_trans h.dp b⟩
theorem ShA.all {n k : Nat} : ∀ {ds : List PyData}, (∀ d ∈ ds, Sh n k d) → ShA (ds.length * (n + 1)) k ds
  | [], _ => ShA.nil.mono (Nat.zero_le _) (Nat.zero_le _)
  | d :: r, h => by
    have a := ShA.cons (h d List.mem_cons_self) (ShA.all (ds := r) fun e he => h e (List.mem_cons_of_mem _ he))
    refine a.mono ?_ (by omega)
    rw [List.length_cons, Nat.succ_mul]
    omega
theorem Sh.shown {n k : Nat} {d : PyData} (h : Sh n k d) (hn : n ≤ 700000) : d.shown.length ≤ sizeLine := by
  have a := PyData.shown_le_bulk 20 (by decide) d h.lv
  have b := h.bk
  rw [sizeLine_eq]
  omega
theorem touches_sh {lo hi : Int} (h0 : 0 ≤ lo) (h1 : hi ≤ 1000000000000) : ∀ {ds : List PyData} {l : Int}, lo ≤ l → touchesFrom hi ds l = true → ∀ d ∈ ds, Sh 2 1 d
  | d :: r, l, hl, h, e, he => by
    have h' : (isStretch d l hi && touchesFrom hi r (sndI d + 1)) = true := h
    obtain ⟨a, b⟩ := Bool.and_eq_true_iff.mp h'
    obtain ⟨i, j, rfl, c1, c2, c3⟩ := stretch_inv a
    rcases List.mem_cons.mp he with rfl | he
    · exact (ShA.tup (.cons (.int (by omega)) (.cons (.int (by omega)) .nil))).mono (by omega) (by omega)
    · exact touches_sh h0 h1 (show lo ≤ j + 1 by omega) b e he
theorem pass_sh {L : Int} {d : PyData} (hL : L ≤ 1000000000000) (h : isPass L d = true) : Sh 60 4 d := by
  obtain ⟨x, m, f, t, u, g, e, rfl, hx, hm, he, f0, ft, tL, hu, g0, g1, _⟩ := passable h
  obtain ⟨y, rfl, hy⟩ := word_inv hm
  obtain ⟨z, rfl, hz⟩ := word_inv he
  have ly : ∀ x ∈ modes, Sok x ∧ x.length ≤ 5 := by decide +kernel
  have lz : ∀ x ∈ tails, Sok x ∧ x.length ≤ 4 := by decide +kernel
  have lx := nameOk_len hx
  cases u with
  | tuple ds =>
    have h2 : (decide (ds.length ≤ 6) && touchesFrom t ds f) = true := hu
    obtain ⟨a, b⟩ := Bool.and_eq_true_iff.mp h2
    have l6 : ds.length ≤ 6 := of_decide_eq_true a
    have sU : Sh 18 2 (.tuple ds) := (ShA.all (touches_sh f0 (by omega) (Int.le_refl f) b)).tup.mono (by omega) (Nat.le_refl _)
    have q := ShA.tup (.cons (.str (nameOk_ok hx)) (.cons (.str (ly y hy).1) (.cons (.int (i := f) (by omega)) (.cons (.int (i := t) (by omega)) (.cons sU (.cons (.int (i := g) (by omega)) (.cons (.str (lz z hz).1) .nil)))))))
    have := (ly y hy).2
    have := (lz z hz).2
    exact q.mono (by omega) (by omega)
  | _ => simp [touchesOk] at hu
/-- repr([L, passes]) -/
theorem track_sh {L : Int} {ds : List PyData} (h0 : 0 ≤ L) (hL : L ≤ 1000000000000) (l8 : ds.length ≤ 8) (h : ∀ d ∈ ds, isPass L d = true) : Sh 600 6 (.list [.int L, .tuple ds]) := by
  have a : ShA 488 4 ds := (ShA.all fun d hd => pass_sh hL (h d hd)).mono (by omega) (Nat.le_refl _)
  exact (ShA.lst (.cons (.int (i := L) (by omega)) (.cons a.tup .nil))).mono (by omega) (by omega)
end L2
namespace L2
open PySem PySem.Spec PyProof.Rows
end L2
namespace L2
open PySem PySem.Spec PyProof.Rows
end L2
namespace L2
open PySem PySem.Spec PyProof.Rows
end L2
namespace L2
open PySem PySem.Spec PyProof.Rows
end L2
namespace L2
open PySem PySem.Spec PyProof.Rows
end L2
namespace L2
open PySem PySem.Spec PyProof.Rows
end L2
namespace PySem.W
open PySem PySem.Spec
section
variable {prog : Program} {w : World} {A : Around} {E : Value → Shared → Prop} {s : Shared} {K : Frag} {x C L f : Addr} {h₀ : Heap} {m : Str → Option Value} {ox : Obj} {od : Option Obj} {b tb : Value}
/-- != by an own __eq__ (and no own __ne__) -/
theorem myNe_entry (X : K.In s.heap) (I : InstAt s.heap x ox C od) (hs : findIn K (.ref C) "__eq__" = some (some (.ref f))) (hf : isFn K (.ref f) = true) (hu : A.units < cLine) {Q : Fin → Shared → Prop}
    (h : wpAny (model prog w) A (call (.ref f) [.ref x, b]) (fun v s' => ∃ r, v = .bool r ∧ Q (.done (.ret (.bool (!r)))) s') E s) :
    wpAny (model prog w) A (Builtin.«object.__ne__» ⟨[.ref x, b], []⟩) Q E s := by
  unfold Builtin.«object.__ne__»
  repeat (first
    | with_reducible refine wpAny_cRoomFor hu ?_
    | (refine wpAny_bind (m := callSpecialIfBound? (.ref x) (Str.ofString "__eq__") [b])
        (ifBound_K X I hs hf (wpAny_mono h (fun r s' hr => by
          obtain ⟨b, rfl, hq⟩ := hr
          repeat (first | exact hq | exact wpAny_pure hq | exact wpAny_truthy_bool hq | (refine wpAny_bind (m := truthy (.bool _)) (wpAny_truthy_bool ?_)) | wp_step)) fun _ _ e => e)))
    | wp_step)
theorem myNe_K {Q : Value → Shared → Prop} (hu : A.units + 1 < cLine) (Fk : PyProof.Rows.Fr h₀ L s.heap m) (X₀ : K.In h₀) (I : InstAt s.heap x ox C od) (hb : Looks (model prog w) s.heap (typeOf b) tb) (hn : notFirst K C tb = true)
    (hne : findIn K (.ref C) "__ne__" = some (some (.builtin "object.__ne__"))) (hob : subIn K (.ref C) (.type "object") = some true)
    (hs : findIn K (.ref C) "__eq__" = some (some (.ref f))) (hf : isFn K (.ref f) = true)
    (h : wpAny (model prog w) A.in1 (call (.ref f) [.ref x, b]) (fun v s' => ∃ r, v = .bool r ∧ Q (.bool (!r)) s') E s) : wpAny (model prog w) A (richCompare .NotEq (.ref x) b) Q E s := by
  have X := X₀.keeps Fk.keep
  have one : wpAny (model prog w) A (tryCompare (.ref x) "__ne__" b) (fun r s' => ∃ v, r = some v ∧ Q v s') E s := by
    unfold tryCompare
    simp only [callSpecialIfBound?, bindSpecialIfBound?]
    refine wpAny_bind (wpAny_holding (wpAny_bind (wpAny_bind (wpAny_bind (I.type.here ((looks_findIn X hne).here ?_))))))
    simp only [PySem.F.cmp_object.ne.bind]
    refine wpAny_bind (wpAny_askSetting (wpAny_ite ?_))
    have run : wpAny (model prog w) A (call (.builtin "object.__ne__") [.ref x, b]) (fun v s' => v ≠ .notImplemented ∧ Q v s') E s := by
      refine wpAny_call (codeAny_call_builtin PySem.F.cmp_object.ne.plain PySem.F.cmpEntry_ne
        (check_slot PySem.F.cmpKind_ne PySem.F.cmpSplit_ne (I.type.andThen (looks_subIn X hob)) (PySem.F.cmpArgs_ne _ _) ?_))
      refine myNe_entry (A := A.in1) X I hs hf hu (wpAny_mono h (fun v s' hv => ?_) fun _ _ e => e)
      obtain ⟨r, rfl, hq⟩ := hv
      exact ⟨r, rfl, fun z => (nomatch z), hq⟩
    have fin : wpAny (model prog w) A (call (.builtin "object.__ne__") ([.ref x] ++ [b]) >>= fun v => pure (some v)) (fun a s' => wpAny (model prog w) A (match a with | some .notImplemented => pure none | none => pure none | some v => pure (some v)) (fun r s' => ∃ v, r = some v ∧ Q v s') E s') E s :=
      wpAny_bind (wpAny_mono run (fun v s' h' => wpAny_pure (by
        obtain ⟨hn', hq⟩ := h'
        cases v <;> first | exact absurd rfl hn' | exact wpAny_pure ⟨_, rfl, hq⟩)) fun _ _ h' => h')
    split
    · exact wpAny_bind (wpAny_pure (wpAny_pure (by exact fin)))
    · exact wpAny_tryCatch (wpAny_bind (wpAny_pure (wpAny_pure (by exact fin))))
  unfold richCompare
  simp only [oneThing_ref]
  refine wpAny_holding (wpAny_bind (wpAny_cRoomFor (Nat.lt_of_succ_lt hu) ?_))
  refine wpAny_bind (I.type.here (wpAny_bind (hb.here ?_)))
  split
  · rename_i q
    have e : subIn K tb (.ref C) = some false := by
      rcases Bool.or_eq_true_iff.mp hn with e | e
      · rw [beq_iff_eq.mp e] at q; simp at q
      · exact beq_iff_eq.mp e
    refine wpAny_bind ((looks_subIn X e).here ?_)
    simp only [Bool.false_eq_true, if_false]
    refine wpAny_bind (wpAny_mono one (fun r s' z => ?_) fun _ _ e => e)
    obtain ⟨v, rfl, hq⟩ := z
    exact wpAny_pure hq
  · refine wpAny_bind (wpAny_pure ?_)
    simp only [Bool.false_eq_true, if_false]
    refine wpAny_bind (wpAny_mono one (fun r s' z => ?_) fun _ _ e => e)
    obtain ⟨v, rfl, hq⟩ := z
    exact wpAny_pure hq
end
end PySem.W
namespace L2
open PySem PySem.Spec PyProof.Rows
end L2
namespace L2
open PySem PySem.Spec PyProof.Rows
def aD : PyData := .tuple [.str "a", .str "touch", .int 2, .int 8, .tuple [.tuple [.int 3, .int 5]], .int 3, .str "stop"]
end L2
namespace L2
open PySem PySem.Spec PyProof.Rows
end L2
namespace PySem.W
open PySem PySem.Spec PySem.Calls PyProof.Rows
section
variable {prog : Program} {w : World} {A : Around} {E : Value → Shared → Prop} {s : Shared}
/-- a, .., *r = a list: the first i, then a new list of the others -/
theorem myStar {l : Addr} {its : Array Value} {i : Nat} {Q : List Value → Shared → Prop} (hh : A.handled = none) (hl : s.heap.IsList l its) (hle : i ≤ its.size) (hz : its.size ≤ sizeLine)
    (hQ : ∀ (h' : Heap) (tk : Nat), (∀ b o, s.heap.get? b = some o → h'.get? b = some o) → Q (its.toList.take i ++ [.ref h'.objs.size]) { s with heap := h'.push { cls := .type "list", data := .seq (its.toList.drop i).toArray }, toks := tk }) :
    wpAny (model prog w) A (unpackItems (.ref l) (i + 1) (some i)) Q E s := by
  have ne : l ≠ s.heap.objs.size := by obtain ⟨o, ho, _⟩ := hl; exact Nat.ne_of_lt (Heap.lt_size ho)
  unfold unpackItems
  refine wpAny_bind (m := notIterableAtAll (.ref l)) ?_
  unfold notIterableAtAll
  refine wpAny_bind (wpAny_specialOf hl.typeIs slot_list_iter.lookup (wpAny_pure ?_))
  simp only [Bool.false_eq_true, if_false]
  refine wpAny_bind (m := holding [.ref l] _) (wpAny_holding (wpAny_pyIter_list hl ?_))
  refine wpAny_bind (m := holding _ _) (wpAny_holding (kun_draw ne i 0 _ _ ⟨_, Heap.get?_push_size _ rfl, rfl, rfl⟩ (hl.push _) (by omega) fun h1 it1 sb1 => ?_))
  have hl1 : h1.IsList l its := (hl.push _).extBut sb1.extBut ne
  rw [Nat.zero_add] at it1
  obtain ⟨oi, hoi, _⟩ := id it1
  obtain ⟨ol, hol, _⟩ := id hl1
  rw [List.drop_zero]
  have lf : (its.toList.take i).length = i := by rw [List.length_take, Array.length_toList]; omega
  rw [if_neg (by rw [lf]; omega)]
  refine wpAny_bind (m := holding _ _) (wpAny_holding (kun_collect (s := { s with heap := h1 }) (T := "list_iterator") (.inr (.inr (.inl rfl))) (Walks.list (A := A.in1) hh s.heap.objs.size l ne its) (fun j u st => st.1.typeIs) (k := i) hle ⟨it1, hl1⟩ (Heap.lt_size hoi) (Heap.lt_size hol) (fun h2 tk hk => ?_) hz))
  have lr : (its.toList.drop i).length - (i + 1 - 1 - i) = (its.toList.drop i).length := by omega
  show wpAny _ _ (if (its.toList.drop i).length < i + 1 - 1 - i then _ else _) _ _ _
  rw [if_neg (by omega)]
  show wpAny _ _ (newList ((its.toList.drop i).take ((its.toList.drop i).length - (i + 1 - 1 - i))) >>= fun d => pure (its.toList.take i ++ [d] ++ (its.toList.drop i).drop ((its.toList.drop i).length - (i + 1 - 1 - i)))) _ _ _
  rw [lr, List.take_length, List.drop_length]
  refine wpAny_bind (wpAny_newList (wpAny_pure ?_) (by rw [List.length_drop, Array.length_toList]; omega))
  rw [List.append_nil]
  refine hQ h2 tk fun b o e => ?_
  have nb : b ≠ s.heap.objs.size := Nat.ne_of_lt (Heap.lt_size e)
  exact hk b o nb (sb1.extBut b o nb (Heap.get?_push_of_some _ e))
end
end PySem.W
namespace L2
open PySem PySem.Spec PyProof.Rows
/-- a, .., *r = a list -/
def gStar (K : PySem.W.Frag) (i : Nat) (t : TGs) : TG := fun v σ H Q => ∃ a xs, v = .ref a ∧ SqL K H a xs ∧ i ≤ xs.length ∧ ∀ D, H D = none → t (xs.take i ++ [.ref D]) σ (upd H D (.lst (xs.drop i))) Q
section
variable {X : Cx} {pos : Pos}
theorem pg_star {es : List Expr} {k : Nat} {t : TGs} {i : Nat} (hc : X.calm = true) (h : PGs X es t)
    (hn : (assignEach es X.env).length = i + 1 := by rfl) (hst : (assignEach es X.env).findIdx? (·.1) = some i := by rfl) : PG X (.Tuple es k pos) (gStar X.K i t) := by
  refine ⟨fun pins s σ H v u Q I r hw => ?_⟩
  obtain ⟨a, xs, e1, hq, hl, hw⟩ := hw
  subst e1
  cases r
  obtain ⟨its, rv, pl, hz⟩ := I.list hq
  rw [PyProof.Rows.assign_Tuple]
  refine wpAny_bind (wpAny_standAt ?_)
  unfold unpack
  rw [hn, hst]
  refine wpAny_bind (wpAny_holding (PySem.W.myStar (i := i) (I.ok.hd hc) pl.isList (by simpa [← rv.length] using hl) (by simpa [← rv.length] using hz) fun h' tk hx => ?_))
  have I1 : Inv X pins σ H { s with heap := h', toks := tk } := I.kept (t' := tk) hx
  have hf : H h'.objs.size = none := I1.hok.fresh (Nat.le_refl _)
  have I2 : Inv X pins σ (upd H h'.objs.size (.lst (xs.drop i))) { s with heap := h'.push { cls := .type "list", data := .seq (its.drop i).toArray }, toks := tk } := by
    refine I1.laid (t' := tk) (fun b u e => Heap.get?_push_of_some _ e) (Nat.le_refl _) ?_
    exact ⟨by rw [List.length_drop]; omega, its.drop i, 0, rv.drop i, Heap.get?_push_size _ rfl⟩
  have := h.run pins _ σ _ _ (its.take i ++ [.ref h'.objs.size]) Q I2 ((rv.take i).append (.cons (show RelV (V.ref h'.objs.size) (Value.ref h'.objs.size) from rfl) .nil)) (hw _ hf)
  simpa using this
end
end L2
namespace L2
open PySem PySem.Spec PyProof.Rows
section
variable {X : Cx} {p : Pos}
/-- the starred one among the targets takes its value as any other -/
theorem pgs_star {e : Expr} {es : List Expr} {t : TG} {u : TGs} (one : PG X e t) (more : PGs X es u)
    (hs : (assignEach (.Starred e p :: es) X.env).map (·.2) = assign e X.env :: (assignEach es X.env).map (·.2) := by rfl) : PGs X (.Starred e p :: es) (gCons t u) := by
  refine ⟨fun pins s σ H vs us Q I r q => ?_⟩
  obtain ⟨v, vr, rfl, q⟩ := q
  cases r with
  | cons r rr =>
    rw [hs]
    refine assignInOrder_cons ?_
    refine thn (one.run pins s σ H v _ _ I r q) fun _ s1 z => ?_
    obtain ⟨σ1, H1, I1, q1⟩ := z
    exact more.run pins s1 σ1 H1 vr _ Q I1 rr q1
end
end L2
namespace L2
open PySem PySem.Spec PyProof.Rows TL
def numT (n : Nat) : Str := Str.ofString (toString ((n : Nat) : Int))
theorem numT_tl (n : Nat) : (numT n).cps.toList = numL n := tl_num n
theorem numT_len {n : Nat} (h : n < 10 ^ 13) : 1 ≤ (numT n).length ∧ (numT n).length ≤ 13 := by
  have a := numL_len (k := 13) (by decide) h
  have b := numL_ne n
  have e : (numT n).length = (numL n).length := by
    rw [← numT_tl n]
    simp [Str.length]
  rw [e]
  refine ⟨?_, a⟩
  cases h' : numL n with
  | nil => exact absurd h' b
  | cons c r => rw [List.length_cons]; omega
theorem digit_in : ∀ c, 48 ≤ c → c ≤ 57 → c ∈ (("0123456789" : Str)).cps.toList := by
  intro c h1 h2
  have : c = 48 ∨ c = 49 ∨ c = 50 ∨ c = 51 ∨ c = 52 ∨ c = 53 ∨ c = 54 ∨ c = 55 ∨ c = 56 ∨ c = 57 := by omega
  rcases this with rfl | rfl | rfl | rfl | rfl | rfl | rfl | rfl | rfl | rfl <;> decide +kernel
theorem numL_head : ∀ n : Nat, ∀ r, numL n = 48 :: r → n = 0 := by
  intro n
  induction n using Nat.strongRecOn with
  | _ n ih =>
    intro r h
    by_cases l : n < 10
    · rw [numL_lt l] at h
      injection h with h _
      omega
    · rw [numL_step (by omega)] at h
      cases h2 : numL (n / 10) with
      | nil => exact absurd h2 (numL_ne _)
      | cons c s =>
        rw [h2, List.cons_append] at h
        injection h with h _
        subst h
        have := ih (n / 10) (by omega) s h2
        omega
theorem numT_zero : numT 0 = "0" := by decide +kernel
end L2
namespace L2
open PySem PySem.Spec PyProof.Rows TL
def stT (a b : Nat) : Str := Txt.join "-" [numT a, numT b]
theorem stT_eq (a b : Nat) : Str.empty ++ numT a ++ ("-" : Str) ++ numT b = stT a b := by
  unfold stT
  rw [join_eq]
  refine ext_tl ?_
  rw [tl_append, tl_append, tl_append, tl_join, show tl Str.empty = [] from rfl]
  simp only [List.map_cons, List.map_nil, joinL, List.nil_append, List.append_assoc]
theorem num_free {n s : Nat} (h : s < 48 ∨ 57 < s) : s ∉ tl (numT n) := by
  rw [show tl (numT n) = numL n from numT_tl n]
  exact numL_free h
theorem stT_split (a b : Nat) : Txt.split (stT a b) "-" = [numT a, numT b] := by
  refine split_join (y := "-") (s := 45) (S := []) (by rfl) (by decide +kernel) (by simp) fun p hp => ?_
  rcases List.mem_cons.mp hp with rfl | hp
  · exact num_free (.inl (by decide))
  · obtain rfl := List.mem_singleton.mp hp
    exact num_free (.inl (by decide))
end L2
namespace L2
open PySem PySem.Spec PyProof.Rows TL
theorem stT_len {a b : Nat} (ha : a < 10 ^ 13) (hb : b < 10 ^ 13) : (stT a b).length ≤ 27 := by
  have h1 := (numT_len ha).2
  have h2 := (numT_len hb).2
  rw [len_tl] at h1 h2
  rw [← stT_eq, len_tl, tl_append, tl_append, tl_append, show tl Str.empty = [] from rfl, show tl ("-" : Str) = [45] from by decide +kernel]
  simp only [List.nil_append, List.length_append, List.length_cons, List.length_nil]
  omega
end L2
namespace L2
open PySem PySem.Spec PyProof.Rows TL
theorem log_small {n : Nat} (h : n < 10 ^ 13) : ((n : Nat) : Int).natAbs.log2 < 1920 := by
  rw [Int.natAbs_natCast]
  by_cases z : n = 0
  · subst z; decide
  · exact Nat.lt_trans ((Nat.log2_lt z).mpr (Nat.lt_trans h (by decide : 10 ^ 13 < 2 ^ 60))) (by decide)
theorem app_len (x y : Str) : (x ++ y).length = x.length + y.length := by
  rw [len_tl, len_tl, len_tl, tl_append, List.length_append]
def stW : PyData → Str | .tuple [.int a, .int b] => stT a.toNat b.toNat | _ => Str.empty
def rowW : PyData → List Str | .tuple [.str z, .str m, .int f, .int t, .tuple us, .int g, .str e] => [("pass" : Str), z, m, numT f.toNat, numT t.toNat, numT g.toNat, e] ++ us.map stW | _ => []
def rowT (d : PyData) : Str := Txt.join " " (rowW d)
theorem touch_mem {hi : Int} (h1 : hi ≤ 1000000000000) : ∀ {ds : List PyData} {lo : Int}, 0 ≤ lo → touchesFrom hi ds lo = true → ∀ d ∈ ds, ∃ a b : Nat, d = .tuple [.int (a : Int), .int (b : Int)] ∧ a < 10 ^ 13 ∧ b < 10 ^ 13
  | d :: r, lo, h0, h, e, he => by
    have h' : (isStretch d lo hi && touchesFrom hi r (sndI d + 1)) = true := h
    obtain ⟨a, b⟩ := Bool.and_eq_true_iff.mp h'
    obtain ⟨i, j, rfl, c1, c2, c3⟩ := stretch_inv a
    rcases List.mem_cons.mp he with rfl | he
    · obtain ⟨x, rfl⟩ : ∃ x : Nat, i = x := ⟨i.toNat, by omega⟩
      obtain ⟨y, rfl⟩ : ∃ y : Nat, j = y := ⟨j.toNat, by omega⟩
      exact ⟨x, y, rfl, by omega, by omega⟩
    · exact touch_mem h1 (show 0 ≤ j + 1 by omega) b e he
/-- a pass, part by part -/
theorem pass_parts {L : Int} {d : PyData} (hL : L ≤ 1000000000000) (h : isPass L d = true) : ∃ (z m e : Str) (f t g : Nat) (us : List PyData), d = .tuple [.str z, .str m, .int (f : Int), .int (t : Int), .tuple us, .int (g : Int), .str e] ∧
    nameOk z = true ∧ m ∈ modes ∧ e ∈ tails ∧ f < 10 ^ 13 ∧ t < 10 ^ 13 ∧ g < 10 ^ 13 ∧ us.length ≤ 6 ∧ ∀ d ∈ us, ∃ a b : Nat, d = .tuple [.int (a : Int), .int (b : Int)] ∧ a < 10 ^ 13 ∧ b < 10 ^ 13 := by
  obtain ⟨z, m, f, t, u, g, e, rfl, hz, hm, he, f0, ft, tL, hu, g0, g1, _⟩ := passable h
  obtain ⟨y, rfl, hy⟩ := word_inv hm
  obtain ⟨w, rfl, hw⟩ := word_inv he
  obtain ⟨f, rfl⟩ : ∃ x : Nat, f = x := ⟨f.toNat, by omega⟩
  obtain ⟨t, rfl⟩ : ∃ x : Nat, t = x := ⟨t.toNat, by omega⟩
  obtain ⟨g, rfl⟩ : ∃ x : Nat, g = x := ⟨g.toNat, by omega⟩
  cases u with
  | tuple us =>
    have h2 : (decide (us.length ≤ 6) && touchesFrom t us f) = true := hu
    obtain ⟨a, b⟩ := Bool.and_eq_true_iff.mp h2
    exact ⟨z, y, w, f, t, g, us, rfl, hz, hy, hw, by omega, by omega, by omega, of_decide_eq_true a, touch_mem (by omega) f0 b⟩
  | _ => simp [touchesOk] at hu
theorem sum_le {l : List Nat} {n : Nat} (h : ∀ x ∈ l, x ≤ n) : l.sum ≤ l.length * n := by
  induction l with
  | nil => simp
  | cons x r ih =>
    have a := h x List.mem_cons_self
    have b := ih fun y hy => h y (List.mem_cons_of_mem _ hy)
    rw [List.sum_cons, List.length_cons, Nat.succ_mul]
    omega
theorem row_words {L : Int} {d : PyData} (hL : L ≤ 1000000000000) (h : isPass L d = true) : (rowW d).length ≤ 13 ∧ ∀ w ∈ rowW d, w.length ≤ 27 := by
  obtain ⟨z, m, e, f, t, g, us, rfl, hz, hm, he, hf, ht, hg, l6, hu⟩ := pass_parts hL h
  refine ⟨?_, ?_⟩
  · show ([("pass" : Str), z, m, numT f, numT t, numT g, e] ++ us.map stW).length ≤ 13
    rw [List.length_append, List.length_map]
    simp only [List.length_cons, List.length_nil]
    omega
  · intro w hw
    rcases List.mem_append.mp (show w ∈ [("pass" : Str), z, m, numT f, numT t, numT g, e] ++ us.map stW from hw) with hw | hw
    · have hz' := nameOk_len hz
      have lm : ∀ x ∈ modes, x.length ≤ 27 := by decide +kernel
      have lt : ∀ x ∈ tails, x.length ≤ 27 := by decide +kernel
      simp only [List.mem_cons, List.not_mem_nil, or_false] at hw
      rcases hw with rfl | rfl | rfl | rfl | rfl | rfl | rfl
      · decide +kernel
      · omega
      · exact lm _ hm
      · have := (numT_len hf).2; omega
      · have := (numT_len ht).2; omega
      · have := (numT_len hg).2; omega
      · exact lt _ he
    · obtain ⟨u, hu', rfl⟩ := List.mem_map.mp hw
      obtain ⟨a, b, rfl, ha, hb⟩ := hu u hu'
      exact stT_len ha hb
end L2
namespace L2
open PySem PySem.Spec PyProof.Rows TL
theorem joinL_len (s : List Nat) : ∀ ps : List (List Nat), (joinL s ps).length ≤ (ps.map List.length).sum + ps.length * s.length
  | [] => by simp [joinL]
  | [p] => by simp [joinL]
  | p :: q :: r => by
    have ih := joinL_len s (q :: r)
    show (p ++ (s ++ joinL s (q :: r))).length ≤ _
    rw [List.length_append, List.length_append, List.map_cons, List.sum_cons, List.length_cons, Nat.succ_mul]
    omega
theorem join_length (y : Str) (ps : List Str) : (Txt.join y ps).length ≤ (ps.map (·.length)).sum + ps.length * y.length := by
  rw [join_eq, len_tl, tl_join, len_tl]
  have := joinL_len (tl y) (ps.map tl)
  rw [List.map_map, List.length_map] at this
  have e : ps.map (List.length ∘ tl) = ps.map (·.length) := List.map_congr_left fun x _ => (len_tl x).symm
  rw [e] at this
  exact this
theorem rowT_len {L : Int} {d : PyData} (hL : L ≤ 1000000000000) (h : isPass L d = true) : (rowT d).length ≤ 400 := by
  obtain ⟨a, b⟩ := row_words hL h
  have h1 := join_length " " (rowW d)
  have h2 := sum_le (l := (rowW d).map (·.length)) (n := 27) (fun x hx => by
    obtain ⟨w, hw, rfl⟩ := List.mem_map.mp hx
    exact b w hw)
  rw [List.length_map] at h2
  have h3 : (" " : Str).length = 1 := by decide +kernel
  rw [h3] at h1
  show (Txt.join " " (rowW d)).length ≤ 400
  omega
def headT (n : Nat) : Str := Txt.join " " [("track" : Str), numT n]
theorem headT_eq (n : Nat) : Str.empty ++ ("track " : Str) ++ numT n = headT n := by
  unfold headT
  rw [join_eq]
  refine ext_tl ?_
  rw [tl_append, tl_append, tl_join, show tl Str.empty = [] from rfl, show tl ("track " : Str) = tl ("track" : Str) ++ tl (" " : Str) from by decide +kernel]
  simp only [List.map_cons, List.map_nil, joinL, List.nil_append, List.append_assoc]
theorem headT_len {n : Nat} (h : n < 10 ^ 13) : (headT n).length ≤ 19 := by
  have h1 := (numT_len h).2
  rw [← headT_eq, app_len, app_len, show Str.empty.length = 0 from rfl, show ("track " : Str).length = 6 from by decide +kernel]
  omega
def rowsW (n : Nat) (ds : List PyData) : List Str := headT n :: ds.map rowT
def textT (n : Nat) (ds : List PyData) : Str := Txt.join "\n" (rowsW n ds)
theorem rowsW_len {L : Int} {n : Nat} {ds : List PyData} (hL : L ≤ 1000000000000) (hn : n < 10 ^ 13) (hp : ∀ d ∈ ds, isPass L d = true) (l8 : ds.length ≤ 8) : ((rowsW n ds).map (·.length)).sum + (rowsW n ds).length * 1 ≤ 4000 := by
  have h1 := sum_le (l := (rowsW n ds).map (·.length)) (n := 400) (fun x hx => by
    obtain ⟨w, hw, rfl⟩ := List.mem_map.mp hx
    rcases List.mem_cons.mp (show w ∈ headT n :: ds.map rowT from hw) with rfl | hw
    · exact Nat.le_trans (headT_len hn) (by decide)
    · obtain ⟨d, hd, rfl⟩ := List.mem_map.mp hw
      exact rowT_len hL (hp d hd))
  rw [List.length_map] at h1
  have h2 : (rowsW n ds).length = ds.length + 1 := by
    show (headT n :: ds.map rowT).length = _
    rw [List.length_cons, List.length_map]
  omega
end L2
namespace L2
open PySem PySem.Spec PyProof.Rows TL
end L2
namespace L2
open PySem PySem.Spec PyProof.Rows TL
theorem headT_split (n : Nat) : Txt.split (headT n) " " = [("track" : Str), numT n] := by
  refine split_join (y := " ") (s := 32) (S := []) (by rfl) (by decide +kernel) (by simp) fun p hp => ?_
  rcases List.mem_cons.mp hp with rfl | hp
  · decide +kernel
  · obtain rfl := List.mem_singleton.mp hp
    exact num_free (.inl (by decide))
theorem joinL_free {s : Nat} {S : List Nat} (hS : s ∉ S) : ∀ {ps : List (List Nat)}, (∀ p ∈ ps, s ∉ p) → s ∉ joinL S ps
  | [], _ => by simp [joinL]
  | [p], h => by show s ∉ p; exact h p List.mem_cons_self
  | p :: q :: r, h => by
    show s ∉ p ++ (S ++ joinL S (q :: r))
    intro z
    rcases List.mem_append.mp z with z | z
    · exact h p List.mem_cons_self z
    rcases List.mem_append.mp z with z | z
    · exact hS z
    · exact joinL_free hS (fun x hx => h x (List.mem_cons_of_mem _ hx)) z
theorem join_free {s : Nat} {y : Str} {ps : List Str} (hy : s ∉ tl y) (h : ∀ p ∈ ps, s ∉ tl p) : s ∉ tl (Txt.join y ps) := by
  rw [join_eq, tl_join]
  refine joinL_free hy fun p hp => ?_
  obtain ⟨x, hx, rfl⟩ := List.mem_map.mp hp
  exact h x hx
theorem stT_free {s a b : Nat} (h : s < 45) : s ∉ tl (stT a b) := by
  refine join_free (y := "-") ?_ fun p hp => ?_
  · rw [show tl ("-" : Str) = [45] from by decide +kernel]
    intro z
    have := List.mem_singleton.mp z
    omega
  · rcases List.mem_cons.mp hp with rfl | hp
    · exact num_free (.inl (by omega))
    · obtain rfl := List.mem_singleton.mp hp
      exact num_free (.inl (by omega))
theorem alnum_big : ∀ c ∈ alnums.cps.toList, 45 ≤ c := by decide +kernel
theorem name_free {z : Str} {s : Nat} (h : nameOk z = true) (hs : s < 45) : s ∉ tl z := by
  unfold nameOk at h
  have h2 := (Bool.and_eq_true_iff.mp (Bool.and_eq_true_iff.mp h).2).2
  intro m
  have h3 := List.all_eq_true.mp h2 s m
  have := alnum_big _ (of_decide_eq_true h3)
  omega
theorem row_free {L : Int} {d : PyData} {s : Nat} (hL : L ≤ 1000000000000) (h : isPass L d = true) (hs : s < 45) : ∀ w ∈ rowW d, s ∉ tl w := by
  obtain ⟨z, m, e, f, t, g, us, rfl, hz, hm, he, hf, ht, hg, l6, hu⟩ := pass_parts hL h
  intro w hw
  rcases List.mem_append.mp (show w ∈ [("pass" : Str), z, m, numT f, numT t, numT g, e] ++ us.map stW from hw) with hw | hw
  · have lp : ∀ c ∈ tl ("pass" : Str), 45 ≤ c := by decide +kernel
    have lm : ∀ x ∈ modes, ∀ c ∈ tl x, 45 ≤ c := by decide +kernel
    have lt : ∀ x ∈ tails, ∀ c ∈ tl x, 45 ≤ c := by decide +kernel
    simp only [List.mem_cons, List.not_mem_nil, or_false] at hw
    rcases hw with rfl | rfl | rfl | rfl | rfl | rfl | rfl
    · exact fun z => by have := lp s z; omega
    · exact name_free hz hs
    · exact fun z => by have := lm _ hm s z; omega
    · exact num_free (.inl (by omega))
    · exact num_free (.inl (by omega))
    · exact num_free (.inl (by omega))
    · exact fun z => by have := lt _ he s z; omega
  · obtain ⟨u, hu', rfl⟩ := List.mem_map.mp hw
    obtain ⟨a, b, rfl, ha, hb⟩ := hu u hu'
    exact stT_free hs
theorem rowT_split {L : Int} {d : PyData} (hL : L ≤ 1000000000000) (h : isPass L d = true) : Txt.split (rowT d) " " = rowW d := by
  refine split_join (y := " ") (s := 32) (S := []) (by rfl) (by decide +kernel) ?_ (row_free hL h (by decide))
  obtain ⟨z, m, e, f, t, g, us, rfl, _⟩ := pass_parts hL h
  simp [rowW]
theorem textT_split {L : Int} {n : Nat} {ds : List PyData} (hL : L ≤ 1000000000000) (hp : ∀ d ∈ ds, isPass L d = true) : Txt.split (textT n ds) "\n" = rowsW n ds := by
  refine split_join (y := "\n") (s := 10) (S := []) (by rfl) (by decide +kernel) (by simp [rowsW]) fun w hw => ?_
  rcases List.mem_cons.mp (show w ∈ headT n :: ds.map rowT from hw) with rfl | hw
  · refine join_free (y := " ") (by decide +kernel) fun p hp => ?_
    rcases List.mem_cons.mp hp with rfl | hp
    · decide +kernel
    · obtain rfl := List.mem_singleton.mp hp
      exact num_free (.inl (by decide))
  · obtain ⟨d, hd, rfl⟩ := List.mem_map.mp hw
    exact join_free (y := " ") (by decide +kernel) (row_free hL (hp d hd) (by decide))
end L2
namespace L2
open PySem PySem.Spec PyProof.Rows TL
end L2
namespace L2
open PySem PySem.Spec PyProof.Rows TL
theorem textT_len {L : Int} {n : Nat} {ds : List PyData} (hL : L ≤ 1000000000000) (hn : n < 10 ^ 13) (hp : ∀ d ∈ ds, isPass L d = true) (l8 : ds.length ≤ 8) : (textT n ds).length ≤ 4000 := by
  have h1 := join_length "\n" (rowsW n ds)
  have h2 := rowsW_len hL hn hp l8
  have h3 : ("\n" : Str).length = 1 := by decide +kernel
  rw [h3] at h1
  exact Nat.le_trans h1 h2
end L2
namespace L2
open PySem PySem.Spec PyProof.Rows TL
end L2
namespace L2
open PySem PySem.Spec PyProof.Rows TL
end L2
namespace L2
open PySem PySem.Spec PyProof.Rows
/-- cls(e, ..), the i-th slot holding the class at C -/
def tMakeL (i : Nat) (C : Addr) (sp : Sp) (dvs : List V) (E : XK) (t : TA) : TE := fun σ H Q => σ[i]? = some (some (.ref C)) ∧ tMake C sp dvs E t σ H Q
section
variable {X : Cx} {CX : CXT} {k i : Nat} {f C : Addr} {fd : FuncData} {ps : List Str} {sp : Sp} {dvs : List V} {ds : List Value} {E : XK} {x : Str} {p pos : Pos} {e : Expr} {es : List Expr} {t : TA}
theorem pe_makeL (M : Mk X.K C f) (F : FnOk X.prog X.w X.K X.mg X.base CX k f fd ps sp) (hr : Room (k + 1) X.A) (hb : Binds X.K fd ps ds) (hd : Vals dvs ds) (hx : Passes CX X E) (ha : PA X (e :: es) t)
    (hN : X.N[i]? = some x := by rfl) (hv : Vis X.env.scope x := by first | exact Or.inl rfl | exact Or.inr (Or.inl rfl) | exact Or.inr (Or.inr rfl)) (hdb : (x == ("__debug__" : Str)) = false := by decide) (hcd : (x == ("__classdict__" : Str)) = false := by decide)
    (he : starEach (e :: es) X.env = (false, eval e X.env) :: starEach es X.env := by rfl) (hpl : (backTo pos (starEach es X.env)).any (·.1) = false := by rfl) : PE X (.Call (.Name x p) (e :: es) [] pos) (tMakeL i C sp dvs E t) := by
  refine ⟨fun pins s σ H Q I h => ?_⟩
  obtain ⟨hs, ht⟩ := h
  have hvar := (pe_var (pos := p) hN hv hdb hcd).run pins s σ H (fun v H1 => v = .ref C ∧ H1 = H) I ⟨.ref C, hs, rfl, rfl⟩
  refine wpAny_Call_Name_kw (thn hvar fun u s1 z => ?_)
  obtain ⟨v, H1, I1, r1, rfl, rfl⟩ := z
  cases r1
  refine PySem.W.callWith_K (h₀ := X.base) I.ok.mod.kin M.kp ?_ he hpl
  refine thn (ha.run pos pins s1 σ _ _ I1 ht) fun us s2 z => ?_
  obtain ⟨vs, H2, I2, r, q⟩ := z
  exact ⟨I2.kIn, run_make M F hr hb hd hx I2 r q⟩
end
end L2
namespace L2
open PySem PySem.Spec PyProof.Rows TL
end L2
namespace L2
open PySem PySem.Spec PyProof.Rows
section
variable {X : Cx} {n : Nat}
/-- str(x), x an instance with an own __str__ -/
def rStrI (C : Addr) (sp : Sp) (E : XK) : List V → Hp → VK → Prop := fun xs H Q => ∃ (a dx : Addr) (fs : List (Str × V)), xs = [.ref a] ∧ H a = some (.ins C dx fs) ∧ sp [.ref a] H (fun v H' => ∃ z, v = .str z ∧ Q (.str z) H') E
theorem call_strI {CX : CXT} {C f : Addr} {fd : FuncData} {ps : List Str} {sp : Sp} {E : XK} (F : FnOk X.prog X.w X.K X.mg X.base CX n f fd ps sp) (hr : Room (n + 2) X.A)
    (hs : PySem.W.findIn X.K (.ref C) "__str__" = some (some (.ref f))) (hf : PySem.W.isFn X.K (.ref f) = true) (hb : Binds X.K fd ps []) (hx : Passes CX X E) : CallR X (.type "str") (rStrI C sp E) := by
  intro pins s σ H xs us Q I r h
  obtain ⟨a, dx, fs, rfl, ha, hsp⟩ := h
  obtain ⟨u, rfl, rx⟩ := vals1 r
  cases rx
  obtain ⟨mA, J, _⟩ := ins_get I.hok ha
  obtain ⟨od, J, _⟩ := J.look
  have s1 : Sub X (n + 1) X.A.in1 := Sub.in1 ⟨hr, rfl⟩
  have s2 : Sub X n X.A.in1.in1 := s1.in1
  refine PySem.W.kso_call s2.room.units0 I.kIn J hs hf ?_
  have e0 : Env0 X.prog X.w X.K X.mg X.base X.A.in1.in1 X.stack s H := by
    have e := I.env0
    exact ⟨by rw [s2.fr]; exact e.frames, e.mod, e.bs, e.bsz, e.funs, e.frf, e.hok, e.bare⟩
  have hl := F.len _ _ _ _ hsp
  have r2 : Vals [V.ref a] [Value.ref a] := .cons rfl .nil
  refine wpAny_call (codeAny_mono (F.run X.A.in1.in1 X.stack s H ⟨[.ref a], []⟩ [.ref a] [.ref a] _ E s2.room e0 (by
    have := hb s [.ref a] I.kIn (by simpa using hl)
    simpa using this) r2 hsp) fun r s' hq => ?_)
  cases r with
  | error e => exact hx pins σ H s e s' I hq
  | ok fl =>
    cases fl with
    | ret w =>
      obtain ⟨v, H', I', rz, z, ez, q⟩ := I.after hq
      subst ez
      obtain ⟨tk, rfl⟩ := rz
      exact ⟨.str z, H', I', ⟨tk, rfl⟩, q⟩
    | next => exact False.elim hq
    | brk => exact False.elim hq
    | cont => exact False.elim hq
end
end L2
namespace L2
open PySem PySem.Spec PyProof.Rows ClX
/-- a classmethod -/
structure Dk (K : PySem.W.Frag) (C : Addr) (x qual : Str) (st : Stmt) (ps : List Str) where
  f : Addr
  fd : FuncData
  F : Fun K x qual st f fd
  p : Addr
  R : CRead K C (.type "type")
  M : CMet K C (.type "type") x p f
  b : Binds K fd ps []
end L2
set_option autoImplicit false
namespace DL
open PySem PySem.Spec PyProof.Rows L2
theorem dat_ins {K : PySem.W.Frag} {M : Addr → Prop} {H : Hp} {v : V} {C : Addr} {ns : List Str} {es : List D} (h : Dat K M H v (.ins C ns es)) : ∃ a dx fs, v = .ref a ∧ ¬ M a ∧ H a = some (.ins C dx fs) ∧ fs.map (·.1) = ns ∧ DatAll K M H (fs.map (·.2)) es := by
  cases h with
  | ins n h q a => exact ⟨_, _, _, rfl, n, h, q, a⟩
def lookD : List Str → List D → Str → Option D
  | n :: ns, d :: ds, f => if f = n then some d else lookD ns ds f
  | _, _, _ => none
theorem lookD_at {K : PySem.W.Frag} {M : Addr → Prop} {H : Hp} {f : Str} {d : D} : ∀ {fs : List (Str × V)} {ds : List D}, DatAll K M H (fs.map (·.2)) ds → lookD (fs.map (·.1)) ds f = some d → ∃ v, fs.lookup f = some v ∧ Dat K M H v d
  | [], _, _, h => by cases h
  | (n, x) :: r, [], h, e => by cases h
  | (n, x) :: r, d0 :: ds, .cons h1 h2, e => by
    rw [List.map_cons] at e
    unfold lookD at e
    by_cases z : f = n
    · rw [if_pos z] at e
      cases e
      exact ⟨x, by simp [List.lookup, z], h1⟩
    · rw [if_neg z] at e
      obtain ⟨v, hv, dv⟩ := lookD_at h2 e
      exact ⟨v, by rw [List.lookup, beq_eq_false_iff_ne.mpr z]; exact hv, dv⟩
/-- x is an instance of the class at C without an attribute of this name -/
def isObj (C : Addr) (m : Str) : D → Bool
  | .ins B ns _ => B == C && !(ns.contains m)
  | _ => false
/-- how many values a def takes -/
def Takes (m : Nat) (F : List D → Option D) : Prop := ∀ ds d, F ds = some d → ds.length = m
def TakesO (m : Nat) (F : D → List D → Option (D × D)) : Prop := ∀ d0 ds r, F d0 ds = some r → ds.length + 1 = m
theorem takesF {m n : Nat} {b : Mo Fl} : Takes m (runF m n b) := fun ds d h => by
  unfold runF at h
  split at h
  · assumption
  · cases h
theorem takesN {m n : Nat} {b : Mo Fl} : Takes m (runN m n b) := fun ds d h => by
  unfold runN at h
  split at h
  · assumption
  · cases h
theorem takesO {m n : Nat} {b : Mo Fl} : TakesO m (runO m n b) := fun d0 ds d h => by
  unfold runO at h
  split at h
  · assumption
  · cases h
section
variable {K : PySem.W.Frag} {c : Ctx K} {ta : TE} {ma : Mo D} {tl tk : TA} {ml mk : Mo (List D)} {m : Nat} {F : List D → Option D} {FO : D → List D → Option (D × D)} {dvs : List V} {dds : List D}
theorem r_call (hF : Takes m F) (h : RAv c tl ml) : REv c (tCall (spF K m F) [] E0 tl) (mFn F ml) := by
  intro M σ H ρ S d ρ' hm Q q
  obtain ⟨xs, ρ1, h1, hm⟩ := mBd_some hm
  obtain ⟨hg, rfl⟩ := mL_some hm
  exact h M σ H ρ S xs _ h1 _ fun M1 vs H1 E1 S1 d1 => ⟨M1, xs, d, S1.kind, by rw [List.append_nil]; exact d1, hF _ _ hg, hg, fun u H' s h => q M1 u H' (E1.trans (.same s) S.kind) (S1.same s) h⟩
theorem r_callN (hF : Takes m F) (h : RAv c tl ml) : RNw c (tCall (spN K m F) [] E0 tl) (mFn F ml) := by
  intro M σ H ρ S d ρ' hm Q q
  obtain ⟨xs, ρ1, h1, hm⟩ := mBd_some hm
  obtain ⟨hg, rfl⟩ := mL_some hm
  exact h M σ H ρ S xs _ h1 _ fun M1 vs H1 E1 S1 d1 => ⟨M1, xs, d, S1.kind, by rw [List.append_nil]; exact d1, hF _ _ hg, hg, fun a H' o n s ho h => by
    obtain ⟨E2, S2, nh⟩ := S1.hold n s ho h.mut
    exact q _ a H' (E1.dm a n) (E1.trans E2 S.kind) S2 ⟨.inr rfl, nh, (S1.free0 n).1, (S1.free0 n).2, o, ho, h⟩⟩
/-- f(x, ..), x the name in slot i, which f may change -/
def mCallO (F : D → List D → Option (D × D)) (i : Nat) (a : Mo (List D)) : Mo D := fun ρ => if owns i ρ = true then mBd a (fun ds ρ1 => match ρ1[i]? with
  | some (.own p d0) => (match F d0 ds with
    | some (r, d1) => some (r, ρ1.set i (.own p d1))
    | none => none)
  | _ => none) ρ else none
theorem r_callO {i : Nat} (hF : TakesO m FO) (h : RAv c tl ml) : REv c (tCall (spO K m FO) [] E0 (tCons (tVar i) tl)) (mCallO FO i ml) := by
  intro M σ H ρ S d ρ' hm Q q
  unfold mCallO at hm
  split at hm
  case isFalse => cases hm
  rename_i hw
  obtain ⟨p0, d0, e0⟩ := owns_some hw
  obtain ⟨a, ha, _⟩ := S.own e0
  obtain ⟨xs, ρ1, h1, h2⟩ := mBd_some hm
  split at h2
  · rename_i p d2 e1
    split at h2
    · rename_i r d1 hF2
      cases h2
      refine ⟨_, ha, h M σ H ρ S xs ρ1 h1 _ fun M1 vs H1 E1 S1 dd => ?_⟩
      obtain ⟨a', ha', hM, _, ho⟩ := S1.own e1
      rw [ha] at ha'; cases ha'
      refine ⟨M1, _, d2, vs ++ [], xs, d, d1, rfl, S1.kind, hM, ho, by rw [List.append_nil]; exact dd, hF _ _ _ hF2, hF2, fun u H' hb hn hu => ?_⟩
      have E2 := S1.mutE ha e1 hb hn
      exact q M1 u H' (E1.trans E2.1 S.kind) E2.2 hu
    · cases h2
  · cases h2
/-- an object that no slot holds is changed -/
theorem Sta.putO {M : Addr → Prop} {σ : L2.St} {H H' : Hp} {ρ : Cs} {a : Addr} {d d' : D} (S : Sta c M σ H ρ) (n : Nw c M σ H ρ a d) (ho : ∀ b o, b ≠ a → H b = some o → H' b = some o) (hn : Own K M H' a d') : Ev M H M H' ∧ Sta c M σ H' ρ := by
  have hM := n.m
  have E : Ev M H M H' := ⟨fun b h => .inl h, fun b u nb h => ho b u (fun z => nb (by rw [z]; exact hM)) h⟩
  refine ⟨E, S.pm, S.sub, S.new, fun b hb => ?_, fun b u nb h => ?_, S.len, fun i x y h1 h2 => ?_, S.inj⟩
  · by_cases z : b = a
    · subst z
      obtain ⟨o, q, w⟩ := hn
      exact ⟨o, q, w.mut⟩
    · obtain ⟨u, q, w⟩ := S.kind b hb
      exact ⟨u, ho b u z q, w⟩
  · exact ho b u (fun z => by rw [z, n.h0] at h; cases h) (S.base b u nb h)
  · cases S.cell i x y h1 h2 with
    | no => exact .no _
    | dat q => exact .dat (q.ev S.kind E)
    | own m' q w =>
      rename_i p' a' d''
      have ne : a' ≠ a := fun z => n.nh ⟨i, p', d'', by rw [← z]; exact h1, h2⟩
      exact .own m' q (w.elim fun u r => ⟨u, ho _ _ ne r.1, r.2.ev S.kind E⟩)
/-- f(e, ..), e's value a new object -/
def mCallNew (F : D → List D → Option (D × D)) (e : Mo D) (a : Mo (List D)) : Mo D := mBd e fun d0 => mBd a fun ds => mL ((F d0 ds).map (·.1))
theorem r_callNew (hF : TakesO m FO) (he : RNw c ta ma) (h : RAv c tl ml) : REv c (tCall (spO K m FO) [] E0 (tCons ta tl)) (mCallNew FO ma ml) := by
  intro M σ H ρ S d ρ' hm Q q
  obtain ⟨d0, ρ1, h1, hm1⟩ := mBd_some hm
  obtain ⟨xs, ρ2, h2, hm2⟩ := mBd_some hm1
  obtain ⟨hg, e3⟩ := mL_some hm2
  subst e3
  obtain ⟨⟨r, d1⟩, hF2, er⟩ := map_some hg
  cases er
  refine he M σ H ρ S d0 ρ1 h1 _ fun M1 a H1 hf E1 S1 n1 => h M1 σ H1 ρ1 S1 xs _ h2 _ fun M2 vs H2 E2 S2 dd => ?_
  have n2 := n1.es S1.kind E2
  refine ⟨M2, a, d0, vs ++ [], xs, r, d1, rfl, S2.kind, n2.m, n2.o, by rw [List.append_nil]; exact dd, hF _ _ _ hF2, hF2, fun u H' hb hn hu => ?_⟩
  have E12 := E1.trans E2 S.kind
  obtain ⟨E3, S3⟩ := S2.putO n2 hb hn
  refine q M2 u H' ⟨E12.ev.trans E3, fun b o nb hbo => hb b o (fun z => by rw [z, hf] at hbo; cases hbo) (E12.kp b o nb hbo), E12.hs, E12.mc, fun b hb' => E12.dm b ?_⟩ S3 hu
  cases z : H2 b with
  | none => rfl
  | some o =>
    by_cases w : b = a
    · subst w
      obtain ⟨o', ho', _⟩ := hn
      rw [ho'] at hb'; cases hb'
    · rw [hb b o w z] at hb'; cases hb'
/-- o.m(..) -/
def mMeth (C : Addr) (nm : Str) (F : List D → Option D) (o : Mo D) (a : Mo (List D)) : Mo D := mBd o fun x => if isObj C nm x = true then mBd a fun ds => mL (F (x :: ds)) else fun _ => none
/-- o.p, a property -/
def isIns (C : Addr) : D → Bool
  | .ins B _ _ => B == C
  | _ => false
theorem isIns_of {C : Addr} {x : D} (h : isIns C x = true) : ∃ ns es, x = .ins C ns es := by
  unfold isIns at h
  split at h
  · rename_i B ns es
    have := beq_iff_eq.mp h
    subst this
    exact ⟨ns, es, rfl⟩
  · cases h
def mProp (C : Addr) (F : List D → Option D) (o : Mo D) : Mo D := mBd o fun x => if isIns C x = true then mL (F [x]) else fun _ => none
theorem r_prop {C : Addr} (hF : Takes m F) (ho : REv c ta ma) : REv c (tProp C (spF K m F) [] E0 ta) (mProp C F ma) := by
  intro M σ H ρ S d ρ' hm Q q
  obtain ⟨x, ρ1, h1, hm1⟩ := mBd_some hm
  split at hm1
  case isFalse => cases hm1
  rename_i hx
  obtain ⟨ns, es, rfl⟩ := isIns_of hx
  obtain ⟨hg, e3⟩ := mL_some hm1
  subst e3
  refine ho M σ H ρ S _ _ h1 _ fun M1 v H1 E1 S1 dx => ?_
  obtain ⟨a, dx', fs, rfl, nM, hH, hns, hes⟩ := dat_ins dx
  exact ⟨a, dx', fs, rfl, hH, M1, _, d, S1.kind, .cons dx .nil, hF _ _ hg, hg, fun u H' s hu => q M1 u H' (E1.trans (.same s) S.kind) (S1.same s) hu⟩
/-- o.f, an attribute -/
def mFld (C : Addr) (f : Str) (o : Mo D) : Mo D := mBd o fun x => match x with
  | .ins B ns es => if B = C then mL (lookD ns es f) else fun _ => none
  | _ => fun _ => none
theorem r_fld {C : Addr} {f : Str} (hC : Cls K C) (hn : NoAttr K C f) (ho : REv c ta ma) : REv c (tFld K ta f) (mFld C f ma) := by
  intro M σ H ρ S d ρ' hm Q q
  obtain ⟨x, ρ1, h1, hm1⟩ := mBd_some hm
  split at hm1
  · rename_i B ns es
    split at hm1
    · rename_i e
      subst e
      obtain ⟨hg, e3⟩ := mL_some hm1
      subst e3
      refine ho M σ H ρ S _ _ h1 _ fun M1 v H1 E1 S1 dx => ?_
      obtain ⟨a, dx', fs, rfl, nM, hH, hns, hes⟩ := dat_ins dx
      subst hns
      obtain ⟨w, hw, dw⟩ := lookD_at hes hg
      exact ⟨a, _, dx', fs, w, rfl, hH, hC, hn, hw, q M1 w H1 E1 S1 dw⟩
    · cases hm1
  · cases hm1
/-- o.f = e, o the name in slot i -/
def putN (f : Str) : List Str → List Str
  | [] => [f]
  | g :: r => if g = f then g :: r else g :: putN f r
def putD (f : Str) (d : D) : List Str → List D → List D
  | g :: r, x :: s => if g = f then d :: s else x :: putD f d r s
  | _, _ => [d]
theorem putF_at {K : PySem.W.Frag} {M : Addr → Prop} {H : Hp} {f : Str} {v : V} {d : D} (hv : Dat K M H v d) : ∀ {fs : List (Str × V)} {ds : List D}, DatAll K M H (fs.map (·.2)) ds → (putF f v fs).map (·.1) = putN f (fs.map (·.1)) ∧ DatAll K M H ((putF f v fs).map (·.2)) (putD f d (fs.map (·.1)) ds)
  | [], _, h => by
    cases h
    exact ⟨rfl, .cons hv .nil⟩
  | (g, x) :: r, _, h => by
    cases h with
    | cons h1 h2 =>
      by_cases z : g = f
      · subst z
        simp only [putF, putN, putD, List.map_cons, if_pos trivial, if_true]
        exact ⟨trivial, .cons hv h2⟩
      · obtain ⟨a, b⟩ := putF_at hv h2
        simp only [putF, putN, putD, List.map_cons, if_neg z]
        exact ⟨by rw [a], .cons h1 b⟩
def sFldV (C : Addr) (i : Nat) (f : Str) (e : Mo D) : Mo Fl := mBd e fun d ρ => match ρ[i]? with
  | some (.own p (.ins B ns es)) => if B = C ∧ es.length < 1000 then some (.nx, ρ.set i (.own p (.ins B (putN f ns) (putD f d ns es)))) else none
  | _ => none
theorem r_sfld {C : Addr} {i : Nat} {f : Str} (hC : Cls K C) (hn : NoAttr K C f) (he : REv c ta ma) : RSt c (sFld K (tVar i) ta f) (sFldV C i f ma) := by
  intro M σ H ρ S fl ρ' hm D q
  obtain ⟨d, ρ1, h1, h2⟩ := mBd_some hm
  split at h2
  · rename_i p B ns es e1
    obtain ⟨⟨rfl, hl⟩, e2⟩ := if_some h2
    cases e2
    refine he M σ H ρ S d ρ1 h1 _ fun M1 v H1 E1 S1 dv => ?_
    obtain ⟨a, ha, hM, _, o, ho, hc⟩ := S1.own e1
    cases hc with
    | ins hns hes =>
      rename_i dx fs
      subst hns
      refine ⟨_, ha, a, _, dx, fs, rfl, ho, hC, hn, by have := hes.length; rw [List.length_map] at this; omega, ?_⟩
      have ev2 : Ev M1 H1 M1 (upd H1 a (.ins B dx (putF f v fs))) := ⟨fun b h => .inl h, fun b o nb h => by rw [upd_ne (fun z => nb (by rw [z]; exact hM))]; exact h⟩
      obtain ⟨p1, p2⟩ := putF_at (f := f) dv hes
      have E2 := S1.mut (d' := .ins B (putN f (fs.map (·.1))) (putD f d (fs.map (·.1)) es)) (H' := upd H1 a (.ins B dx (putF f v fs))) ha e1 (fun b o nb h => by rw [upd_ne nb]; exact h) ⟨_, upd_same, .ins p1 (p2.ev S1.kind ev2)⟩
      exact q M1 σ _ (E1.ev.trans E2.1) E2.2
  · cases h2
/-- C(..) -/
def mMake (C : Addr) (F : D → List D → Option (D × D)) (dds : List D) (a : Mo (List D)) : Mo D := mBd a fun ds => mL (match F (.ins C [] []) (ds ++ dds) with
  | some (.non, d1) => some d1
  | _ => none)
theorem r_make {C : Addr} (hF : TakesO m FO) (hd : ∀ M H, DatAll K M H dvs dds) (h : RAv c tl ml) : RNw c (tMake C (spO K m FO) dvs E0 tl) (mMake C FO dds ml) := by
  intro M σ H ρ S d ρ' hm Q q
  obtain ⟨xs, ρ1, h1, hm1⟩ := mBd_some hm
  obtain ⟨hg, e3⟩ := mL_some hm1
  subst e3
  split at hg
  case h_2 => cases hg
  rename_i d1 hF2
  cases hg
  refine h M σ H ρ S xs _ h1 _ fun M1 vs H1 E1 S1 dd => fun x dx hx hdx ne => ?_
  have s1 : Same H1 (upd (upd H1 dx (.own x)) x (.ins C dx [])) := (same_new hdx).new (by rw [upd_ne (Ne.symm ne)]; exact hx)
  obtain ⟨E2, S2, n2⟩ := S1.nw (o := .ins C dx []) (d := .ins C [] []) hx s1 upd_same (.ins rfl .nil)
  refine ⟨_, x, .ins C [] [], vs ++ dvs, xs ++ dds, .non, d, rfl, S2.kind, n2.m, n2.o, (dd.ev S1.kind E2.ev).append (hd _ _), hF _ _ _ hF2, hF2, fun u H' hb hn hu => ⟨by cases hu; rfl, ?_⟩⟩
  obtain ⟨E3, S3⟩ := S2.putO n2 hb hn
  have E12 := E1.trans E2 S.kind
  refine q _ x H' (E1.dm x hx) ⟨E12.ev.trans E3, fun b o nb hbo => hb b o (fun z => by rw [z, E1.dm x hx] at hbo; cases hbo) (E12.kp b o nb hbo), E12.hs, E12.mc, fun b hb' => E12.dm b ?_⟩ S3 ⟨n2.m, n2.nh, n2.h0, n2.n0, hn⟩
  cases z : upd (upd H1 dx (.own x)) x (.ins C dx []) b with
  | none => rfl
  | some o =>
    by_cases w : b = x
    · subst w
      obtain ⟨o', ho', _⟩ := hn
      rw [ho'] at hb'; cases hb'
    · rw [hb b o w z] at hb'; cases hb'
end
end DL
set_option autoImplicit false
namespace DL
open PySem PySem.Spec PyProof.Rows L2
def pick {α : Type} : List Nat → List α → List α
  | [], _ => []
  | i :: is, l => match l[i]? with
    | some a => a :: pick is l
    | none => pick is l
theorem pick_vals {vs : List V} {us : List Value} (h : Vals vs us) : ∀ is : List Nat, Vals (pick is vs) (pick is us)
  | [] => .nil
  | i :: is => by
    unfold pick
    cases hv : vs[i]? with
    | some v =>
      obtain ⟨u, hu, r⟩ := h.get hv
      rw [hu]
      exact .cons r (pick_vals h is)
    | none =>
      have : us[i]? = none := by
        rw [List.getElem?_eq_none_iff] at hv ⊢
        rw [← h.length]; exact hv
      rw [this]
      exact pick_vals h is
theorem pick_dat {K : PySem.W.Frag} {M : Addr → Prop} {H : Hp} {vs : List V} {ds : List D} (h : DatAll K M H vs ds) : ∀ is : List Nat, DatAll K M H (pick is vs) (pick is ds)
  | [] => .nil
  | i :: is => by
    unfold pick
    cases hv : vs[i]? with
    | some v =>
      obtain ⟨u, hu, r⟩ := h.get hv
      rw [hu]
      exact .cons r (pick_dat h is)
    | none =>
      have : ds[i]? = none := by
        rw [List.getElem?_eq_none_iff] at hv ⊢
        rw [← h.length]; exact hv
      rw [this]
      exact pick_dat h is
theorem kbn_of {K : PySem.W.Frag} {x qual : Str} {st : Stmt} {f : Addr} {fd : FuncData} {ps : List Str} (F : Fun K x qual st f fd) (n : Nat) (ks : List Str) (is : List Nat)
    (h : ∀ (kV doc pm : Value) (an : Option Addr) (cdv ct : Value) (us ws : List Value), us.length = n → ws.length = ks.length → bindArgs (PySem.W.fnOf x qual (defArgs st) (defBody st) (defScope st) .none kV doc pm an cdv ct) ⟨us, ks.zip ws⟩ = pure (ps.zip (pick is (us ++ ws)))) :
    KBn K fd ps n ks (fun us ws => pick is (us ++ ws)) (fun vs zs => pick is (vs ++ zs)) := by
  obtain ⟨oc, od, kV, doc, pm, an, cdv, ct, osl, rfl, lk, hcd⟩ := F.ex
  exact ⟨fun s us ws X l1 l2 => .of_eq (h kV doc pm an cdv ct us ws l1 l2), fun r1 r2 => pick_vals (r1.append r2) is⟩
/-- all keywords' values -/
structure DK (X : Cx) {K : PySem.W.Frag} (c : Ctx K) (kws : List Keyword) (t : TA) (m : Mo (List D)) : Prop where
  p : PK X kws t
  r : RAv c t m
def mKw (is : List Nat) (n nk : Nat) (F : List D → Option D) (a k : Mo (List D)) : Mo D := mBd a fun xs => mBd k fun ys => if xs.length = n ∧ ys.length = nk then mL (F (pick is (xs ++ ys))) else fun _ => none
end DL
set_option autoImplicit false
namespace DL
open PySem PySem.Spec PyProof.Rows L2
section
variable {X : Cx} {K : PySem.W.Frag} {c : Ctx K} {k m n : Nat} {f C g : Addr} {fd : FuncData} {ps ks : List Str} {dvs : List V} {vds : List Value} {dds : List D} {F : List D → Option D} {FO : D → List D → Option (D × D)} {is : List Nat}
  {x y nm : Str} {p p2 pos apos kpos : Pos} {e o : Expr} {es : List Expr} {kws : List Keyword} {ta te : TE} {ma me : Mo D} {tl tk : TA} {ml mk : Mo (List D)}
theorem d_call (G : FnOk X.prog X.w X.K X.mg X.base CX0 k f fd ps (spF X.K m F)) (hF : Takes m F) (hr : Room k X.A) (hm : X.mg x = some (.ref f)) (hk : PySem.W.keepIn X.K (.ref f) = true) (hb : Binds X.K fd ps []) (ha : DA X c (e :: es) tl ml)
    (hg : Gl X x := by rfl) (hdb : (x == ("__debug__" : Str)) = false := by decide) (he : starEach (e :: es) X.env = (false, eval e X.env) :: starEach es X.env := by rfl) (hpl : (backTo pos (starEach es X.env)).any (·.1) = false := by rfl) (hK : X.K = K := by rfl) :
    DE X c (.Call (.Name x p) (e :: es) [] pos) (tCall (spF K m F) [] E0 tl) (mFn F ml) := ⟨by rw [← hK]; exact pe_call G hr hg hm hk hb .nil pass0 ha.p hdb he hpl, r_call hF ha.r⟩
theorem d_callN (G : FnOk X.prog X.w X.K X.mg X.base CX0 k f fd ps (spN X.K m F)) (hF : Takes m F) (hr : Room k X.A) (hm : X.mg x = some (.ref f)) (hk : PySem.W.keepIn X.K (.ref f) = true) (hb : Binds X.K fd ps []) (ha : DA X c (e :: es) tl ml)
    (hg : Gl X x := by rfl) (hdb : (x == ("__debug__" : Str)) = false := by decide) (he : starEach (e :: es) X.env = (false, eval e X.env) :: starEach es X.env := by rfl) (hpl : (backTo pos (starEach es X.env)).any (·.1) = false := by rfl) (hK : X.K = K := by rfl) :
    DN X c (.Call (.Name x p) (e :: es) [] pos) (tCall (spN K m F) [] E0 tl) (mFn F ml) := ⟨by rw [← hK]; exact pe_call G hr hg hm hk hb .nil pass0 ha.p hdb he hpl, r_callN hF ha.r⟩
theorem d_callO (i : Nat) (G : FnOk X.prog X.w X.K X.mg X.base CX0 k f fd ps (spO X.K m FO)) (hF : TakesO m FO) (hr : Room k X.A) (hm : X.mg x = some (.ref f)) (hk : PySem.W.keepIn X.K (.ref f) = true) (hb : Binds X.K fd ps []) (ha : DA X c es tl ml)
    (hN : X.N[i]? = some y := by rfl) (hv : Vis X.env.scope y := by first | exact Or.inl rfl | exact Or.inr (Or.inl rfl) | exact Or.inr (Or.inr rfl)) (hd : (y == ("__debug__" : Str)) = false := by decide) (hcd : (y == ("__classdict__" : Str)) = false := by decide)
    (hg : Gl X x := by rfl) (hdb : (x == ("__debug__" : Str)) = false := by decide) (he : starEach (.Name y p2 :: es) X.env = (false, eval (.Name y p2) X.env) :: starEach es X.env := by rfl) (hpl : (backTo pos (starEach es X.env)).any (·.1) = false := by rfl) (hK : X.K = K := by rfl) :
    DE X c (.Call (.Name x p) (.Name y p2 :: es) [] pos) (tCall (spO K m FO) [] E0 (tCons (tVar i) tl)) (mCallO FO i ml) := ⟨by rw [← hK]; exact pe_call G hr hg hm hk hb .nil pass0 (pa_cons (pv i hN hv hd hcd) ha.p he) hdb he hpl, r_callO hF ha.r⟩
theorem d_gcallNew (hgd : X.A.guards = some []) (G : FnG X.prog X.w X.K X.mg X.base CX0 k f fd ps (spO X.K m FO)) (hF : TakesO m FO) (hr : Room k X.A) (hm : X.mg x = some (.ref f)) (hk : PySem.W.keepIn X.K (.ref f) = true) (hb : Binds X.K fd ps []) (h0 : DN X c e te me) (ha : DA X c es tl ml)
    (hg : Gl X x := by rfl) (hdb : (x == ("__debug__" : Str)) = false := by decide) (he : starEach (e :: es) X.env = (false, eval e X.env) :: starEach es X.env := by rfl) (hpl : (backTo pos (starEach es X.env)).any (·.1) = false := by rfl) (hK : X.K = K := by rfl) :
    DE X c (.Call (.Name x p) (e :: es) [] pos) (tCall (spO K m FO) [] E0 (tCons te tl)) (mCallNew FO me ml) := ⟨by rw [← hK]; exact L2.pe_callG hgd G hr hg hm hk hb .nil pass0 (pa_cons h0.p ha.p he) hdb he hpl, r_callNew hF h0.r ha.r⟩
theorem d_prop (ho : DE X c o ta ma) (hC : Cls X.K C) (hp : PropOf X.K C nm g f) (G : FnOk X.prog X.w X.K X.mg X.base CX0 k f fd ps (spF X.K m F)) (hF : Takes m F) (hr : Room (k + 1) X.A) (hb : Binds X.K fd ps []) (hab : attributeBase o nm X.env (eval o X.env) = eval o X.env := by rfl) (hK : X.K = K := by rfl) :
    DE X c (.Attribute o nm pos) (tProp C (spF K m F) [] E0 ta) (mProp C F ma) := ⟨by rw [← hK]; exact pe_prop ho.p hC hp G hr hb .nil pass0 hab, r_prop hF ho.r⟩
theorem d_fld (ho : DE X c o ta ma) (hC : Cls X.K C) (hn : NoAttr X.K C nm) (hab : attributeBase o nm X.env (eval o X.env) = eval o X.env := by rfl) (hK : X.K = K := by rfl) : DE X c (.Attribute o nm pos) (tFld K ta nm) (mFld C nm ma) := ⟨by rw [← hK]; exact pe_fld ho.p hab, r_fld (by rw [← hK]; exact hC) (by rw [← hK]; exact hn) ho.r⟩
theorem s_fld {v : Expr} {pos' : Pos} (i : Nat) (hC : Cls X.K C) (hn : NoAttr X.K C nm) (he : DE X c v te me) (hs : swapsWith v (some (.Attribute (.Name y p) nm pos')) pos.line X.env = pure false := by rfl)
    (hN : X.N[i]? = some y := by rfl) (hv : Vis X.env.scope y := by first | exact Or.inl rfl | exact Or.inr (Or.inl rfl) | exact Or.inr (Or.inr rfl)) (hd : (y == ("__debug__" : Str)) = false := by decide) (hcd : (y == ("__classdict__" : Str)) = false := by decide) (hK : X.K = K := by rfl) :
    DS X c (.Assign [.Attribute (.Name y p) nm pos'] v pos) (sFld K (tVar i) te nm) (sFldV C i nm me) := ⟨by rw [← hK]; exact ps_fld (pv i hN hv hd hcd) he.p hs, r_sfld (by rw [← hK]; exact hC) (by rw [← hK]; exact hn) he.r⟩
theorem d_make (M : Mk X.K C f) (G : FnOk X.prog X.w X.K X.mg X.base CX0 k f fd ps (spO X.K m FO)) (hF : TakesO m FO) (hr : Room (k + 1) X.A) (hm : X.mg x = some (.ref C)) (hb : Binds X.K fd ps vds) (hv : Vals dvs vds) (hd : ∀ M H, DatAll K M H dvs dds) (ha : DA X c (e :: es) tl ml)
    (hg : Gl X x := by rfl) (hdb : (x == ("__debug__" : Str)) = false := by decide) (he : starEach (e :: es) X.env = (false, eval e X.env) :: starEach es X.env := by rfl) (hpl : (backTo pos (starEach es X.env)).any (·.1) = false := by rfl) (hK : X.K = K := by rfl) :
    DN X c (.Call (.Name x p) (e :: es) [] pos) (tMake C (spO K m FO) dvs E0 tl) (mMake C FO dds ml) := ⟨by rw [← hK]; exact pe_make M G hr hg hm hb hv pass0 ha.p hdb he hpl, r_make hF hd ha.r⟩
/-- C(..), C held by the name in slot i -/
theorem r_makeL {i : Nat} (hF : TakesO m FO) (hd : ∀ M H, DatAll K M H dvs dds) (h : RAv c tl ml) : RNw c (tMakeL i C (spO K m FO) dvs E0 tl) (fun ρ => match ρ[i]? with
    | some (.dat (.cls B)) => if B = C then mMake C FO dds ml ρ else none
    | _ => none) := by
  intro M σ H ρ S d ρ' hm Q q
  simp only at hm
  split at hm
  · rename_i B e1
    split at hm
    · rename_i e
      subst e
      obtain ⟨v, hv, dv⟩ := S.dat e1
      cases dv
      exact ⟨hv, r_make hF hd h M σ H ρ S d ρ' hm Q q⟩
    · cases hm
  · cases hm
def mMakeL (i : Nat) (C : Addr) (FO : D → List D → Option (D × D)) (dds : List D) (ml : Mo (List D)) : Mo D := fun ρ => match ρ[i]? with
  | some (.dat (.cls B)) => if B = C then mMake C FO dds ml ρ else none
  | _ => none
theorem d_makeL (i : Nat) (M : Mk X.K C f) (G : FnOk X.prog X.w X.K X.mg X.base CX0 k f fd ps (spO X.K m FO)) (hF : TakesO m FO) (hr : Room (k + 1) X.A) (hb : Binds X.K fd ps vds) (hv : Vals dvs vds) (hd : ∀ M H, DatAll K M H dvs dds) (ha : DA X c (e :: es) tl ml)
    (hN : X.N[i]? = some x := by rfl) (hvs : Vis X.env.scope x := by first | exact Or.inl rfl | exact Or.inr (Or.inl rfl) | exact Or.inr (Or.inr rfl)) (hdb : (x == ("__debug__" : Str)) = false := by decide) (hcd : (x == ("__classdict__" : Str)) = false := by decide)
    (he : starEach (e :: es) X.env = (false, eval e X.env) :: starEach es X.env := by rfl) (hpl : (backTo pos (starEach es X.env)).any (·.1) = false := by rfl) (hK : X.K = K := by rfl) : DN X c (.Call (.Name x p) (e :: es) [] pos) (tMakeL i C (spO K m FO) dvs E0 tl) (mMakeL i C FO dds ml) := ⟨by rw [← hK]; exact pe_makeL M G hr hb hv pass0 ha.p hN hvs hdb hcd he hpl, r_makeL hF hd ha.r⟩
/-- C.m(..), m a classmethod -/
def mCMeth (C : Addr) (F : List D → Option D) (o : Mo D) (a : Mo (List D)) : Mo D := mBd o fun x => match x with
  | .cls B => if B = C then mBd a fun ds => mL (F (.cls C :: ds)) else fun _ => none
  | _ => fun _ => none
theorem r_cmeth (hF : Takes m F) (ho : REv c ta ma) (h : RAv c tl ml) : REv c (ClX.tCMeth C (fun vs H Q E => spF K m F (vs ++ []) H Q E) E0 ta tl) (mCMeth C F ma ml) := by
  intro M σ H ρ S d ρ' hm Q q
  obtain ⟨x, ρ1, h1, hm1⟩ := mBd_some hm
  split at hm1
  · rename_i B
    split at hm1
    · rename_i e
      subst e
      obtain ⟨xs, ρ2, h2, hm2⟩ := mBd_some hm1
      obtain ⟨hg, e3⟩ := mL_some hm2
      subst e3
      refine ho M σ H ρ S _ ρ1 h1 _ fun M1 v H1 E1 S1 dx => ?_
      cases dx
      refine ⟨rfl, h M1 σ H1 ρ1 S1 xs _ h2 _ fun M2 vs H2 E2 S2 dd => ?_⟩
      exact ⟨M2, _, d, S2.kind, by rw [List.append_nil]; exact .cons (.cls _) dd, hF _ _ hg, hg, fun u H' s hu => q M2 u H' ((E1.trans E2 S.kind).trans (.same s) S.kind) (S2.same s) hu⟩
    · cases hm1
  · cases hm1
theorem d_cmeth {pl : Sem Bool} {mc : Value} {q : Addr} (ho : DE X c o ta ma) (r : ClX.CRead X.K C mc) (cm : ClX.CMet X.K C mc nm q f) (G : FnOk X.prog X.w X.K X.mg X.base CX0 k f fd ps (spF X.K m F)) (hF : Takes m F) (hr : Room k X.A) (hb : Binds X.K fd ps []) (ha : DA X c (e :: es) tl ml)
    (hst : starEach (e :: es) X.env = (false, eval e X.env) :: starEach es X.env := by rfl) (hpl : (backTo pos (starEach es X.env)).any (·.1) = false := by rfl)
    (ht : eval (.Call (.Attribute o nm apos) (e :: es) [] pos) X.env = (do
      let ov ← eval o X.env
      standAt apos.atName
      let (f, first) ← holding [ov] (getMethod ov nm pl)
      callWith pos f first (backTo pos (starEach (e :: es) X.env)) (backToKw pos (keywordEach [] X.env))) := by rfl) (hK : X.K = K := by rfl) :
    DE X c (.Call (.Attribute o nm apos) (e :: es) [] pos) (ClX.tCMeth C (fun vs H Q E => spF K m F (vs ++ []) H Q E) E0 ta tl) (mCMeth C F ma ml) := ⟨by rw [← hK]; exact ClX.pe_cmeth ho.p r cm (G.raw hb .nil) hr pass0 ha.p hst hpl ht, r_cmeth hF ho.r ha.r⟩
theorem k_nil : DK X c [] tNil aNil := ⟨pk_nil, r_anil⟩
theorem k_cons {nm : Option Str} (he : DE X c e te me) (hr : DK X c kws tk mk) : DK X c (⟨nm, e, kpos⟩ :: kws) (tCons te tk) (aCons me mk) := ⟨pk_cons he.p hr.p, r_acons he.r hr.r⟩
end
end DL
set_option autoImplicit false
namespace DL
open PySem PySem.Spec PyProof.Rows L2
def str? : D → Option Str
  | .str x => some x
  | _ => none
def strs? : List D → Option (List Str)
  | [] => some []
  | .str x :: r => (strs? r).map (x :: ·)
  | _ => none
theorem strs_eq : ∀ {ds : List D} {xs : List Str}, strs? ds = some xs → ds = xs.map D.str
  | [], _, h => by cases h; rfl
  | .str b :: r, _, h => by
    obtain ⟨t, e, rfl⟩ := map_some (show (strs? r).map _ = _ from h)
    rw [strs_eq e]; rfl
  | .non :: _, _, h | .int _ :: _, _, h | .bl _ :: _, _, h | .tup _ :: _, _, h | .lst _ :: _, _, h | .dic _ _ :: _, _, h | .dit _ _ :: _, _, h | .ins _ _ _ :: _, _, h | .cls _ :: _, _, h | .ty _ :: _, _, h | .scr _ :: _, _, h => by simp [strs?] at h
def dFmt : D → Option D
  | .str y => if y.length ≤ sizeLine then some (.str y) else none
  | .int i => if i.natAbs.log2 < 1920 then some (.str (toString i)) else none
  | _ => none
def mJs : List (Mo D) → Str → Mo Str
  | [], acc => mC acc
  | m :: ms, acc => mBd m fun d => mBd (mL (str? d)) fun y => if (acc ++ y).length ≤ sizeLine then mJs ms (acc ++ y) else fun _ => none
def mFs (ms : List (Mo D)) : Mo D := mBd (mJs ms Str.empty) fun y => mC (.str y)
inductive DJ (X : Cx) {K : PySem.W.Frag} (c : Ctx K) : List Expr → List TE → List (Mo D) → Prop where
  | nil : DJ X c [] [] []
  | cons {e : Expr} {t : TE} {m : Mo D} {es : List Expr} {ts : List TE} {ms : List (Mo D)} (h : DE X c e t m) (r : DJ X c es ts ms) : DJ X c (e :: es) (t :: ts) (m :: ms)
theorem DJ.p {X : Cx} {K : PySem.W.Frag} {c : Ctx K} : ∀ {es : List Expr} {ts : List TE} {ms : List (Mo D)}, DJ X c es ts ms → PJ X es ts
  | _, _, _, .nil => .nil
  | _, _, _, .cons h r => .cons h.p r.p
theorem str_of {K : PySem.W.Frag} {M : Addr → Prop} {H : Hp} {v : V} {d : D} {b : Str} (h : Dat K M H v d) (e : str? d = some b) : v = .str b := by
  cases h <;> simp [str?] at e
  subst e; rfl
theorem DJ.r {X : Cx} {K : PySem.W.Frag} {c : Ctx K} {es : List Expr} {ts : List TE} {ms : List (Mo D)} (j : DJ X c es ts ms) : ∀ (acc : Str) (M : Addr → Prop) (σ : L2.St) (H : Hp) (ρ : Cs), Sta c M σ H ρ → ∀ y ρ', mJs ms acc ρ = some (y, ρ') → ∀ Q : Str → Hp → Prop, (∀ M' H', Es σ M H ρ σ M' H' ρ' → Sta c M' σ H' ρ' → Q y H') → tJs ts acc σ H Q := by
  induction j with
  | nil =>
    intro acc M σ H ρ S y ρ' hm Q q
    obtain ⟨e1, e2⟩ := mC_some (show mC acc ρ = some (y, ρ') from hm)
    subst e1 e2
    exact q M H .refl S
  | cons h r ih =>
    intro acc M σ H ρ S y ρ' hm Q q
    obtain ⟨d, ρ1, h1, hm1⟩ := mBd_some (show mBd _ _ ρ = some (y, ρ') from hm)
    obtain ⟨z, ρ2, h2, hm2⟩ := mBd_some hm1
    obtain ⟨hz, e2⟩ := mL_some h2
    subst e2
    split at hm2
    case isFalse => cases hm2
    rename_i hl
    refine h.r M σ H ρ S d _ h1 _ fun M1 v H1 E1 S1 dv => ⟨z, str_of dv hz, hl, ?_⟩
    exact ih _ M1 σ H1 _ S1 y ρ' hm2 Q fun M2 H2 E2 S2 => q M2 H2 (E1.trans E2 S.kind) S2
def dJoin : D → D → Option D
  | .str a, .lst ds => (strs? ds).bind fun ys => if (ys.map (·.length)).sum + ys.length * a.length ≤ 16777216 then some (.str (Txt.join a ys)) else none
  | .str a, .tup ds => (strs? ds).bind fun ys => if (ys.map (·.length)).sum + ys.length * a.length ≤ 16777216 then some (.str (Txt.join a ys)) else none
  | _, _ => none
def dSplit : D → D → Option D
  | .str a, .str b => if (b.length == 0) = false ∧ a.length + 2 ≤ sizeLine then some (.lst ((Txt.split a b).map .str)) else none
  | _, _ => none
/-- a.m(b), a text -/
def mStr (g : D → D → Option D) (a b : Mo D) : Mo D := mBd a fun x => if (str? x).isSome = true then mBd b fun y => mL (g x y) else fun _ => none
theorem strV {K : PySem.W.Frag} {M : Addr → Prop} {H : Hp} {v : V} {d : D} (h : Dat K M H v d) (e : (str? d).isSome = true) : ∃ x, d = .str x ∧ v = .str x := by
  cases h <;> simp [str?] at e
  exact ⟨_, rfl, rfl⟩
theorem bind_some {α β : Type} {o : Option α} {f : α → Option β} {r : β} (h : o.bind f = some r) : ∃ a, o = some a ∧ f a = some r := by
  cases o with
  | none => cases h
  | some a => exact ⟨a, rfl, h⟩
section
variable {X : Cx} {K : PySem.W.Frag} {c : Ctx K} {ta tb : TE} {ma mb : Mo D} {a b e v1 v2 : Expr} {rest : List Expr} {pos apos : Pos} {t1 t2 : TE} {m1 m2 : Mo D} {ts : List TE} {ms : List (Mo D)}
theorem r_fmt (h : REv c ta ma) : REv c (tFmt ta) (mUn dFmt ma) := by
  intro M σ H ρ S d ρ' hm Q q
  obtain ⟨x, ρ1, h1, hm1⟩ := mBd_some hm
  obtain ⟨hg, e⟩ := mL_some hm1
  subst e
  refine h M σ H ρ S x _ h1 _ fun M1 v H1 E1 S1 dv => ?_
  cases x <;> try (simp [dFmt] at hg; done)
  case int i =>
    cases dv
    obtain ⟨hz, e⟩ := if_some hg
    subst e
    exact .inr ⟨_, rfl, hz, q M1 _ H1 E1 S1 (.str _)⟩
  case str y =>
    cases dv
    obtain ⟨hz, e⟩ := if_some hg
    subst e
    exact .inl ⟨_, rfl, hz, q M1 _ H1 E1 S1 (.str _)⟩
theorem d_fmt (h : DE X c e ta ma) : DE X c (.FormattedValue e (-1) none pos) (tFmt ta) (mUn dFmt ma) := ⟨pe_fmt h.p, r_fmt h.r⟩
theorem d_fs (h : DJ X c (v1 :: v2 :: rest) ts ms) : DE X c (.JoinedStr (v1 :: v2 :: rest) pos) (fun σ H Q => tJs ts Str.empty σ H fun out H1 => Q (.str out) H1) (mFs ms) := ⟨pe_joined h.p, by
  intro M σ H ρ S d ρ' hm Q q
  obtain ⟨y, ρ1, h1, hm1⟩ := mBd_some hm
  obtain ⟨e1, e2⟩ := mC_some (show mC (D.str y) ρ1 = some (d, ρ') from hm1)
  subst e1 e2
  exact h.r Str.empty M σ H ρ S y _ h1 _ fun M' H' E S' => q M' _ H' E S' (.str y)⟩
theorem d_join (ha : DE X c a ta ma) (hb : DE X c b tb mb) (hs : starEach [b] X.env = [(false, eval b X.env)] := by rfl) (hbase : attributeBase a "join" X.env (eval a X.env) = eval a X.env := by rfl) (hline : (apos.endLine == pos.line) = true := by rfl) (hK : X.K = K := by rfl) :
    DE X c (.Call (.Attribute a "join" apos) [b] [] pos) (tM1 (fun x xs H Q => ∃ a p, ∃ ys : List Str, x = .str a ∧ xs = [.ref p] ∧ (SqL K H p (ys.map V.str) ∨ SqT K H p (ys.map V.str)) ∧ (ys.map (·.length)).sum + ys.length * a.length ≤ 16777216 ∧ Q (.str (Txt.join a ys)) H) ta tb) (mStr dJoin ma mb) := ⟨by rw [← hK]; exact pe_join ha.p hb.p hs hbase hline, by
  intro M σ H ρ S d ρ' hm Q q
  obtain ⟨x, ρ1, h1, hm1⟩ := mBd_some hm
  split at hm1
  case isFalse => cases hm1
  rename_i hx
  obtain ⟨y, ρ2, h2, hm2⟩ := mBd_some hm1
  obtain ⟨hg, e⟩ := mL_some hm2
  subst e
  refine ha.r M σ H ρ S x ρ1 h1 _ fun M1 v H1 E1 S1 dv => ?_
  obtain ⟨z, rfl, rfl⟩ := strV dv hx
  refine ⟨⟨z, rfl⟩, hb.r M1 σ H1 ρ1 S1 y _ h2 _ fun M2 w H2 E2 S2 dw => ?_⟩
  cases y <;> try (simp [dJoin] at hg; done)
  case lst ds =>
    obtain ⟨ys, hy, hg2⟩ := bind_some (show (strs? ds).bind _ = some d from hg)
    obtain ⟨hl, e⟩ := if_some hg2
    subst e
    cases dw with
    | lst n hH a =>
      rw [strs_eq hy] at a
      rw [a.strs] at hH
      exact ⟨z, _, ys, rfl, rfl, .inl (SqL.of hH), hl, q M2 _ H2 (E1.trans E2 S.kind) S2 (.str _)⟩
  case tup ds =>
    obtain ⟨ys, hy, hg2⟩ := bind_some (show (strs? ds).bind _ = some d from hg)
    obtain ⟨hl, e⟩ := if_some hg2
    subst e
    cases dw with
    | tup hH a =>
      rw [strs_eq hy] at a
      rw [a.strs] at hH
      exact ⟨z, _, ys, rfl, rfl, .inr hH, hl, q M2 _ H2 (E1.trans E2 S.kind) S2 (.str _)⟩⟩
theorem d_split (ha : DE X c a ta ma) (hb : DE X c b tb mb) (hs : starEach [b] X.env = [(false, eval b X.env)] := by rfl) (hbase : attributeBase a "split" X.env (eval a X.env) = eval a X.env := by rfl) (hline : (apos.endLine == pos.line) = true := by rfl) :
    DN X c (.Call (.Attribute a "split" apos) [b] [] pos) (tM1 (fun x xs H Q => ∃ a b, x = .str a ∧ xs = [.str b] ∧ (b.length == 0) = false ∧ a.length + 2 ≤ sizeLine ∧ rNewStrs (Txt.split a b) H Q) ta tb) (mStr dSplit ma mb) := ⟨pe_split ha.p hb.p hs hbase hline, by
  intro M σ H ρ S d ρ' hm Q q
  obtain ⟨x, ρ1, h1, hm1⟩ := mBd_some hm
  split at hm1
  case isFalse => cases hm1
  rename_i hx
  obtain ⟨y, ρ2, h2, hm2⟩ := mBd_some hm1
  obtain ⟨hg, e⟩ := mL_some hm2
  subst e
  refine ha.r M σ H ρ S x ρ1 h1 _ fun M1 v H1 E1 S1 dv => ?_
  obtain ⟨z, rfl, rfl⟩ := strV dv hx
  refine ⟨⟨z, rfl⟩, hb.r M1 σ H1 ρ1 S1 y _ h2 _ fun M2 w H2 E2 S2 dw => ?_⟩
  cases y <;> try (simp [dSplit] at hg; done)
  case str b =>
    obtain ⟨⟨h3, h4⟩, e⟩ := if_some hg
    subst e
    cases dw
    exact ⟨z, b, rfl, rfl, h3, h4, fun p hp => r_new S (E1.trans E2 S.kind) S2 hp (same_new hp) upd_same (.lst (.of_strs _)) q⟩⟩
end
structure DTs (X : Cx) {K : PySem.W.Frag} (c : Ctx K) (ifs : List Expr) (t : TT) (m : Mo Bool) : Prop where
  p : PTs X ifs t
  r : RTt c t m
section
variable {X : Cx} {K : PySem.W.Frag} {c : Ctx K} {elt tg iter e : Expr} {ifs : List Expr} {scope : Scope} {own : List (Str × Nat)} {pos spos : Pos} {wi : TI} {g : TG} {tt : TT} {te : TE} {mi : Mo (List D)} {mg : D → Mo Unit} {mt : Mo Bool} {me : Mo D}
theorem t_nil : DTs X c [] tYes (mC true) := ⟨pts_nil, r_yes⟩
theorem t_one (h : DT X c e tt mt) : DTs X c [e] tt mt := ⟨pts_one h.p, h.r⟩
/-- what a comprehension's block is -/
structure DBlk (X : Cx) {K : PySem.W.Frag} (c : Ctx K) (scope : Scope) (tg elt : Expr) (ifs : List Expr) (g : TG) (tt : TT) (te : TE) (mg : D → Mo Unit) (mt : Mo Bool) (me : Mo D) : Prop where
  g : ∀ (s : Shared) (H : Hp) (C : Addr) (cl : List (Str × Addr)) (fp : List Addr), DG (X.blk s H scope (compEnvC scope cl C X.env) fp) c tg g mg
  t : ∀ (s : Shared) (H : Hp) (C : Addr) (cl : List (Str × Addr)) (fp : List Addr), DTs (X.blk s H scope (compEnvC scope cl C X.env) fp) c ifs tt mt
  e : ∀ (s : Shared) (H : Hp) (C : Addr) (cl : List (Str × Addr)) (fp : List Addr), DE (X.blk s H scope (compEnvC scope cl C X.env) fp) c elt te me
theorem r_blk (hi : RIt c wi mi) (ho : OwnG g (own.map (·.2))) (B : DBlk X c scope tg elt ifs g tt te mg mt me) : RNw c (tLc wi g tt te (own.map (·.2))) (mLc (own.map (·.2)) mi mg mt me) :=
  r_lc hi (B.g {} (fun _ => none) 0 [] []).r ho (B.t {} (fun _ => none) 0 [] []).r (B.e {} (fun _ => none) 0 [] []).r
theorem d_lc (hc : X.calm = true) (hN : X.N.Nodup) (hi : DI X c tg iter wi mi) (ok : BlkOk X.N X.env.scope scope own) (ho : OwnG g (own.map (·.2))) (B : DBlk X c scope tg elt ifs g tt te mg mt me) (hs : ∀ x, foldedSetIterable iter X.env x = pure x := by intro _; rfl) :
    DN X c (.ListComp elt [⟨tg, iter, ifs, 0⟩] scope pos) (tLc wi g tt te (own.map (·.2))) (mLc (own.map (·.2)) mi mg mt me) :=
  ⟨pe_lc hc hN hi.p ok (fun s H C cl fp => (B.g s H C cl fp).p) (fun s H C cl fp => (B.t s H C cl fp).p) (fun s H C cl fp => (B.e s H C cl fp).p) hs, r_blk hi.r ho B⟩
end
def MonoG (g : TG) : Prop := ∀ v σ H (Q Q' : L2.St → Hp → Prop), (∀ s h, Q s h → Q' s h) → g v σ H Q → g v σ H Q'
def MonoGs (g : TGs) : Prop := ∀ v σ H (Q Q' : L2.St → Hp → Prop), (∀ s h, Q s h → Q' s h) → g v σ H Q → g v σ H Q'
theorem mono_nil : MonoGs gNil := fun _ _ _ _ _ h q => ⟨q.1, h _ _ q.2⟩
theorem mono_cons {g : TG} {gs : TGs} (a : MonoG g) (b : MonoGs gs) : MonoGs (gCons g gs) := fun v σ H Q Q' h q => by
  obtain ⟨x, r, e, q⟩ := q
  exact ⟨x, r, e, a _ _ _ _ _ (fun s h' z => b _ _ _ _ _ h z) q⟩
theorem mono_tup {K : PySem.W.Frag} {n : Nat} {gs : TGs} (b : MonoGs gs) : MonoG (gTup K n gs) := fun v σ H Q Q' h q => by
  obtain ⟨a, xs, h1, h2, h3, q⟩ := q
  exact ⟨a, xs, h1, h2, h3, b _ _ _ _ _ h q⟩
theorem own_con {g : TG} {gs : TGs} {vs : List Nat} (h : OwnG g vs ∧ MonoG g) (hs : OwnGs gs vs ∧ MonoGs gs) : OwnGs (gCons g gs) vs ∧ MonoGs (gCons g gs) := ⟨own_cons h.1 hs.1 h.2, mono_cons h.2 hs.2⟩
theorem own_nam {i : Nat} {vs : List Nat} (h : i ∈ vs) : OwnG (gName i) vs ∧ MonoG (gName i) := ⟨own_name h, mono_name⟩
theorem own_ni {vs : List Nat} : OwnGs gNil vs ∧ MonoGs gNil := ⟨own_nil, mono_nil⟩
theorem own_tu {K : PySem.W.Frag} {n : Nat} {gs : TGs} {vs : List Nat} (h : OwnGs gs vs ∧ MonoGs gs) : OwnG (gTup K n gs) vs ∧ MonoG (gTup K n gs) := ⟨own_tup h.1, mono_tup h.2⟩
theorem held_store {K : PySem.W.Frag} {c : Ctx K} {M : Addr → Prop} {H : Hp} : ∀ {is : List Nat} {vs : List V} {ds : List D} {fs : List Bool} {as : List Addr} {σ : L2.St} {ρ ρ' : Cs} {b : Addr}, Items c M σ H ρ vs ds fs as → σ.length = ρ.length → stAll is fs ds ρ = some ρ' → Held (svAll is vs σ) ρ' b → Held σ ρ b ∨ b ∈ as
  | [], _, _, _, _, σ, ρ, ρ', b, .nil, _, e, h => by cases e; exact .inl h
  | [], _, _, _, _, σ, ρ, ρ', b, .dat _ _, _, e, h => by cases e
  | [], _, _, _, _, σ, ρ, ρ', b, .new _ _ _, _, e, h => by cases e
  | _ :: _, _, _, _, _, σ, ρ, ρ', b, .nil, _, e, h => by cases e
  | i :: is, _, _, _, _, σ, ρ, ρ', b, .dat q r, l, e, h => by
    rcases held_store (is := is) (r.setDat l) (by rw [List.length_set, List.length_set]; exact l) e h with z | z
    · exact .inl (held_setDat b l z)
    · exact .inr z
  | i :: is, _, _, _, _, σ, ρ, ρ', b, .new (a := a) q n r, l, e, h => by
    rcases held_store (is := is) (r.taken (i := i) n) (by rw [List.length_set, List.length_set]; exact l) e h with z | z
    · obtain ⟨j, p, d, h1, h2⟩ := z
      by_cases w : i = j
      · subst w
        by_cases hl : i < σ.length
        · rw [List.getElem?_set_self hl] at h1
          cases h1
          exact .inr List.mem_cons_self
        · rw [List.getElem?_eq_none (by rw [List.length_set]; omega)] at h1
          cases h1
      · rw [List.getElem?_set_ne w] at h1 h2
        exact .inl ⟨j, p, d, h1, h2⟩
    · exact .inr (List.mem_cons_of_mem _ z)
/-- names, and one more for the rest -/
def gStarN (is : List Nat) (k : Nat) (d : D) : Mo Unit := fun ρ => match d with
  | .lst ds => if is.length ≤ ds.length then (stAll (is ++ [k]) (List.replicate is.length false ++ [true]) (ds.take is.length ++ [.lst (ds.drop is.length)]) ρ).map fun ρ' => ((), ρ') else none
  | _ => none
theorem Items.dats {K : PySem.W.Frag} {c : Ctx K} {M : Addr → Prop} {σ : L2.St} {H : Hp} {ρ : Cs} {vs : List V} {ds : List D} {fs : List Bool} {as : List Addr} (r : Items c M σ H ρ vs ds fs as) : ∀ {us : List V} {es : List D}, DatAll K M H us es → Items c M σ H ρ (us ++ vs) (es ++ ds) (List.replicate us.length false ++ fs) as
  | _, _, .nil => r
  | _, _, .cons h t => .dat h (Items.dats r t)
theorem r_gstar {K : PySem.W.Frag} {c : Ctx K} {n : Nat} {is : List Nat} {k : Nat} (hn : is.length = n) : RTg c (gStar K n (gNames (is ++ [k]))) (gStarN is k) := by
  intro M σ H ρ S v d hd u ρ' hm Q q
  subst hn
  unfold gStarN at hm
  split at hm
  · rename_i ds
    split at hm
    · rename_i hl
      obtain ⟨ρ2, h1, e⟩ := map_some hm
      cases e
      cases hd with
      | @lst a xs _ n hH hx =>
        refine ⟨a, xs, rfl, SqL.of hH, by rw [hx.length]; exact hl, fun D hD => ?_⟩
        have hlx := hx.length
        obtain ⟨E1, S1, n1⟩ := S.nw (o := .lst (xs.drop is.length)) (d := .lst (ds.drop is.length)) hD (same_new hD) upd_same (.lst (hx.drop _))
        have it : Items c _ σ _ ρ (xs.take is.length ++ [.ref D]) (ds.take is.length ++ [.lst (ds.drop is.length)]) (List.replicate (xs.take is.length).length false ++ [true]) [D] := Items.dats (.new n1 List.not_mem_nil .nil) ((hx.ev S.kind E1.ev).take _)
        have hlen : (xs.take is.length).length = is.length := by rw [List.length_take]; omega
        rw [hlen] at it
        refine gNames_run (by rw [List.length_append, List.length_append, hlen]; rfl) ?_
        refine q _ _ _ ⟨E1.ev, E1.kp, fun b o hb z => ?_, E1.mc, E1.dm⟩ (it.store S1 h1)
        rcases held_store it S.len.symm h1 z with w | w
        · exact w
        · rw [List.mem_singleton] at w
          rw [w, hD] at hb; cases hb
    · cases hm
  · cases hm
theorem g_star {X : Cx} {K : PySem.W.Frag} {c : Ctx K} {es : List Expr} {pos : Pos} {kk n : Nat} (is : List Nat) (k : Nat) (hc : X.calm = true) (h : PGs X es (gNames (is ++ [k]))) (hi : is.length = n := by rfl) (hn : (assignEach es X.env).length = n + 1 := by rfl) (hst : (assignEach es X.env).findIdx? (·.1) = some n := by rfl) (hK : X.K = K := by rfl) :
    DG X c (.Tuple es kk pos) (gStar K n (gNames (is ++ [k]))) (gStarN is k) := ⟨by rw [← hK]; exact pg_star hc h hn hst, r_gstar hi⟩
def dStrI (C : Addr) (F : List D → Option D) : List D → Option D
  | [.int i] => dStr [.int i]
  | [x] => if isIns C x = true then (match F [x] with
    | some (.str z) => some (.str z)
    | _ => none) else none
  | _ => none
theorem call_STRI {X : Cx} {C f : Addr} {fd : FuncData} {ps : List Str} {k m : Nat} {F : List D → Option D} (G : FnOk X.prog X.w X.K X.mg X.base CX0 k f fd ps (spF X.K m F)) (hF : Takes m F) (hr : Room (k + 2) X.A) (hs : PySem.W.findIn X.K (.ref C) "__str__" = some (some (.ref f)))
    (hf : PySem.W.isFn X.K (.ref f) = true) (hb : Binds X.K fd ps []) : CallR X (.type "str") (rC X.K (dStrI C F)) := by
  intro pins s σ H xs us Q I r h
  obtain ⟨M, ds, z, k, hd, hg, q⟩ := h
  unfold dStrI at hg
  split at hg
  · exact call_STR pins s σ H xs us Q I r ⟨M, _, z, k, hd, hg, q⟩
  · rename_i x _
    split at hg
    case isFalse => cases hg
    rename_i hx
    obtain ⟨ns, es, rfl⟩ := isIns_of hx
    split at hg
    · rename_i y hy
      cases hg
      obtain ⟨v, rfl, hv⟩ := one_of hd
      obtain ⟨a, dx, fs, rfl, nM, hH, _, _⟩ := dat_ins hv
      refine call_strI G hr hs hf hb pass0 pins s σ H _ us Q I r ⟨a, dx, fs, rfl, hH, M, _, _, k, hd, hF _ _ hy, hy, fun u H' s hu => ?_⟩
      cases hu
      exact ⟨y, rfl, q _ H' s (.str y)⟩
    · cases hg
  · cases hg
end DL
namespace PySem.W
open PySem PySem.Spec PySem.Calls PyProof.Rows
end PySem.W
namespace L2
open PySem PySem.Spec PyProof.Rows
end L2
set_option autoImplicit false
namespace DL
open PySem PySem.Spec PyProof.Rows L2
theorem hu100 {k : Nat} {A : Around} (hr : Room k A) : A.units + 100 < cLine := by have := hr.un; omega
theorem hu64_of {k : Nat} {A : Around} (hr : Room k A) : A.units + 64 < cLine := by have := hr.un; omega
theorem hu1_of {k : Nat} {A : Around} (hr : Room k A) : A.units + 1 < cLine := by have := hr.un; omega
theorem toPs_map : ∀ ds : List D, toPs ds = ds.map toP
  | [] => by simp [toPs]
  | d :: r => by rw [toPs, toPs_map r, List.map_cons]
def aStar (a : Mo D) (r : Mo (List D)) : Mo (List D) := mBd a fun x => mBd (mL (match x with
  | .tup ds => some ds
  | .lst ds => some ds
  | _ => none)) fun ds => mBd r fun ys => mC (ds ++ ys)
section
variable {X : Cx} {K : PySem.W.Frag} {c : Ctx K} {a b e : Expr} {es : List Expr} {pos : Pos} {ta te : TE} {ma me : Mo D} {tl : TA} {ml : Mo (List D)}
/-- a tuple of the top -/
theorem d_gtu {x : Str} {a : Addr} {vs : List V} {ds : List D} (hm : X.mg x = some (.ref a)) (hq : ∀ H : Hp, SqT X.K H a vs) (h : ∀ M H, DatAll K M H vs ds) (hg : Gl X x := by rfl) (hd : (x == ("__debug__" : Str)) = false := by decide) (hK : X.K = K := by rfl) : DE X c (.Name x pos) (tC (.ref a)) (mC (.tup ds)) :=
  d_gd hm rfl (fun M H => .tup (by rw [← hK]; exact hq H) (h M H)) hg hd
variable {elts : List Expr} {kk : Nat} {tpos p : Pos}
theorem i_enumT (hm : X.mg "enumerate" = none) (ha : DA X c [e] tl ml) (hg : Gl X "enumerate" := by rfl) (hs : starEach [e] X.env = [(false, eval e X.env)] := by rfl) (hK : X.K = K := by rfl) : DI X c (.Tuple elts kk tpos) (.Call (.Name "enumerate" p) [e] [] pos) (iEnumT K tl) (iFn enumT? ml) := ⟨by rw [← hK]; exact pi_enumT hg hm ha.p hs, r_ienumT ha.r⟩
def seqS : D → Option (List D)
  | .str z => some (z.cps.toList.map fun c => D.str ⟨#[c]⟩)
  | _ => none
theorem i_str {tg : Expr} (h : DE X c e te me) : DI X c tg e (iStr te) (iSeq seqS me) := ⟨pi_str h.p, by
  intro M σ H ρ S ds ρ' hm R q
  obtain ⟨d, ρ1, h1, h2⟩ := mBd_some hm
  obtain ⟨h3, e⟩ := mL_some h2
  subst e
  refine h.r M σ H ρ S d _ h1 _ fun M' v H' E S' hd => ?_
  cases d <;> simp [seqS] at h3
  subst h3
  cases hd
  rename_i z
  refine ⟨z, rfl, q M' H' _ _ _ E S' ⟨by rw [List.length_map, Array.length_toList]; exact walk_str, fun _ _ _ => trivial, fun i M1 H1 x H2 e k hi y => ?_⟩⟩
  obtain ⟨rfl, c, hc, rfl⟩ := y
  exact ⟨.refl _, .str ⟨#[c]⟩, by rw [List.getElem?_map, Array.getElem?_toList, hc]; rfl, .str _⟩⟩
end
section
variable {X : Cx} {K : PySem.W.Frag} {c : Ctx K} {elt tg iter e : Expr} {es : List Expr} {ifs : List Expr} {scope : Scope} {own : List (Str × Nat)} {pos spos : Pos} {wi : TI} {g : TG} {tt : TT} {te : TE} {mi : Mo (List D)} {mg : D → Mo Unit} {mt : Mo Bool} {me : Mo D} {tl : TA} {ml : Mo (List D)}
/-- name = [..], never changed -/
theorem s_setLcD {i : Nat} {y : Str} {py : Pos} (hc : X.calm = true) (hN : X.N.Nodup) (hy : X.N[i]? = some y) (hyl : X.env.scope.names.lookup y = some .local)
    (hsw : swapsWith (.ListComp elt [⟨tg, iter, ifs, 0⟩] scope pos) (some (.Name y py)) spos.line X.env = pure true) (hi : DI X c tg iter wi mi) (ok : BlkOk X.N X.env.scope scope own) (ho : OwnG g (own.map (·.2))) (B : DBlk X c scope tg elt ifs g tt te mg mt me) (hs : ∀ x, foldedSetIterable iter X.env x = pure x := by intro _; rfl) :
    DS X c (.Assign [.Name y py] (.ListComp elt [⟨tg, iter, ifs, 0⟩] scope pos) spos) (tAsg (tLc wi g tt te (own.map (·.2))) (gName i)) (sSet i (mLc (own.map (·.2)) mi mg mt me)) :=
  ⟨ps_setLc hc hN hy hyl hsw hi.p ok (fun s H C cl fp => (B.g s H C cl fp).p) (fun s H C cl fp => (B.t s H C cl fp).p) (fun s H C cl fp => (B.e s H C cl fp).p) hs, r_set (r_blk hi.r ho B).ev i⟩
theorem s_app {y : Str} {p apos cpos : Pos} (i : Nat) (he : DE X c e te me) (hN : X.N[i]? = some y := by rfl) (hv : Vis X.env.scope y := by first | exact Or.inl rfl | exact Or.inr (Or.inl rfl) | exact Or.inr (Or.inr rfl)) (hd : (y == ("__debug__" : Str)) = false := by decide) (hcd : (y == ("__classdict__" : Str)) = false := by decide)
    (hbase : attributeBase (.Name y p) "append" X.env (eval (.Name y p) X.env) = eval (.Name y p) X.env := by rfl)
    (hfew : ((backTo cpos (starEach [e] X.env)).all (fun x => !x.1) && (backToKw cpos (keywordEach [] X.env)).all (fun x => x.1.isSome) && decide (([e] : List Expr).length + ([] : List Keyword).length + (if ([] : List Keyword).isEmpty then 0 else 1) < 30)) = true := by rfl)
    (hline : (apos.endLine == cpos.line) = true := by rfl) (hs : starEach [e] X.env = (false, eval e X.env) :: starEach [] X.env := by rfl) (hplain : (backTo cpos (starEach [] X.env)).any (·.1) = false := by rfl)
    (hsw : swapsWith (.Call (.Attribute (.Name y p) "append" apos) [e] [] cpos) none pos.line X.env = pure false := by rfl) (hK : X.K = K := by rfl) :
    DS X c (.Expr (.Call (.Attribute (.Name y p) "append" apos) [e] [] cpos) pos) (tDrop (tBM K "list" rAppend (tVar i) (tCons te tNil))) (sAppV i me) :=
  ⟨by rw [← hK]; exact ps_expr (pe_bm PySem.F.plainAttrs_list PySem.F.slot_list_append PySem.F.type_list_append mt_append (pv i hN hv hd hcd) (pa_cons he.p pa_nil hs) hbase hfew hline hs hplain) hsw, r_app he.r⟩
theorem g_put {y : Str} {i : Expr} {p : Pos} {ti : TE} {mi : Mo D} (j : Nat) (hi : DE X c i ti mi) (hN : X.N[j]? = some y := by rfl) (hv : Vis X.env.scope y := by first | exact Or.inl rfl | exact Or.inr (Or.inl rfl) | exact Or.inr (Or.inr rfl)) (hd : (y == ("__debug__" : Str)) = false := by decide) (hcd : (y == ("__classdict__" : Str)) = false := by decide)
    (ha : ∀ v, assign (.Subscript (.Name y p) i pos) X.env v = (do
      let ov ← holding [v] (eval (.Name y p) X.env)
      let iv ← holding [v, ov] (eval i X.env)
      standAt pos
      holding [v, ov, iv] (setItem ov iv v)
      release [v, ov, iv] []) := by intro _; rfl) : DG X c (.Subscript (.Name y p) i pos) (gSub (tVar j) ti rSetL) (gPut j mi) := ⟨pg_sub (pv j hN hv hd hcd) hi.p set_list ha, r_gput hi.r⟩
end
section
variable {P : Program} {w : World} {K : PySem.W.Frag} {mg : Str → Option Value} {base : Heap} {x qual : Str} {st : Stmt} {f : Addr} {fd : FuncData} {N ps : List Str} {k m n : Nat} {b : Mo Fl} {dvs : List V} {kws : List (Str × V)}
theorem okOD (F : FunD K x qual (defArgs st) (defBody st) (defScope st) dvs kws f fd) (S : FnScope N ps (defScope st)) (hm : ps.length = m) (hn : N.length = m + n) (B : BodyD P w K mg base qual st f N k b) : FnOk P w K mg base CX0 (k + 1) f fd ps (spO K m (runO m n b)) := by
  refine F.ok S (fun vs H Q E h => ?_) (fun cdv A outer s H vs Q E hr h => ?_)
  · obtain ⟨M, a, d0, xs, ds, r, d1, rfl, _, _, _, hd, hl, _⟩ := h
    rw [List.length_cons, hd.length, hl, hm]
  · obtain ⟨t, d⟩ := B cdv A outer s H E hr
    exact ⟨t, (d (fun _ => False) (fun _ => False) H).p.nox, run_O hn (fun M0 P0 H0 => (d M0 P0 H0).r) h⟩
end
end DL
set_option autoImplicit false
namespace DL
open PySem PySem.Spec PyProof.Rows L2
structure IsCT (K : PySem.W.Frag) (C : Addr) : Prop where
  cl : Cls K C
  ca : PySem.W.findIn K (.ref C) "__class__" = some (some (.builtin "object.__class__"))
  cn : PySem.W.specialIn K (.builtin "object.__class__") "__get__" = some (some (.builtin "getset_descriptor.__get__"))
  ct : PySem.W.takesIn K (.builtin "object.__class__") = some true
  cm : PySem.W.mroIn K C (.type "object") = some true
def dIsCT (C : Addr) : List D → Option D
  | [.ins B _ _, .cls E] => if E = C ∧ B = C then some (.bl true) else none
  | _ => none
theorem call_ISICT {X : Cx} {C : Addr} (hC : IsCT X.K C) : CallR X (.builtin "isinstance") (rC X.K (dIsCT C)) := by
  intro pins s σ H xs us Q I r h
  obtain ⟨M, ds, z, k, hd, hg, q⟩ := h
  unfold dIsCT at hg
  split at hg
  · obtain ⟨⟨rfl, rfl⟩, rfl⟩ := if_some hg
    obtain ⟨v, w, rfl, hv, hw⟩ := two_of hd
    cases hw
    cases hv with
    | ins n h _ _ => exact call_isi pins s σ H _ us Q I r ⟨_, .ref _, .ref _, .ref _, true, rfl, .own _, .base (.ins h hC.cl hC.ca hC.cn hC.ct hC.cm), by simp [PySem.W.kitOne], q _ H (.refl H) (.bl _)⟩
  · cases hg
end DL
set_option autoImplicit false
namespace DL
open PySem PySem.Spec PyProof.Rows L2
structure Sw (d : Addr) (kvs : List (Key × V)) (H H' : Hp) : Prop where
  off : ∀ b, b ≠ d → H' b = H b
  l : Rd H d (.dK kvs)
  r : Rd H' d (.dK kvs)
section
variable {K : PySem.W.Frag} {M M' : Addr → Prop} {H H' : Hp} {d : Addr} {kvs : List (Key × V)}
theorem Rd.one {a : Addr} {u u' : HO} (h : Rd H a u) (h' : Rd H a u') (n : ∀ o w, u ≠ .frz o w) (n' : ∀ o w, u' ≠ .frz o w) : u = u' := by
  rcases h with h | ⟨o, h⟩ <;> rcases h' with h' | ⟨o', h'⟩ <;> rw [h] at h' <;> cases h' <;> first | rfl | exact absurd rfl (n _ _) | exact absurd rfl (n' _ _)
theorem Sw.ne (s : Sw d kvs H H') {a : Addr} {u : HO} (h : Rd H a u) (n : ∀ o w, u ≠ .frz o w) (nk : ∀ ks, u ≠ .dK ks) : a ≠ d := fun z => by
  subst z
  exact nk _ (Rd.one h s.l n (fun o w q => by cases q))
theorem Sw.rd (s : Sw d kvs H H') {a : Addr} {u : HO} (h : Rd H a u) (n : ∀ o w, u ≠ .frz o w) : Rd H' a u := by
  by_cases z : a = d
  · subst z
    rw [Rd.one h s.l n (fun o w q => by cases q)]
    exact s.r
  · unfold Rd at h ⊢
    rw [s.off a z]
    exact h
end
end DL
set_option autoImplicit false
namespace DL
open PySem PySem.Spec PyProof.Rows L2
end DL
set_option autoImplicit false
namespace DL
open PySem PySem.Spec PyProof.Rows L2
section
variable {ρ ρ1 ρ2 ρ3 : Cs} {a b e : Mo D} {t t' : Mo Bool} {l : Mo (List D)} {x y z d : D} {ds es : List D} {g : D → D → Option D} {u : D → Option D} {f : List D → Option D} {i : Nat} {p q : Bool}
theorem e_c {α : Type} {v : α} : mC v ρ = some (v, ρ) := rfl
theorem e_var (h : ρ[i]? = some (.dat d)) : mVar i ρ = some (d, ρ) := by unfold mVar; rw [h]
theorem e_varO (h : ρ[i]? = some (.own false d)) : mVar i ρ = some (d, ρ.set i (.dat d)) := by unfold mVar; rw [h]
theorem e_as {α : Type} {m : Mo α} {v w : α} (h : m ρ = some (v, ρ1)) (e : ρ1 = ρ2) (e' : v = w) : m ρ = some (w, ρ2) := by rw [h, e, e']
theorem e_bd {α β : Type} {m : Mo α} {k : α → Mo β} {v : α} {r : Option (β × Cs)} (h : m ρ = some (v, ρ1)) (hk : k v ρ1 = r) : mBd m k ρ = r := by unfold mBd; rw [h]; exact hk
theorem e_l {α : Type} {o : Option α} {v : α} (h : o = some v) : mL o ρ = some (v, ρ) := by unfold mL; rw [h]
theorem e_op (ha : a ρ = some (x, ρ1)) (hb : b ρ1 = some (y, ρ2)) (hg : g x y = some z) : mOp g a b ρ = some (z, ρ2) := e_bd ha (e_bd hb (e_l hg))
theorem e_un (ha : a ρ = some (x, ρ1)) (hg : u x = some z) : mUn u a ρ = some (z, ρ1) := e_bd ha (e_l hg)
theorem e_tst (ha : a ρ = some (.bl p, ρ1)) : mTst a ρ = some (p, ρ1) := e_bd ha (e_l rfl)
theorem e_anil : aNil ρ = some ([], ρ) := rfl
theorem e_acons (ha : a ρ = some (x, ρ1)) (hl : l ρ1 = some (ds, ρ2)) : aCons a l ρ = some (x :: ds, ρ2) := e_bd ha (e_bd hl rfl)
theorem e_tup (h : l ρ = some (ds, ρ1)) (hl : ds.length ≤ sizeLine) : mTup l ρ = some (.tup ds, ρ1) := e_bd h (e_l (if_pos hl))
theorem e_lst (h : l ρ = some (ds, ρ1)) (hl : ds.length ≤ sizeLine) : mLst l ρ = some (.lst ds, ρ1) := e_bd h (e_l (if_pos hl))
theorem e_fn (h : l ρ = some (ds, ρ1)) (hg : f ds = some z) : mFn f l ρ = some (z, ρ1) := e_bd h (e_l hg)
theorem e_chain {h : D → D → Option D} {c : Mo D} (ha : a ρ = some (x, ρ)) (hb : b ρ = some (y, ρ)) (hg : g x y = some (.bl p)) (hc : c ρ = some (z, ρ)) (hh : h y z = some (.bl q)) : mChain g h a b c ρ = some (.bl (p && q), ρ) := by
  refine e_bd ha (e_bd hb (e_bd (e_l hg) (e_bd (e_l rfl) ?_)))
  cases p with
  | true => exact e_bd hc (e_l hh)
  | false => rfl
theorem e_notV (ha : a ρ = some (.bl p, ρ1)) : mNotV a ρ = some (.bl (!p), ρ1) := e_bd (e_tst ha) rfl
theorem e_andV (ha : a ρ = some (.bl p, ρ1)) (hb : b ρ1 = some (.bl q, ρ1)) : mAndV a b ρ = some (.bl (p && q), ρ1) := by
  refine e_bd (e_tst ha) ?_
  cases p with
  | true => exact hb
  | false => rfl
theorem e_orV (ha : a ρ = some (.bl p, ρ1)) (hb : b ρ1 = some (.bl q, ρ1)) : mOrV a b ρ = some (.bl (p || q), ρ1) := by
  refine e_bd (e_tst ha) ?_
  cases p with
  | true => rfl
  | false => exact hb
theorem e_not (ha : t ρ = some (p, ρ1)) : mNot t ρ = some (!p, ρ1) := e_bd ha rfl
theorem e_and (ha : t ρ = some (p, ρ1)) (hb : t' ρ1 = some (q, ρ1)) : mAnd t t' ρ = some (p && q, ρ1) := by
  refine e_bd ha ?_
  cases p with
  | true => exact hb
  | false => rfl
theorem e_or (ha : t ρ = some (p, ρ1)) (hb : t' ρ1 = some (q, ρ1)) : mOr t t' ρ = some (p || q, ρ1) := by
  refine e_bd ha ?_
  cases p with
  | true => rfl
  | false => exact hb
theorem e_if (ht : t ρ = some (p, ρ1)) (ha : p = true → a ρ1 = some (x, ρ2)) (hb : p = false → b ρ1 = some (y, ρ2)) : mIf t a b ρ = some (if p = true then x else y, ρ2) := by
  refine e_bd ht ?_
  cases p with
  | true => exact ha rfl
  | false => exact hb rfl
theorem e_if1 {r : Option (D × Cs)} (ht : t ρ = some (true, ρ1)) (ha : a ρ1 = r) : mIf t a b ρ = r := e_bd ht ha
theorem e_if0 {r : Option (D × Cs)} (ht : t ρ = some (false, ρ1)) (ha : b ρ1 = r) : mIf t a b ρ = r := e_bd ht ha
theorem e_no : mNo ρ = some (none, ρ) := rfl
theorem e_part {k : Int} (ha : a ρ = some (.int k, ρ1)) : mPart a ρ = some (some k, ρ1) := e_bd ha (e_bd (e_l rfl) rfl)
theorem e_sl {g : D → Option Int → Option Int → Option D} {lo hi : Option Int} {ml mh : Mo (Option Int)} (ha : a ρ = some (x, ρ1)) (h1 : ml ρ1 = some (lo, ρ2)) (h2 : mh ρ2 = some (hi, ρ3)) (hg : g x lo hi = some z) : mSl g a ml mh ρ = some (z, ρ3) := e_bd ha (e_bd h1 (e_bd h2 (e_l hg)))
theorem e_ixO {v : List D} {k : Int} (h0 : ρ[i]? = some (.own p (.lst v))) (hb : b ρ = some (.int k, ρ1)) (h1 : ρ1[i]? = some (.own q (.lst es))) (hx : atI es k = some z) : mIxV i b ρ = some (z, ρ1) := by
  unfold mIxV
  rw [h0]
  exact e_bd hb (by simp only [h1]; exact e_l hx)
theorem e_ixD (h0 : ρ[i]? = some (.dat x)) (hb : b ρ = some (y, ρ1)) (hg : dIx x y = some z) : mIxV i b ρ = some (z, ρ1) := by
  unfold mIxV
  rw [h0]
  exact e_op (e_var h0) hb hg
theorem e_fnPo (h0 : ρ[i]? = some (.own p x)) (hg : f [x] = some z) (hs : scal z = true) : mFnP f i ρ = some (z, ρ) := by
  unfold mFnP
  rw [h0]
  exact e_l (by rw [hg]; exact if_pos hs)
theorem e_fnPd (h0 : ρ[i]? = some (.dat x)) (hg : f [x] = some z) : mFnP f i ρ = some (z, ρ) := by
  unfold mFnP
  rw [h0]
  exact e_fn (e_acons (e_var h0) e_anil) hg
theorem e_rtO (ha : a ρ = some (x, ρ1)) (h0 : ρ1[i]? = some (.own p y)) (hg : g x y = some z) (hs : scal z = true) : mOpRt g a i ρ = some (z, ρ1) := by
  refine e_bd ha ?_
  simp only [h0]
  exact e_l (by rw [hg]; exact if_pos hs)
theorem e_rtD (ha : a ρ = some (x, ρ1)) (h0 : ρ1[i]? = some (.dat y)) (hg : g x y = some z) : mOpRt g a i ρ = some (z, ρ1) := by
  refine e_bd ha ?_
  simp only [h0]
  exact e_bd (e_var h0) (e_l hg)
theorem e_ltO (h0 : ρ[i]? = some (.own p d)) (hb : b ρ = some (y, ρ1)) (h1 : ρ1[i]? = some (.own q x)) (hg : g x y = some z) (hs : scal z = true) : mOpL g i b ρ = some (z, ρ1) := by
  unfold mOpL
  rw [h0]
  exact e_bd hb (by simp only [h1]; exact e_l (by rw [hg]; exact if_pos hs))
theorem e_ltD (h0 : ρ[i]? = some (.dat x)) (hb : b ρ = some (y, ρ1)) (hg : g x y = some z) : mOpL g i b ρ = some (z, ρ1) := by
  unfold mOpL
  rw [h0]
  exact e_op (e_var h0) hb hg
theorem e_callO {F : D → List D → Option (D × D)} {d0 d1 d2 : D} (h0 : ρ[i]? = some (.own p d0)) (ha : l ρ = some (ds, ρ1)) (h1 : ρ1[i]? = some (.own q d1)) (hF : F d1 ds = some (z, d2)) : mCallO F i l ρ = some (z, ρ1.set i (.own q d2)) := by
  unfold mCallO
  rw [if_pos (by unfold owns; rw [h0])]
  refine e_bd ha ?_
  simp only [h1, hF]
theorem e_callNew {F : D → List D → Option (D × D)} {d0 d1 : D} (he : e ρ = some (d0, ρ1)) (ha : l ρ1 = some (ds, ρ2)) (hF : F d0 ds = some (z, d1)) : mCallNew F e l ρ = some (z, ρ2) := e_bd he (e_bd ha (e_l (by rw [hF]; rfl)))
theorem e_star (ha : a ρ = some (.tup ds, ρ1)) (hl : l ρ1 = some (es, ρ2)) : aStar a l ρ = some (ds ++ es, ρ2) := e_bd ha (e_bd (e_l rfl) (e_bd hl rfl))
theorem e_prop {C : Addr} {ns : List Str} {F : List D → Option D} (ha : a ρ = some (.ins C ns ds, ρ1)) (hF : F [.ins C ns ds] = some z) : mProp C F a ρ = some (z, ρ1) := by
  refine e_bd ha ?_
  rw [if_pos (by simp [isIns])]
  exact e_l hF
theorem e_fld {C : Addr} {ns : List Str} {s : Str} (ha : a ρ = some (.ins C ns ds, ρ1)) (hF : lookD ns ds s = some z) : mFld C s a ρ = some (z, ρ1) := by
  refine e_bd ha ?_
  simp only [if_true, eq_self]
  exact e_l hF
theorem e_meth {C : Addr} {ns : List Str} {nm : Str} {F : List D → Option D} (ha : a ρ = some (.ins C ns ds, ρ1)) (hn : ns.contains nm = false) (hl : l ρ1 = some (es, ρ2)) (hF : F (.ins C ns ds :: es) = some z) : mMeth C nm F a l ρ = some (z, ρ2) := by
  refine e_bd ha ?_
  rw [if_pos (by simp only [isObj, hn, beq_self_eq_true, Bool.not_false, Bool.and_self])]
  exact e_bd hl (e_l hF)
theorem e_make {C : Addr} {F : D → List D → Option (D × D)} {dds : List D} (hl : l ρ = some (ds, ρ1)) (hF : F (.ins C [] []) (ds ++ dds) = some (.non, d)) : mMake C F dds l ρ = some (d, ρ1) := e_bd hl (e_l (by rw [hF]))
theorem e_kw {is : List Nat} {n nk : Nat} {k : Mo (List D)} {F : List D → Option D} (hl : l ρ = some (ds, ρ1)) (hk : k ρ1 = some (es, ρ2)) (h1 : ds.length = n) (h2 : es.length = nk) (hF : F (pick is (ds ++ es)) = some z) : mKw is n nk F l k ρ = some (z, ρ2) := by
  refine e_bd hl (e_bd hk ?_)
  rw [if_pos ⟨h1, h2⟩]
  exact e_l hF
end
section
variable {ρ ρ1 ρ2 : Cs} {a b e : Mo D} {t : Mo Bool} {l : Mo (List D)} {x y z d : D} {ds : List D} {i : Nat} {p q : Bool} {k m m' : Mo Fl} {P : Option (Fl × Cs) → Prop}
theorem st_one (h : P (sSeq m sNx ρ)) : P (m ρ) := by
  have e : sSeq m sNx ρ = m ρ := by
    unfold sSeq
    cases h : m ρ with
    | none => rfl
    | some r =>
      obtain ⟨f, ρ'⟩ := r
      cases f <;> rfl
  rw [← e]; exact h
theorem st_assoc (h : P (sSeq m (sSeq m' k) ρ)) : P (sSeq (sSeq m m') k ρ) := by
  have e : sSeq (sSeq m m') k ρ = sSeq m (sSeq m' k) ρ := by
    unfold sSeq
    cases h : m ρ with
    | none => rfl
    | some r =>
      obtain ⟨f, ρ'⟩ := r
      cases f <;> rfl
  rw [e]; exact h
theorem st_run (h : m ρ = some (.nx, ρ1)) (hk : P (k ρ1)) : P (sSeq m k ρ) := by
  unfold sSeq
  rw [h]; exact hk
theorem st_end (h : m ρ = some (.rt d, ρ1)) (hk : P (some (.rt d, ρ1))) : P (sSeq m k ρ) := by
  unfold sSeq
  rw [h]; exact hk
theorem st_nx (hk : P (k ρ)) : P (sSeq sNx k ρ) := st_run rfl hk
theorem st_set (h : a ρ = some (d, ρ1)) (hk : P (k (ρ1.set i (.dat d)))) : P (sSeq (sSet i a) k ρ) := st_run (e_bd h rfl) hk
theorem st_setN (h : a ρ = some (d, ρ1)) (hk : P (k (ρ1.set i (.own false d)))) : P (sSeq (sSetN i a) k ρ) := st_run (e_bd h rfl) hk
theorem st_drop (h : a ρ = some (d, ρ1)) (hk : P (k ρ1)) : P (sSeq (sDrop a) k ρ) := st_run (e_bd h rfl) hk
theorem st_ret (h : a ρ = some (d, ρ1)) (hk : P (some (.rt d, ρ1))) : P (sSeq (sRet a) k ρ) := st_end (e_bd h rfl) hk
theorem st_retNew (h : a ρ = some (d, ρ1)) (hk : P (some (.rn d, ρ1))) : P (sSeq (sRetNew a) k ρ) := by
  have e : sRetNew a ρ = some (.rn d, ρ1) := e_bd h rfl
  unfold sSeq
  rw [e]; exact hk
theorem st_retN (hk : P (some (.rt .non, ρ))) : P (sSeq sRetN k ρ) := st_end rfl hk
theorem st_if (ht : t ρ = some (p, ρ1)) (h1 : p = true → P (sSeq m k ρ1)) (h2 : p = false → P (sSeq m' k ρ1)) : P (sSeq (sIf t m m') k ρ) := by
  cases p with
  | true =>
    have := h1 rfl
    unfold sSeq at this ⊢
    have e : sIf t m m' ρ = m ρ1 := e_bd ht rfl
    rw [e]; exact this
  | false =>
    have := h2 rfl
    unfold sSeq at this ⊢
    have e : sIf t m m' ρ = m' ρ1 := e_bd ht rfl
    rw [e]; exact this
theorem st_par {is : List Nat} {fs : List Bool} (h : l ρ = some (ds, ρ1)) (hs : stAll is fs ds ρ1 = some ρ2) (hk : P (k ρ2)) : P (sSeq (sPar is fs l) k ρ) := st_run (e_bd h (by simp only [hs])) hk
theorem st_asg {g : D → Mo Unit} {u : Unit} (h : a ρ = some (d, ρ1)) (hg : g d ρ1 = some (u, ρ2)) (hk : P (k ρ2)) : P (sSeq (sAsg a g) k ρ) := st_run (e_bd h (e_bd hg rfl)) hk
theorem st_app {ds : List D} (h0 : ρ[i]? = some (.own p (.lst ds))) (h : a ρ = some (d, ρ1)) {es : List D} (h1 : ρ1[i]? = some (.own q (.lst es))) (hl : es.length < sizeLine) (hk : P (k (ρ1.set i (.own q (.lst (es ++ [d])))))) : P (sSeq (sAppV i a) k ρ) := by
  refine st_run ?_ hk
  unfold sAppV
  rw [if_pos (by unfold ownsL; rw [h0])]
  refine e_bd h ?_
  simp only [h1]
  exact if_pos hl
theorem st_fld {C : Addr} {s : Str} {ns : List Str} {es : List D} (h : a ρ = some (d, ρ1)) (h1 : ρ1[i]? = some (.own q (.ins C ns es))) (hl : es.length < 1000) (hk : P (k (ρ1.set i (.own q (.ins C (putN s ns) (putD s d ns es)))))) : P (sSeq (sFldV C i s a) k ρ) := by
  refine st_run (e_bd h ?_) hk
  rw [h1]
  exact if_pos ⟨rfl, hl⟩
theorem g_nm {d : D} : gNm i d ρ = some ((), ρ.set i (.dat d)) := rfl
theorem g_putE {d0 : D} {ds es : List D} {n : Int} {j : Nat} (h0 : ρ[i]? = some (.own p d0)) (hb : b ρ = some (.int n, ρ1)) (h1 : ρ1[i]? = some (.own q (.lst es))) (hj : ixN es.length n = some j) : gPut i b d ρ = some ((), ρ1.set i (.own q (.lst (es.set j d)))) := by
  unfold gPut
  rw [if_pos (by unfold owns; rw [h0])]
  refine e_bd hb ?_
  unfold putL
  simp only [h1, int?, hj]
/-- a loop's body: on; broken; returned -/
def BodyQ (N B : Cs → Prop) (R : Option (Fl × Cs) → Prop) : Option (Fl × Cs) → Prop
  | some (.nx, ρ) | some (.ct, ρ) => N ρ
  | some (.bk, ρ) => B ρ
  | some (.rt d, ρ) => R (some (.rt d, ρ))
  | _ => False
theorem goFor_inv {α : Type} {g : D → Mo Unit} {b : Mo Fl} {enc : α → D} {R : Option (Fl × Cs) → Prop} {k : Mo Fl} : ∀ (xs done : List α) (ρ : Cs) (I : List α → Cs → Prop), I done ρ →
    (∀ ys x zs ρ, done ++ xs = ys ++ x :: zs → I ys ρ → ∃ u ρ1, g (enc x) ρ = some (u, ρ1) ∧ BodyQ (I (ys ++ [x])) (fun ρ' => R (k ρ')) R (b ρ1)) → (∀ ρ, I (done ++ xs) ρ → R (k ρ)) → R (match goFor g b (xs.map enc) ρ with
      | some (.nx, ρ') => k ρ'
      | r => r)
  | [], done, ρ, I, h0, hs, hd => by
    rw [List.append_nil] at hd
    exact hd ρ h0
  | x :: xs, done, ρ, I, h0, hs, hd => by
    obtain ⟨u, ρ1, hg, hb⟩ := hs done x xs ρ rfl h0
    rw [List.map_cons]
    unfold goFor
    rw [hg]
    simp only
    have go : ∀ ρ2, I (done ++ [x]) ρ2 → R (match goFor g b (xs.map enc) ρ2 with
      | some (.nx, ρ') => k ρ'
      | r => r) := fun ρ2 h2 => goFor_inv xs (done ++ [x]) ρ2 I h2 (fun ys y zs ρ e hy => hs ys y zs ρ (by rw [← e, List.append_assoc]; rfl) hy) fun ρ h => hd ρ (by rw [List.append_assoc] at h; exact h)
    cases eb : b ρ1 with
    | none => rw [eb] at hb; exact hb.elim
    | some r =>
      obtain ⟨f, ρ2⟩ := r
      rw [eb] at hb
      cases f with
      | nx => exact go ρ2 hb
      | ct => exact go ρ2 hb
      | bk => exact hb
      | rt d => exact hb
      | rn d => exact hb.elim
/-- for x in xs -/
theorem st_for {α : Type} {it : Mo (List D)} {g : D → Mo Unit} {enc : α → D} {xs : List α} (hi : it ρ = some (xs.map enc, ρ1)) (I : List α → Cs → Prop) (h0 : I [] ρ1)
    (hs : ∀ ys x zs ρ, xs = ys ++ x :: zs → I ys ρ → ∃ u ρ1, g (enc x) ρ = some (u, ρ1) ∧ BodyQ (I (ys ++ [x])) (fun ρ' => P (k ρ')) P (m ρ1)) (hd : ∀ ρ, I xs ρ → P (k ρ)) : P (sSeq (sFor it g m) k ρ) := by
  have := goFor_inv (g := g) (b := m) (enc := enc) (R := P) (k := k) xs [] ρ1 I h0 hs hd
  have e : sFor it g m ρ = goFor g m (xs.map enc) ρ1 := e_bd hi rfl
  unfold sSeq
  rw [e]
  exact this
theorem goLc_inv {α : Type} {vs : List Nat} {g : D → Mo Unit} {t : Mo Bool} {e : Mo D} {enc : α → D} : ∀ (xs done : List α) (acc : List D) (ρ : Cs) (I : List α → List D → Cs → Prop), I done acc ρ → acc.length + xs.length ≤ sizeLine → (∀ done acc ρ, I done acc ρ → acc.length ≤ done.length) → done.length + xs.length ≤ sizeLine →
    (∀ ys x zs acc ρ, done ++ xs = ys ++ x :: zs → I ys acc ρ → ∃ u ρ1 p ρ2, g (enc x) (clr vs ρ) = some (u, ρ1) ∧ t ρ1 = some (p, ρ2) ∧ (p = false → I (ys ++ [x]) acc ρ2) ∧ (p = true → ∃ y ρ3, e ρ2 = some (y, ρ3) ∧ I (ys ++ [x]) (acc ++ [y]) ρ3)) →
    ∃ acc' ρ', goLc vs g t e (xs.map enc) acc ρ = some (acc', ρ') ∧ I (done ++ xs) acc' ρ'
  | [], done, acc, ρ, I, h0, _, _, _, _ => ⟨acc, ρ, rfl, by rw [List.append_nil]; exact h0⟩
  | x :: xs, done, acc, ρ, I, h0, hl, hln, hdl, hs => by
    obtain ⟨u, ρ1, p, ρ2, hg, ht, hf, hp⟩ := hs done x xs acc ρ rfl h0
    rw [List.length_cons] at hl hdl
    rw [List.map_cons]
    unfold goLc
    simp only [hg, ht]
    have go : ∀ acc2 ρ2, I (done ++ [x]) acc2 ρ2 → acc2.length + xs.length ≤ sizeLine → ∃ acc' ρ', goLc vs g t e (xs.map enc) acc2 ρ2 = some (acc', ρ') ∧ I (done ++ x :: xs) acc' ρ' := fun acc2 ρ2 h2 hl2 => by
      have := goLc_inv xs (done ++ [x]) acc2 ρ2 I h2 hl2 hln (by rw [List.length_append, List.length_singleton]; omega) (fun ys y zs acc ρ e hy => hs ys y zs acc ρ (by rw [← e, List.append_assoc]; rfl) hy)
      rw [List.append_assoc] at this
      exact this
    cases p with
    | false => exact go acc ρ2 (hf rfl) (by omega)
    | true =>
      obtain ⟨y, ρ3, he, hI⟩ := hp rfl
      simp only [he]
      rw [if_pos (by omega)]
      exact go _ ρ3 hI (by rw [List.length_append, List.length_singleton]; omega)
/-- [e for x in xs if t] -/
theorem e_lc {α : Type} {vs : List Nat} {it : Mo (List D)} {g : D → Mo Unit} {t : Mo Bool} {e : Mo D} {enc : α → D} {xs : List α} (hi : it ρ = some (xs.map enc, ρ1)) (hf : free vs ρ1 = true) (I : List α → List D → Cs → Prop) (h0 : I [] [] (clr vs ρ1)) (hln : ∀ done acc ρ, I done acc ρ → acc.length ≤ done.length) (hxl : xs.length ≤ sizeLine)
    (hs : ∀ ys x zs acc ρ, xs = ys ++ x :: zs → I ys acc ρ → ∃ u ρ1 p ρ2, g (enc x) (clr vs ρ) = some (u, ρ1) ∧ t ρ1 = some (p, ρ2) ∧ (p = false → I (ys ++ [x]) acc ρ2) ∧ (p = true → ∃ y ρ3, e ρ2 = some (y, ρ3) ∧ I (ys ++ [x]) (acc ++ [y]) ρ3)) :
    ∃ acc ρ', mLc vs it g t e ρ = some (.lst acc, back vs ρ1 (clr vs ρ')) ∧ I xs acc ρ' := by
  obtain ⟨acc, ρ', h1, h2⟩ := goLc_inv (vs := vs) (g := g) (t := t) (e := e) (enc := enc) xs [] [] (clr vs ρ1) I h0 (by rw [List.length_nil, Nat.zero_add]; exact hxl) hln (by rw [List.length_nil, Nat.zero_add]; exact hxl) hs
  refine ⟨acc, ρ', e_bd hi ?_, h2⟩
  rw [if_pos hf, h1]
/-- .. when nothing but its own slots changes, and each item gives one -/
theorem goLc_map {α : Type} {vs : List Nat} {g : D → Mo Unit} {e : Mo D} {enc f : α → D} {ρ0 : Cs} : ∀ (xs : List α) (acc : List D) (ρ : Cs), clr vs ρ = ρ0 → acc.length + xs.length ≤ sizeLine →
    (∀ x ∈ xs, ∃ u ρ1, g (enc x) ρ0 = some (u, ρ1) ∧ ∃ ρ3, e ρ1 = some (f x, ρ3) ∧ clr vs ρ3 = ρ0) → ∃ ρ', goLc vs g (mC true) e (xs.map enc) acc ρ = some (acc ++ xs.map f, ρ') ∧ clr vs ρ' = ρ0
  | [], acc, ρ, h, _, _ => ⟨ρ, by rw [List.map_nil, List.map_nil, List.append_nil]; rfl, h⟩
  | x :: xs, acc, ρ, h, hl, hs => by
    obtain ⟨u, ρ1, hg, ρ3, he, hc⟩ := hs x List.mem_cons_self
    rw [List.length_cons] at hl
    rw [List.map_cons, List.map_cons]
    unfold goLc
    rw [h]
    simp only [hg, e_c, he]
    rw [if_pos (by omega)]
    obtain ⟨ρ', q1, q2⟩ := goLc_map xs (acc ++ [f x]) ρ3 hc (by rw [List.length_append, List.length_singleton]; omega) fun y hy => hs y (List.mem_cons_of_mem _ hy)
    exact ⟨ρ', by rw [q1, List.append_assoc]; rfl, q2⟩
theorem e_lcm {α : Type} {vs : List Nat} {it : Mo (List D)} {g : D → Mo Unit} {e : Mo D} {enc f : α → D} {xs : List α} (hi : it ρ = some (xs.map enc, ρ1)) (hf : free vs ρ1 = true) (hxl : xs.length ≤ sizeLine)
    (hs : ∀ x ∈ xs, ∃ u ρ2, g (enc x) (clr vs ρ1) = some (u, ρ2) ∧ ∃ ρ3, e ρ2 = some (f x, ρ3) ∧ clr vs ρ3 = clr vs ρ1) (hcc : clr vs (clr vs ρ1) = clr vs ρ1) : mLc vs it g (mC true) e ρ = some (.lst (xs.map f), back vs ρ1 (clr vs ρ1)) := by
  obtain ⟨ρ', h1, h2⟩ := goLc_map (vs := vs) (g := g) (e := e) (enc := enc) (f := f) (ρ0 := clr vs ρ1) xs [] (clr vs ρ1) hcc (by rw [List.length_nil, Nat.zero_add]; exact hxl) hs
  refine e_bd hi ?_
  rw [if_pos hf, h1]
  simp only [List.nil_append, h2]
/-- .. with a test -/
theorem goLc_filter {α : Type} {vs : List Nat} {g : D → Mo Unit} {t : Mo Bool} {e : Mo D} {enc f : α → D} {ρ0 : Cs} {p : α → Bool} : ∀ (xs : List α) (acc : List D) (ρ : Cs), clr vs ρ = ρ0 → acc.length + xs.length ≤ sizeLine →
    (∀ x ∈ xs, ∃ u ρ1, g (enc x) ρ0 = some (u, ρ1) ∧ ∃ ρ2, t ρ1 = some (p x, ρ2) ∧ (p x = false → clr vs ρ2 = ρ0) ∧ (p x = true → ∃ ρ3, e ρ2 = some (f x, ρ3) ∧ clr vs ρ3 = ρ0)) → ∃ ρ', goLc vs g t e (xs.map enc) acc ρ = some (acc ++ (xs.filter p).map f, ρ') ∧ clr vs ρ' = ρ0
  | [], acc, ρ, h, _, _ => ⟨ρ, by rw [List.map_nil, List.filter_nil, List.map_nil, List.append_nil]; rfl, h⟩
  | x :: xs, acc, ρ, h, hl, hs => by
    obtain ⟨u, ρ1, hg, ρ2, ht, hf, hp⟩ := hs x List.mem_cons_self
    rw [List.length_cons] at hl
    rw [List.map_cons]
    unfold goLc
    rw [h]
    simp only [hg, ht]
    cases hc : p x with
    | false =>
      rw [List.filter_cons_of_neg (by rw [hc]; exact Bool.false_ne_true)]
      exact goLc_filter xs acc ρ2 (hf hc) (by omega) fun y hy => hs y (List.mem_cons_of_mem _ hy)
    | true =>
      obtain ⟨ρ3, he, h3⟩ := hp hc
      rw [List.filter_cons_of_pos hc]
      simp only [he]
      rw [if_pos (by omega)]
      obtain ⟨ρ', q1, q2⟩ := goLc_filter xs (acc ++ [f x]) ρ3 h3 (by rw [List.length_append, List.length_singleton]; omega) fun y hy => hs y (List.mem_cons_of_mem _ hy)
      exact ⟨ρ', by rw [q1, List.append_assoc]; rfl, q2⟩
theorem e_lcf {α : Type} {vs : List Nat} {it : Mo (List D)} {g : D → Mo Unit} {t : Mo Bool} {e : Mo D} {enc f : α → D} {xs : List α} {p : α → Bool} (hi : it ρ = some (xs.map enc, ρ1)) (hf : free vs ρ1 = true) (hxl : xs.length ≤ sizeLine)
    (hs : ∀ x ∈ xs, ∃ u ρ2, g (enc x) (clr vs ρ1) = some (u, ρ2) ∧ ∃ ρ3, t ρ2 = some (p x, ρ3) ∧ (p x = false → clr vs ρ3 = clr vs ρ1) ∧ (p x = true → ∃ ρ4, e ρ3 = some (f x, ρ4) ∧ clr vs ρ4 = clr vs ρ1)) (hcc : clr vs (clr vs ρ1) = clr vs ρ1) : mLc vs it g t e ρ = some (.lst ((xs.filter p).map f), back vs ρ1 (clr vs ρ1)) := by
  obtain ⟨ρ', h1, h2⟩ := goLc_filter (vs := vs) (g := g) (t := t) (e := e) (enc := enc) (f := f) (p := p) (ρ0 := clr vs ρ1) xs [] (clr vs ρ1) hcc (by rw [List.length_nil, Nat.zero_add]; exact hxl) hs
  refine e_bd hi ?_
  rw [if_pos hf, h1]
  simp only [List.nil_append, h2]
end
def RetQ (Q : D → Prop) (r : Option (Fl × Cs)) : Prop := ∃ d, fin1 r = some d ∧ Q d
def RetNw (Q : D → Prop) (r : Option (Fl × Cs)) : Prop := ∃ d, fin3 r = some d ∧ Q d
def RetO (Q : D → D → Prop) (r : Option (Fl × Cs)) : Prop := ∃ d e, fin2 r = some (d, e) ∧ Q d e
section
variable {ρ : Cs} {d e : D} {Q : D → Prop} {R : D → D → Prop} {m n : Nat} {b : Mo Fl} {ds : List D} {d0 : D}
theorem rq_rt (q : Q d) : RetQ Q (some (.rt d, ρ)) := ⟨d, rfl, q⟩
theorem rn_rn (q : Q d) : RetNw Q (some (.rn d, ρ)) := ⟨d, rfl, q⟩
theorem ro_rt (q : R d e) : RetO R (some (.rt d, .own true e :: ρ)) := ⟨d, e, rfl, q⟩
theorem ro_nx (q : R .non e) : RetO R (some (.nx, .own true e :: ρ)) := ⟨.non, e, rfl, q⟩
theorem retF (h : RetQ (fun r => r = d) (b (cells ds n))) (hl : ds.length = m := by rfl) : runF m n b ds = some d := by
  obtain ⟨x, h1, rfl⟩ := h
  unfold runF
  rw [if_pos hl, h1]
theorem retOE (h : RetO R (b (.own true d0 :: cells ds n))) (hl : ds.length + 1 = m := by rfl) : ∃ d e, runO m n b d0 ds = some (d, e) ∧ R d e := by
  obtain ⟨x, y, h1, q⟩ := h
  exact ⟨x, y, by unfold runO; rw [if_pos hl, h1], q⟩
theorem retNE (h : RetNw Q (b (cells ds n))) (hl : ds.length = m := by rfl) : ∃ d, runN m n b ds = some d ∧ Q d := by
  obtain ⟨x, h1, q⟩ := h
  exact ⟨x, by unfold runN; rw [if_pos hl, h1], q⟩
end
section
variable {ρ ρ1 : Cs} {a : Mo D} {t : Mo Bool} {i : Nat} {C : Addr} {s : Str} {l : Mo (List D)} {is : List Nat} {fs : List Bool} {g : D → Mo Unit} {it : Mo (List D)} {n : Cs → Nat} {m m' : Mo Fl} {P : Option (Fl × Cs) → Prop}
theorem sw_ret (h : P (sSeq (sRet a) sNx ρ)) : P (sRet a ρ) := st_one h
theorem sw_retNew (h : P (sSeq (sRetNew a) sNx ρ)) : P (sRetNew a ρ) := st_one h
theorem sw_retN (h : P (sSeq sRetN sNx ρ)) : P (sRetN ρ) := st_one h
theorem sw_if (h : P (sSeq (sIf t m m') sNx ρ)) : P (sIf t m m' ρ) := st_one h
theorem sw_set (h : P (sSeq (sSet i a) sNx ρ)) : P (sSet i a ρ) := st_one h
theorem sw_setN (h : P (sSeq (sSetN i a) sNx ρ)) : P (sSetN i a ρ) := st_one h
theorem sw_app (h : P (sSeq (sAppV i a) sNx ρ)) : P (sAppV i a ρ) := st_one h
theorem sw_asg (h : P (sSeq (sAsg a g) sNx ρ)) : P (sAsg a g ρ) := st_one h
theorem sw_par (h : P (sSeq (sPar is fs l) sNx ρ)) : P (sPar is fs l ρ) := st_one h
theorem sw_fld (h : P (sSeq (sFldV C i s a) sNx ρ)) : P (sFldV C i s a ρ) := st_one h
theorem sw_drop (h : P (sSeq (sDrop a) sNx ρ)) : P (sDrop a ρ) := st_one h
theorem sw_for (h : P (sSeq (sFor it g m) sNx ρ)) : P (sFor it g m ρ) := st_one h
theorem sw_nx (h : P (some (.nx, ρ))) : P (sNx ρ) := h
theorem sw_ct (h : P (some (.ct, ρ))) : P (sCt ρ) := h
theorem sw_bk (h : P (some (.bk, ρ))) : P (sBk ρ) := h
end
@[simp] theorem isTy_tt : isTy "tuple" "tuple" = true := rfl
@[simp] theorem isTy_ii : isTy "int" "int" = true := rfl
@[simp] theorem isTy_ib : isTy "int" "bool" = false := rfl
@[simp] theorem isTy_ss : isTy "str" "str" = true := rfl
@[simp] theorem isTy_nt : isTy "NoneType" "tuple" = false := rfl
@[simp] theorem isTy_ns : isTy "NoneType" "str" = false := rfl
@[simp] theorem isTy_is : isTy "int" "str" = false := rfl
theorem len_le {n : Nat} (h : n ≤ 1000) : n ≤ sizeLine := Nat.le_trans h (by decide)
theorem rng_ok {n : Nat} (h : n ≤ 1000000) : rng1? [.int (n : Int)] = some ((List.range n).map fun k : Nat => D.int (0 + (k : Int))) := by
  have e : rng1? [.int (n : Int)] = if -(2 ^ 62) ≤ (n : Int) ∧ (n : Int) < 2 ^ 62 then some (rngD 0 (n : Int).toNat) else none := rfl
  rw [e, if_pos (by omega), Int.toNat_natCast]
  rfl
end DL
open PySem PySem.Spec PyProof.Rows L2 DL
set_option hygiene false
local macro_rules
  | `(tactic| refine_lift' evl) => `(tactic| first | rfl | assumption | (exact if_pos (by assumption)) | decide | (exact DL.len_le (by simp)) | (exact Nat.le_of_ble_eq_true rfl))
  | `(tactic| refine_lift' evl [$ls,*]) => do
    let alts ← ls.getElems.mapM fun t => `(tacticSeq| exact $t)
    let mut r ← `(tactic| first | rfl | assumption | (exact if_pos (by assumption)) | decide | (exact DL.len_le (by simp)) | (exact Nat.le_of_ble_eq_true rfl))
    for t in ls.getElems.reverse do
      r ← `(tactic| first | exact $t | $r:tactic)
    for t in ls.getElems.reverse do
      r ← `(tactic| first | with_reducible exact $t | $r:tactic)
    return r
local macro_rules
  | `(tactic| refine_lift' evx) => `(tactic| assumption)
  | `(tactic| refine_lift' evx [$ls,*]) => do
    let mut r ← `(tactic| assumption)
    for t in ls.getElems.reverse do
      r ← `(tactic| first | exact $t | $r:tactic)
    return r
local macro_rules
  | `(tactic| refine_lift' ev) => `(tactic| refine_lift' ev [])
  | `(tactic| refine_lift' ev [$ls,*]) => `(tactic| with_reducible first
      | refine_lift' evx [$ls,*] | exact e_c | exact e_anil | exact e_no
      | (apply e_var; (focus (with_unfolding_all rfl)))
      | (apply e_op; (focus (refine_lift' ev [$ls,*])); (focus (refine_lift' ev [$ls,*])); (focus (with_unfolding_all refine_lift' evl [$ls,*])))
      | (apply e_acons; (focus (refine_lift' ev [$ls,*])); (focus (refine_lift' ev [$ls,*])))
      | (apply e_fn; (focus (refine_lift' ev [$ls,*])); (focus (with_unfolding_all refine_lift' evl [$ls,*])))
      | (apply e_un; (focus (refine_lift' ev [$ls,*])); (focus (with_unfolding_all refine_lift' evl [$ls,*])))
      | (apply e_tst; (focus (refine_lift' ev [$ls,*])))
      | (apply e_tup; (focus (refine_lift' ev [$ls,*])); (focus (with_unfolding_all refine_lift' evl [$ls,*])))
      | (apply e_lst; (focus (refine_lift' ev [$ls,*])); (focus (with_unfolding_all refine_lift' evl [$ls,*])))
      | (apply e_chain; (focus (refine_lift' ev [$ls,*])); (focus (refine_lift' ev [$ls,*])); (focus (with_unfolding_all refine_lift' evl [$ls,*])); (focus (refine_lift' ev [$ls,*])); (focus (with_unfolding_all refine_lift' evl [$ls,*])))
      | (apply e_notV; (focus (refine_lift' ev [$ls,*])))
      | (apply e_andV; (focus (refine_lift' ev [$ls,*])); (focus (refine_lift' ev [$ls,*])))
      | (apply e_orV; (focus (refine_lift' ev [$ls,*])); (focus (refine_lift' ev [$ls,*])))
      | (apply e_not; (focus (refine_lift' ev [$ls,*])))
      | (apply e_and; (focus (refine_lift' ev [$ls,*])); (focus (refine_lift' ev [$ls,*])))
      | (apply e_or; (focus (refine_lift' ev [$ls,*])); (focus (refine_lift' ev [$ls,*])))
      | (apply e_part; (focus (refine_lift' ev [$ls,*])))
      | (apply e_sl; (focus (refine_lift' ev [$ls,*])); (focus (refine_lift' ev [$ls,*])); (focus (refine_lift' ev [$ls,*])); (focus (with_unfolding_all refine_lift' evl [$ls,*])))
      | (apply e_ixO; (focus (with_unfolding_all rfl)); (focus (refine_lift' ev [$ls,*])); (focus (with_unfolding_all rfl)); (focus (with_unfolding_all refine_lift' evl [$ls,*])))
      | (apply e_ixD; (focus (with_unfolding_all rfl)); (focus (refine_lift' ev [$ls,*])); (focus (with_unfolding_all refine_lift' evl [$ls,*])))
      | (apply e_fnPo; (focus (with_unfolding_all rfl)); (focus (with_unfolding_all refine_lift' evl [$ls,*])); (focus (with_unfolding_all rfl)))
      | (apply e_fnPd; (focus (with_unfolding_all rfl)); (focus (with_unfolding_all refine_lift' evl [$ls,*])))
      | (apply e_rtO; (focus (refine_lift' ev [$ls,*])); (focus (with_unfolding_all rfl)); (focus (with_unfolding_all refine_lift' evl [$ls,*])); (focus (with_unfolding_all rfl)))
      | (apply e_rtD; (focus (refine_lift' ev [$ls,*])); (focus (with_unfolding_all rfl)); (focus (with_unfolding_all refine_lift' evl [$ls,*])))
      | (apply e_ltO; (focus (with_unfolding_all rfl)); (focus (refine_lift' ev [$ls,*])); (focus (with_unfolding_all rfl)); (focus (with_unfolding_all refine_lift' evl [$ls,*])); (focus (with_unfolding_all rfl)))
      | (apply e_ltD; (focus (with_unfolding_all rfl)); (focus (refine_lift' ev [$ls,*])); (focus (with_unfolding_all refine_lift' evl [$ls,*])))
      | (apply e_callO; (focus (with_unfolding_all rfl)); (focus (refine_lift' ev [$ls,*])); (focus (with_unfolding_all rfl)); (focus (with_unfolding_all refine_lift' evl [$ls,*])))
      | (apply e_callNew; (focus (refine_lift' ev [$ls,*])); (focus (refine_lift' ev [$ls,*])); (focus (with_unfolding_all refine_lift' evl [$ls,*])))
      | (apply e_star; (focus (refine_lift' ev [$ls,*])); (focus (refine_lift' ev [$ls,*])))
      | (apply e_prop; (focus (refine_lift' ev [$ls,*])); (focus (with_unfolding_all refine_lift' evl [$ls,*])))
      | (apply e_fld; (focus (refine_lift' ev [$ls,*])); (focus (with_unfolding_all refine_lift' evl [$ls,*])))
      | (apply e_meth; (focus (refine_lift' ev [$ls,*])); (focus (with_unfolding_all refine_lift' evl [$ls,*])); (focus (refine_lift' ev [$ls,*])); (focus (with_unfolding_all refine_lift' evl [$ls,*])))
      | (apply e_make; (focus (refine_lift' ev [$ls,*])); (focus (with_unfolding_all refine_lift' evl [$ls,*])))
      | (apply e_kw; (focus (refine_lift' ev [$ls,*])); (focus (refine_lift' ev [$ls,*])); (focus (with_unfolding_all rfl)); (focus (with_unfolding_all rfl)); (focus (with_unfolding_all refine_lift' evl [$ls,*])))
      | (apply e_if; (focus (refine_lift' ev [$ls,*])); (focus (intro _; refine_lift' ev [$ls,*])); (focus (intro _; refine_lift' ev [$ls,*])))
      | (apply e_varO; (focus (with_unfolding_all rfl))))
local macro_rules
  | `(tactic| refine_lift' eva) => `(tactic| refine_lift' eva [])
  | `(tactic| refine_lift' eva [$ls,*]) => `(tactic| (apply e_as; (focus (refine_lift' ev [$ls,*])); (focus (with_unfolding_all rfl)); (focus (with_unfolding_all rfl))))
local macro_rules
  | `(tactic| refine_lift' st) => `(tactic| refine_lift' st [])
  | `(tactic| refine_lift' st [$ls,*]) => `(tactic| with_reducible (first | apply sw_ret | apply sw_if | apply sw_set | apply sw_setN | apply sw_app | apply sw_asg | apply sw_par | apply sw_fld | apply sw_drop | apply sw_for | apply sw_retN | apply sw_retNew | skip) <;> first
      | apply sw_nx | apply sw_ct | apply sw_bk | apply st_assoc | apply st_nx | apply st_retN
      | (apply st_set; (focus (refine_lift' ev [$ls,*])))
      | (apply st_setN; (focus (refine_lift' ev [$ls,*])))
      | (apply st_par; (focus (refine_lift' ev [$ls,*])); (focus (with_unfolding_all rfl)))
      | (apply st_ret; (focus (refine_lift' ev [$ls,*])))
      | (apply st_drop; (focus (refine_lift' ev [$ls,*])))
      | (apply st_retNew; (focus (refine_lift' ev [$ls,*])))
      | (apply st_fld; (focus (refine_lift' ev [$ls,*])); (focus (with_unfolding_all rfl)); (focus (with_unfolding_all refine_lift' evl [$ls,*])))
      | (apply st_app; (focus (with_unfolding_all rfl)); (focus (refine_lift' ev [$ls,*])); (focus (with_unfolding_all rfl)); (focus (with_unfolding_all refine_lift' evl [$ls,*])))
      | (apply st_asg; (focus (refine_lift' ev [$ls,*])); (focus (with_unfolding_all first | rfl | (apply g_putE; (focus rfl); (focus (refine_lift' ev [$ls,*])); (focus rfl); (focus (refine_lift' evl [$ls,*]))))))
      | (apply st_if; (focus (refine_lift' ev [$ls,*]))))
set_option autoImplicit false
namespace DL
open PySem PySem.Spec PyProof.Rows L2
end DL
set_option autoImplicit false
namespace DL
open PySem PySem.Spec PyProof.Rows L2
/-- a zip that has given out f0, if anything -/
abbrev ZipO (TI TO : Addr) (f0 f1 : Value) : Obj := { cls := .type "zip", dict := none, data := .fields #[f0, f1, .bool false, .ref TI, .ref TO], slots := #[] }
section
variable {P : Program} {w : World} {A : Around} {E : Value → Shared → Prop} {s : Shared}
theorem if_alive {a : Addr} {Q : Option Obj → Shared → Prop} (h : Q (s.heap.get? a) s) : wpAny (model P w) A (loadIfAlive a) Q E s := by
  intro Γ p _
  simp only [loadIfAlive, Sem.wp_loadIfAlive]
  exact h
/-- none is left: it ends, the last pair kept or none given out yet -/
theorem zip_keeps_end {z TI TO i1 i2 l1 l2 T : Addr} {o : Obj} {f1 : Value} {k1 k2 : Nat} {xs ys : Array Value} {Q : Fin → Shared → Prop} (hd : A.handled = none) (D : ZipApart z TI TO i1 i2 l1 l2) (hz : s.heap.get? z = some (ZipO TI TO (rawInt T) f1)) (hT : s.heap.get? T = some o)
    (hTI : IsPair s.heap TI (.ref i1) (.ref i2)) (h1 : s.heap.IsListIter i1 l1 k1) (h2 : s.heap.IsListIter i2 l2 k2) (hl1 : s.heap.IsList l1 xs) (hl2 : s.heap.IsList l2 ys) (hend : xs[k1]? = none ∨ ys[k2]? = none)
    (q : ∀ h' e, (∀ c o, c ≠ z → c ≠ i1 → c ≠ i2 → s.heap.get? c = some o → h'.get? c = some o) → (∃ o, h'.get? e = some o ∧ o.cls = .type "StopIteration") → E (.ref e) { s with heap := h' }) :
    wpAny (model P w) A (Builtin.«zip.__next__» ⟨[.ref z], []⟩) Q E s := by
  show wpAny _ _ (field (.ref z) 2 >>= _) _ _ _
  refine wpAny_bind (wpAny_field hz rfl (x := .bool false) rfl (wpAny_bind (wpAny_field hz rfl (x := .ref TI) rfl (wpAny_bind (wpAny_seqItems hTI rfl (wpAny_bind ?_))))))
  unfold Builtin.SmallTypes.ownedTupleIsFree
  refine wpAny_bind (wpAny_field hz rfl (x := rawInt T) rfl (wpAny_bind (if_alive ?_)))
  have hT' : s.heap.get? (((T : Nat) : Int).toNat) = some o := by rw [Int.toNat_natCast]; exact hT
  rw [hT']
  simp only [Option.isNone_some, Bool.false_eq_true, if_false]
  refine wpAny_bind (wpAny_field hz rfl (x := f1) rfl ?_)
  refine wpAny_mono (Q := fun a s' => a = false ∧ ∃ h0 f, s' = { s with heap := h0 } ∧ h0.get? z = some (ZipO TI TO (rawInt T) f) ∧ Heap.SameBut z s.heap h0) (E := E) ?_ ?_ fun _ _ e => e
  · by_cases hf : (f1 != Value.bool true) = true
    · rw [if_pos hf]
      exact wpAny_bind (wpAny_setField_rec hz (by simp) fun h0 z0 s0 => wpAny_pure ⟨rfl, h0, _, rfl, z0, s0⟩)
    · rw [if_neg hf]
      exact wpAny_pure ⟨rfl, s.heap, f1, rfl, hz, rfl, fun _ _ => rfl⟩
  · rintro a s' ⟨rfl, h0, f, rfl, z0, s0⟩
    rw [if_neg (by decide)]
    simp only [← Array.forIn_toList, List.forIn_cons, List.forIn_nil]
    refine wpAny_bind (wpAny_bind (wpAny_bind (wpAny_holding ?_)))
    show wpAny _ _ (Builtin.SmallTypes.nextOf (.ref i1) >>= _) _ _ _
    cases hx : xs[k1]? with
    | none =>
      exact wpAny_bind (wpAny_nextOf_list_end hd (h1.extBut s0.extBut D.i1z) (hl1.extBut s0.extBut D.l1z) hx fun h2' e s1 he => q h2' e (fun c o c1 c2 _ x => s1 _ _ c2 (s0.extBut _ _ c1 x)) he)
    | some x =>
      have hy : ys[k2]? = none := hend.elim (fun z => by rw [hx] at z; cases z) id
      refine wpAny_bind (wpAny_nextOf_list_item (h1.extBut s0.extBut D.i1z) (hl1.extBut s0.extBut D.l1z) hx fun h2' j1 s1 => wpAny_pure (wpAny_pure ?_))
      refine wpAny_bind (wpAny_bind (wpAny_holding ?_))
      show wpAny _ _ (Builtin.SmallTypes.nextOf (.ref i2) >>= _) _ _ _
      exact wpAny_bind (wpAny_nextOf_list_end hd ((h2.extBut s0.extBut D.i2z).extBut s1.extBut D.i12.symm) ((hl2.extBut s0.extBut D.l2z).extBut s1.extBut D.l2i1) hy fun h3' e s2 he => q h3' e (fun c o c1 c2 c3 x => s2 _ _ c3 (s1.extBut _ _ c2 (s0.extBut _ _ c1 x))) he)
end
/-- where a zip stands at the i-th pair, while the list at S keeps all pairs given out so far -/
structure ZAt (h : Heap) (z TI TO i1 i2 l1 l2 S : Addr) (xs ys : Array Value) (i : Nat) : Prop where
  zip : (∃ a b, IsZip h z TI TO .none ∧ IsPair h TO a b) ∨ ∃ (T : Addr) (o : Obj) (f : Value), h.get? z = some (ZipO TI TO (rawInt (T : Nat)) f) ∧ h.get? T = some o ∧ T ≠ z ∧ T ≠ i1 ∧ T ≠ i2 ∧ T ≠ S
  pair : IsPair h TI (.ref i1) (.ref i2)
  it1 : h.IsListIter i1 l1 i
  it2 : h.IsListIter i2 l2 i
  ls1 : h.IsList l1 xs
  ls2 : h.IsList l2 ys
section
variable {P : Program} {w : World} {A : Around} {E : Value → Shared → Prop} {s : Shared} {z TI TO i1 i2 l1 l2 S : Addr} {xs ys : Array Value} {i : Nat}
theorem ZAt.ty (Z : ZAt s.heap z TI TO i1 i2 l1 l2 S xs ys i) : s.TypeIs (.ref z) "zip" := by
  rcases Z.zip with ⟨_, _, h, _⟩ | ⟨_, _, _, h, _⟩
  · exact ⟨_, h, rfl⟩
  · exact ⟨_, h, rfl⟩
theorem ZAt.done (hd : A.handled = none) (D : ZipApart z TI TO i1 i2 l1 l2) (Z : ZAt s.heap z TI TO i1 i2 l1 l2 S xs ys i) (he : xs[i]? = none ∨ ys[i]? = none) {Q : Option Value → Shared → Prop}
    (q : ∀ h', (∀ c o, c ≠ z → c ≠ TO → c ≠ i1 → c ≠ i2 → s.heap.get? c = some o → h'.get? c = some o) → Q none { s with heap := h' }) : wpAny (model P w) A (pyNext (.ref z)) Q E s := by
  rcases Z.zip with ⟨a, b, hz, hTO⟩ | ⟨T, o, f, hz, hT, _⟩
  · exact wpAny_pyNext_zip_end hd D hz Z.pair hTO Z.it1 Z.it2 Z.ls1 Z.ls2 he q
  · unfold pyNext
    refine wpAny_bind (wpAny_attempt (wpAny_callSpecial?_slot (name := Str.ofString "__next__") Z.ty F.slot_zip_next (wpAny_call_entry F.slot_zip_next Z.ty F.entry_zip_next (zip_keeps_end hd D hz hT Z.pair Z.it1 Z.it2 Z.ls1 Z.ls2 he fun h' e k x => ?_) (F.args_zip_next_1 _))))
    obtain ⟨o, ho, hc⟩ := x
    exact wpAny_bind (wpAny_isInstance (T := "StopIteration") (b := true) ⟨o, ho, hc⟩ isSubtype_stop (wpAny_pure (q _ fun c o c1 _ c3 c4 e => k c o c1 c3 c4 e)))
end
end DL
set_option autoImplicit false
namespace DL
open PySem PySem.Spec PyProof.Rows L2
end DL
set_option autoImplicit false
namespace DL
open PySem PySem.Spec PyProof.Rows L2
end DL
set_option autoImplicit false
namespace DL
open PySem PySem.Spec PyProof.Rows L2
end DL
set_option autoImplicit false
namespace DL
open PySem PySem.Spec PyProof.Rows L2
end DL
set_option autoImplicit false
namespace DL
open PySem PySem.Spec PyProof.Rows L2
end DL
set_option autoImplicit false
namespace DL
open PySem PySem.Spec PyProof.Rows L2
def dReprN : List D → Option D
  | [.non] => some (.str "None")
  | ds => dRepr ds
section
variable {X : Cx}
theorem call_REPRN (hg : X.A.guards = some []) (hu : X.A.units + 64 < cLine) : CallR X (.builtin "repr") (rC X.K dReprN) := by
  intro pins s σ H xs us Q I r h
  obtain ⟨M, ds, z, k, hd, hg', q⟩ := h
  unfold dReprN at hg'
  split at hg'
  · cases hg'
    obtain ⟨v, rfl, hv⟩ := one_of hd
    obtain ⟨u, rfl, ru⟩ := vals1 r
    cases hv
    cases ru
    exact PySem.P.repr_of_none ⟨.str "None", H, I.kept (t' := s.toks + 1) (fun b o e => e), ⟨_, rfl⟩, q _ H (.refl H) (.str _)⟩
  · exact call_REPR hg hu pins s σ H xs us Q I r ⟨M, ds, z, k, hd, hg', q⟩
end
end DL
set_option autoImplicit false
namespace DL
open PySem PySem.Spec PyProof.Rows L2
end DL
set_option autoImplicit false
namespace DL
open PySem PySem.Spec PyProof.Rows L2
end DL
set_option autoImplicit false
namespace DL
open PySem PySem.Spec PyProof.Rows L2
/-- the text of an entry -/
def txtE (e : Int × Value) : Str := match e.2 with
  | .str x _ => x
  | _ => ⟨#[]⟩
structure TxSet (w : World) (l : List (Int × Value)) (S : Str → Prop) : Prop where
  good : ∀ e ∈ l, ∃ x tk, e = (hashStr w x, Value.str x tk)
  nd : (l.map txtE).Nodup
  mem : ∀ x, x ∈ l.map txtE ↔ S x
theorem TxSet.perm {w : World} {l m : List (Int × Value)} {S : Str → Prop} (h : TxSet w l S) (p : m.Perm l) : TxSet w m S :=
  ⟨fun e z => h.good e (p.mem_iff.mp z), (p.map txtE).nodup_iff.mpr h.nd, fun x => (p.map txtE).mem_iff.trans (h.mem x)⟩
/-- the set of texts at a place, which can be walked -/
def SetT (w : World) (h : Heap) (a : Addr) (S : Str → Prop) (n : Nat) : Prop :=
  ∃ o es ep t, h.get? a = some o ∧ o.ExactSet ∧ o.data = .set es ep t ∧ TxSet w es.toList S ∧ t.fits es.size = true ∧ es.size = n ∧ n < scanBound ∧ Ris t.place.toList ∧ (w.params.followText "set-order" = true ∨ t.led = true)
theorem SetT.at {w : World} {h h' : Heap} {a : Addr} {S : Str → Prop} {n : Nat} (R : SetT w h a S n) (k : ∀ o, h.get? a = some o → h'.get? a = some o) : SetT w h' a S n := by
  obtain ⟨o, es, ep, t, z, r⟩ := R
  exact ⟨o, es, ep, t, k o z, r⟩
end DL
set_option autoImplicit false
namespace DL
open PySem PySem.Spec PyProof.Rows L2
end DL
set_option autoImplicit false
namespace DL
open PySem PySem.Spec PyProof.Rows L2
end DL
set_option autoImplicit false
namespace DL
open PySem PySem.Spec PyProof.Rows L2
end DL
set_option autoImplicit false
namespace DL
open PySem PySem.Spec PyProof.Rows L2
end DL
set_option autoImplicit false
namespace DL
open PySem PySem.Spec PyProof.Rows L2
end DL
set_option autoImplicit false
namespace DL
open PySem PySem.Spec PyProof.Rows L2
end DL
set_option autoImplicit false
namespace DL
open PySem PySem.Spec PyProof.Rows L2
end DL
set_option autoImplicit false
namespace DL
open PySem PySem.Spec PyProof.Rows L2
def Hot (K : PySem.W.Frag) (M : Addr → Prop) (H : Hp) (v : V) (d : D) : Prop := ∃ b xs ds, d = .tup ds ∧ v = .ref b ∧ H b = some (.tup xs) ∧ DatAll K M H xs ds
def RKv {K : PySem.W.Frag} (c : Ctx K) (t : TE) (m : Mo D) : Prop := ∀ M σ H ρ, Sta c M σ H ρ → ∀ d ρ', m ρ = some (d, ρ') → ∀ Q : VK, (∀ M' v H', Es σ M H ρ σ M' H' ρ' → Sta c M' σ H' ρ' → Hot K M' H' v d → Q v H') → t σ H Q
section
variable {K : PySem.W.Frag} {c : Ctx K} {td ty tk tv ta : TE} {md my mk mv ma : Mo D} {tl : TA} {ml : Mo (List D)}
theorem RKv.ev (h : RKv c ta ma) : REv c ta ma := fun M σ H ρ S d ρ' e Q q => h M σ H ρ S d ρ' e Q fun M' v H' E S' hot => q M' v H' E S' (by
  obtain ⟨b, xs, ds, rfl, rfl, hb, hd⟩ := hot
  exact .tup (.inl (.inl hb)) hd)
end
end DL
set_option autoImplicit false
namespace DL
open PySem PySem.Spec PyProof.Rows L2
def eqI (C : Addr) (F : List D → Option D) (x y : D) : Option Bool := match x, y with
  | .ins B ns es, .ins B' ns' es' => if B = C ∧ B' = C then (match F [.ins B ns es, .ins B' ns' es'] with
    | some (.bl b) => some b
    | _ => none) else none
  | _, _ => none
def dEqI (C : Addr) (F : List D → Option D) : D → D → Option D := fun x y => (eqI C F x y).map .bl
def dNeI (C : Addr) (F : List D → Option D) : D → D → Option D := fun x y => (eqI C F x y).map fun b => .bl (!b)
theorem eqI_some {C : Addr} {F : List D → Option D} {x y : D} {b : Bool} (h : eqI C F x y = some b) : ∃ ns es ns' es', x = .ins C ns es ∧ y = .ins C ns' es' ∧ F [.ins C ns es, .ins C ns' es'] = some (.bl b) := by
  unfold eqI at h
  split at h
  · split at h
    · rename_i e
      obtain ⟨rfl, e2⟩ := e
      subst e2
      split at h
      · rename_i e
        cases h
        exact ⟨_, _, _, _, rfl, rfl, e⟩
      · cases h
    · cases h
  · cases h
section
variable {X : Cx} {C f : Addr} {fd : FuncData} {ps : List Str} {k m : Nat} {F : List D → Option D}
theorem two_run (G : FnOk X.prog X.w X.K X.mg X.base CX0 k f fd ps (spF X.K m F)) (hF : Takes m F) {A : Around} (sb : Sub X k A) (hb : Binds X.K fd ps []) {pins : List (Addr × Obj)} {σ : L2.St} {H : Hp} {s : Shared} {a c : Addr} {M : Addr → Prop} {x y : D} {b : Bool}
    {Q : Value → Shared → Prop} (I : Inv X pins σ H s) (km : Kind M H) (hx : Dat X.K M H (.ref a) x) (hy : Dat X.K M H (.ref c) y) (e : F [x, y] = some (.bl b))
    (q : ∀ s' H', Same H H' → Inv X pins σ H' s' → Q (.bool b) s') : wpAny (model X.prog X.w) A (call (.ref f) [.ref a, .ref c]) Q X.xe s := by
  have hsp : spF X.K m F [.ref a, .ref c] H (fun v H' => Same H H' ∧ v = .bl b) (fun _ _ _ => False) := ⟨M, _, _, km, .cons hx (.cons hy .nil), hF _ _ e, e, fun u H' sm hu => ⟨sm, by cases hu; rfl⟩⟩
  have e0 : Env0 X.prog X.w X.K X.mg X.base A X.stack s H := by
    have e := I.env0
    exact ⟨by rw [sb.fr]; exact e.frames, e.mod, e.bs, e.bsz, e.funs, e.frf, e.hok, e.bare⟩
  have hl := G.len _ _ _ _ hsp
  have r2 : Vals [V.ref a, V.ref c] [Value.ref a, Value.ref c] := .cons rfl (.cons rfl .nil)
  refine wpAny_call (codeAny_mono (G.run A X.stack s H ⟨[.ref a, .ref c], []⟩ [.ref a, .ref c] [.ref a, .ref c] _ _ sb.room e0 (by
    have := hb s [.ref a, .ref c] I.kIn (by simpa using hl)
    simpa using this) r2 hsp) fun r s' hq => ?_)
  cases r with
  | error e => exact (pass0 pins σ H s e s' I hq)
  | ok fl =>
    cases fl with
    | ret w =>
      obtain ⟨v, H', I', rz, sm, ez⟩ := I.after hq
      subst ez
      cases rz
      exact q s' H' sm I'
    | next => exact False.elim hq
    | brk => exact False.elim hq
    | cont => exact False.elim hq
theorem op_EQI (G : FnOk X.prog X.w X.K X.mg X.base CX0 k f fd ps (spF X.K m F)) (hF : Takes m F) (hr : Room k X.A) (hs : PySem.W.findIn X.K (.ref C) "__eq__" = some (some (.ref f))) (hf : PySem.W.isFn X.K (.ref f) = true) (hb : Binds X.K fd ps []) : OpR X (compareOp .Eq) (rD X.K (dEqI C F)) := by
  intro pins s σ H x y v u Q I rx ry h
  obtain ⟨M, d, e, r, km, hx, hy, hg, q⟩ := h
  obtain ⟨b, h1, rfl⟩ := map_some hg
  obtain ⟨ns, es, ns', es', rfl, rfl, h2⟩ := eqI_some h1
  obtain ⟨a, dx, fs, rfl, _, hH, _, _⟩ := dat_ins hx
  obtain ⟨a', dx', fs', rfl, _, hH', _, _⟩ := dat_ins hy
  cases rx
  cases ry
  obtain ⟨mA, J, _⟩ := ins_get I.hok hH
  obtain ⟨od, J, _⟩ := J.look
  obtain ⟨mA', J', _⟩ := ins_get I.hok hH'
  obtain ⟨od', J', _⟩ := J'.look
  obtain ⟨m', hF'⟩ := I.fr
  show wpAny (model X.prog X.w) X.A (richCompare .Eq (.ref a) (.ref a')) (EP X pins σ Q) X.xe s
  refine PySem.W.cmp_K (op := .Eq) (tb := .ref C) (by have := hr.units; omega) hF' I.ok.mod.kin J J'.type (by simp [PySem.W.notFirst]) hs hf ?_
  exact two_run G hF ⟨hr, rfl⟩ hb I km hx hy h2 fun s' H' sm I' => ⟨.bl b, H', I', rfl, q _ H' sm (.bl b)⟩
theorem op_NEI (G : FnOk X.prog X.w X.K X.mg X.base CX0 k f fd ps (spF X.K m F)) (hF : Takes m F) (hr : Room (k + 1) X.A) (hne : PySem.W.findIn X.K (.ref C) "__ne__" = some (some (.builtin "object.__ne__"))) (hob : PySem.W.subIn X.K (.ref C) (.type "object") = some true)
    (hs : PySem.W.findIn X.K (.ref C) "__eq__" = some (some (.ref f))) (hf : PySem.W.isFn X.K (.ref f) = true) (hb : Binds X.K fd ps []) : OpR X (compareOp .NotEq) (rD X.K (dNeI C F)) := by
  intro pins s σ H x y v u Q I rx ry h
  obtain ⟨M, d, e, r, km, hx, hy, hg, q⟩ := h
  obtain ⟨b, h1, rfl⟩ := map_some hg
  obtain ⟨ns, es, ns', es', rfl, rfl, h2⟩ := eqI_some h1
  obtain ⟨a, dx, fs, rfl, _, hH, _, _⟩ := dat_ins hx
  obtain ⟨a', dx', fs', rfl, _, hH', _, _⟩ := dat_ins hy
  cases rx
  cases ry
  obtain ⟨mA, J, _⟩ := ins_get I.hok hH
  obtain ⟨od, J, _⟩ := J.look
  obtain ⟨mA', J', _⟩ := ins_get I.hok hH'
  obtain ⟨od', J', _⟩ := J'.look
  obtain ⟨m', hF'⟩ := I.fr
  show wpAny (model X.prog X.w) X.A (richCompare .NotEq (.ref a) (.ref a')) (EP X pins σ Q) X.xe s
  refine PySem.W.myNe_K (tb := .ref C) (by have := hr.units; omega) hF' I.ok.mod.kin J J'.type (by simp [PySem.W.notFirst]) hne hob hs hf ?_
  exact two_run G hF (Sub.in1 ⟨hr, rfl⟩) hb I km hx hy h2 fun s' H' sm I' => ⟨b, rfl, .bl (!b), H', I', rfl, q _ H' sm (.bl (!b))⟩
end
end DL
set_option autoImplicit false
namespace DL
open PySem PySem.Spec PyProof.Rows L2
def tCMethK (C : Addr) (nk : Nat) (sp : Sp) (gV : List V → List V → List V) (E : XK) (ta : TE) (tk : TA) : TE := fun σ H Q => ta σ H fun x H1 => x = .ref C ∧ tk σ H1 fun zs H2 => zs.length = nk ∧ sp (gV [.ref C] zs) H2 Q E
section
variable {X : Cx} {CX : CXT} {k : Nat} {C p g : Addr} {mc : Value} {sp : Sp} {E : XK} {o : Expr} {fd : FuncData} {ps ks : List Str} {gg : List Value → List Value → List Value} {gV : List V → List V → List V} {m : Str} {pos apos : Pos} {ta : TE} {tk : TA} {kws : List Keyword} {pl : Sem Bool}
theorem pe_cmethK0 (he : PE X o ta) (r : ClX.CRead X.K C mc) (c : ClX.CMet X.K C mc m p g) (F : FnOk X.prog X.w X.K X.mg X.base CX k g fd ps sp) (hr : Room k X.A) (hb : KBn X.K fd ps 1 ks gg gV) (hx : Passes CX X E) (hkw : PK X kws tk)
    (hall : (backToKw pos (keywordEach kws X.env)).all (·.1.isSome) = true := by rfl) (hks : (backToKw pos (keywordEach kws X.env)).filterMap (·.1) = ks := by rfl)
    (hpl : ((backTo pos (starEach [] X.env)).any (·.1) || (backToKw pos (keywordEach kws X.env)).any (·.1.isNone)) = false := by rfl)
    (ht : eval (.Call (.Attribute o m apos) [] kws pos) X.env = (do
      let ov ← eval o X.env
      standAt apos.atName
      let (f, first) ← holding [ov] (getMethod ov m pl)
      callWith pos f first (backTo pos (starEach [] X.env)) (backToKw pos (keywordEach kws X.env))) := by rfl) :
    PE X (.Call (.Attribute o m apos) [] kws pos) (tCMethK C ks.length sp gV E ta tk) := by
  refine ⟨fun pins s σ H Q I h => ?_⟩
  refine PySem.W.methodCall_KW (pl := pl) (thn (he.run pins s σ H _ I h) fun u s1 ⟨x, H1, I1, rx, ex, q⟩ => ?_) ht
  subst ex
  obtain rfl : u = Value.ref C := rx
  refine ClX.getmethcm_ok I1 r c fun s2 I2 => ?_
  refine PySem.W.callWith_of (P := PySem.W.MethP X.K s1.heap.objs.size g (.ref C)) hpl (PySem.W.keeps_M c.fi) (evalArgs_kw2_nil hall ?_)
  refine thn (hkw.run pos _ s2 σ H1 _ I2 q) fun ws s3 ⟨zs, H2, I3, rz, l2, q2⟩ => ⟨⟨ClX.pin_at I3, I3.kIn⟩, ?_⟩
  rw [hks]
  have r2 := hb.rel (us := [.ref C]) (vs := [.ref C]) (.cons rfl .nil) rz
  have z : wpAny (model X.prog X.w) X.A (call (.ref s1.heap.objs.size) [] (ks.zip ws)) (EP X ((s1.heap.objs.size, PySem.W.methodObj (.ref g) (.ref C)) :: pins) σ Q) X.xe s3 := by
    refine wpAny_call (PySem.W.method_call (ClX.pin_at I3) (codeAny_mono (F.run X.A X.stack s3 H2 ⟨[.ref C], ks.zip ws⟩ (gg [.ref C] ws) (gV [.ref C] zs) Q E hr I3.env0 (hb.to s3 [.ref C] ws I3.kIn rfl (by rw [← rz.length]; exact l2)) r2 q2) fun r s' hq => ?_))
    cases r with
    | error e => exact hx _ σ H2 s3 e s' I3 hq
    | ok fl =>
      cases fl with
      | ret u => exact I3.after hq
      | next => exact False.elim hq
      | brk => exact False.elim hq
      | cont => exact False.elim hq
  exact thn z fun _ _ y => ClX.unpinE y
end
def mCMethK (C : Addr) (is : List Nat) (nk : Nat) (F : List D → Option D) (o : Mo D) (a : Mo (List D)) : Mo D := mBd o fun x => match x with
  | .cls B => if B = C then mBd a fun ds => if ds.length = nk then mL (F (pick is (.cls C :: ds))) else fun _ => none else fun _ => none
  | _ => fun _ => none
section
variable {X : Cx} {K : PySem.W.Frag} {c : Ctx K} {k m : Nat} {C g : Addr} {fd : FuncData} {ps ks : List Str} {F : List D → Option D} {o : Expr} {kws : List Keyword} {nm : Str} {pos apos : Pos} {ta : TE} {tk : TA} {ma : Mo D} {mk : Mo (List D)}
theorem r_cmethK {is : List Nat} {nk : Nat} (hF : Takes m F) (ho : REv c ta ma) (h : RAv c tk mk) : REv c (tCMethK C nk (spF K m F) (fun vs zs => pick is (vs ++ zs)) E0 ta tk) (mCMethK C is nk F ma mk) := by
  intro M σ H ρ S d ρ' hm Q q
  obtain ⟨x, ρ1, h1, hm1⟩ := mBd_some hm
  split at hm1
  · rename_i B
    split at hm1
    · rename_i e
      subst e
      obtain ⟨xs, ρ2, h2, hm2⟩ := mBd_some hm1
      split at hm2
      · rename_i el
        obtain ⟨hg, e3⟩ := mL_some hm2
        subst e3
        refine ho M σ H ρ S _ ρ1 h1 _ fun M1 v H1 E1 S1 dx => ?_
        cases dx
        refine ⟨rfl, h M1 σ H1 ρ1 S1 xs _ h2 _ fun M2 vs H2 E2 S2 dd => ⟨by rw [dd.length]; exact el, ?_⟩⟩
        have da : DatAll K M2 H2 (.ref B :: vs) (.cls B :: xs) := .cons (.cls _) dd
        exact ⟨M2, _, d, S2.kind, pick_dat da is, hF _ _ hg, hg, fun u H' s hu => q M2 u H' ((E1.trans E2 S.kind).trans (.same s) S.kind) (S2.same s) hu⟩
      · cases hm2
    · cases hm1
  · cases hm1
theorem d_cmethK0 {pl : Sem Bool} {mc : Value} {q : Addr} (is : List Nat) (ho : DE X c o ta ma) (r : ClX.CRead X.K C mc) (cm : ClX.CMet X.K C mc nm q g) (G : FnOk X.prog X.w X.K X.mg X.base CX0 k g fd ps (spF X.K m F)) (hF : Takes m F) (hr : Room k X.A) (hb : KBn X.K fd ps 1 ks (fun us ws => pick is (us ++ ws)) (fun vs zs => pick is (vs ++ zs))) (hkw : DK X c kws tk mk)
    (hall : (backToKw pos (keywordEach kws X.env)).all (·.1.isSome) = true := by rfl) (hks : (backToKw pos (keywordEach kws X.env)).filterMap (·.1) = ks := by rfl)
    (hpl : ((backTo pos (starEach [] X.env)).any (·.1) || (backToKw pos (keywordEach kws X.env)).any (·.1.isNone)) = false := by rfl)
    (ht : eval (.Call (.Attribute o nm apos) [] kws pos) X.env = (do
      let ov ← eval o X.env
      standAt apos.atName
      let (f, first) ← holding [ov] (getMethod ov nm pl)
      callWith pos f first (backTo pos (starEach [] X.env)) (backToKw pos (keywordEach kws X.env))) := by rfl) (hK : X.K = K := by rfl) :
    DE X c (.Call (.Attribute o nm apos) [] kws pos) (tCMethK C ks.length (spF K m F) (fun vs zs => pick is (vs ++ zs)) E0 ta tk) (mCMethK C is ks.length F ma mk) := ⟨by rw [← hK]; exact pe_cmethK0 ho.p r cm G hr hb pass0 hkw.p hall hks hpl ht, r_cmethK hF ho.r hkw.r⟩
end
end DL
set_option autoImplicit false
namespace DL
open PySem PySem.Spec PyProof.Rows L2
def dReprS : List D → Option D
  | [.str x] => if (reprText x).length ≤ sizeLine then some (.str (reprText x)) else none
  | ds => dReprN ds
section
variable {X : Cx}
theorem call_REPRS (hg : X.A.guards = some []) (hu : X.A.units + 64 < cLine) : CallR X (.builtin "repr") (rC X.K dReprS) := by
  intro pins s σ H xs us Q I r h
  obtain ⟨M, ds, z, k, hd, hg', q⟩ := h
  unfold dReprS at hg'
  split at hg'
  · rename_i x
    obtain ⟨hl, rfl⟩ := if_some hg'
    obtain ⟨v, rfl, hv⟩ := one_of hd
    obtain ⟨u, rfl, ru⟩ := vals1 r
    cases hv
    obtain ⟨t, rfl⟩ := (show ∃ t, u = Value.str x t from ru)
    exact PySem.P.repr_of_str ⟨.str (reprText x), H, I.kept (t' := s.toks + 1) (fun b o e => e), ⟨_, rfl⟩, q _ H (.refl H) (.str _)⟩ hl
  · exact call_REPRN hg hu pins s σ H xs us Q I r ⟨M, ds, z, k, hd, hg', q⟩
end
end DL
namespace My
open PySem PySem.Spec PyProof.Rows L2 DL
def topS (i : Nat) : Stmt := PySem.Challenge.pw_touchpasses_k05_texts_of_tracks.main.body.getD i (.Pass ⟨0, 0, 0, 0⟩)
abbrev sis_integer : Stmt := topS 12
theorem scis_integer : FnScope ["value"] ["value"] (defScope sis_integer) := ⟨rfl, rfl, rfl, by decide +kernel, rfl, by decide +kernel, by decide +kernel⟩
abbrev sis_between : Stmt := topS 13
theorem scis_between : FnScope ["value", "low", "high"] ["value", "low", "high"] (defScope sis_between) := ⟨rfl, rfl, rfl, by decide +kernel, rfl, by decide +kernel, by decide +kernel⟩
abbrev sis_name : Stmt := topS 14
theorem scis_name : FnScope ["value", "sign"] ["value"] (defScope sis_name) := ⟨rfl, rfl, rfl, by decide +kernel, rfl, by decide +kernel, by decide +kernel⟩
abbrev sis_word : Stmt := topS 15
theorem scis_word : FnScope ["value", "words"] ["value", "words"] (defScope sis_word) := ⟨rfl, rfl, rfl, by decide +kernel, rfl, by decide +kernel, by decide +kernel⟩
abbrev sis_stretch : Stmt := topS 16
theorem scis_stretch : FnScope ["value", "low", "high"] ["value", "low", "high"] (defScope sis_stretch) := ⟨rfl, rfl, rfl, by decide +kernel, rfl, by decide +kernel, by decide +kernel⟩
abbrev sis_length : Stmt := topS 26
theorem scis_length : FnScope ["value"] ["value"] (defScope sis_length) := ⟨rfl, rfl, rfl, by decide +kernel, rfl, by decide +kernel, by decide +kernel⟩
abbrev sare_touches : Stmt := topS 27
theorem scare_touches : FnScope ["value", "first", "last", "low", "stretch"] ["value", "first", "last"] (defScope sare_touches) := ⟨rfl, rfl, rfl, by decide +kernel, rfl, by decide +kernel, by decide +kernel⟩
abbrev sis_pass : Stmt := topS 28
theorem scis_pass : FnScope ["value", "length", "name", "mode", "first", "last", "touches", "glide", "tail"] ["value", "length"] (defScope sis_pass) := ⟨rfl, rfl, rfl, by decide +kernel, rfl, by decide +kernel, by decide +kernel⟩
abbrev sfirst_wrong : Stmt := topS 29
theorem scfirst_wrong : FnScope ["passes", "length", "names", "at", "one"] ["passes", "length"] (defScope sfirst_wrong) := ⟨rfl, rfl, rfl, by decide +kernel, rfl, by decide +kernel, by decide +kernel⟩
abbrev srow_of : Stmt := topS 34
theorem scrow_of : FnScope ["one_pass", "name", "mode", "first", "last", "touches", "glide", "tail", "words", "a", "b"] ["one_pass"] (defScope srow_of) := ⟨rfl, rfl, rfl, by decide +kernel, rfl, by decide +kernel, by decide +kernel⟩
abbrev srows_of : Stmt := topS 35
theorem scrows_of : FnScope ["length", "passes", "one"] ["length", "passes"] (defScope srows_of) := ⟨rfl, rfl, rfl, by decide +kernel, rfl, by decide +kernel, by decide +kernel⟩
abbrev snumber_in : Stmt := topS 36
theorem scnumber_in : FnScope ["word", "sign"] ["word"] (defScope snumber_in) := ⟨rfl, rfl, rfl, by decide +kernel, rfl, by decide +kernel, by decide +kernel⟩
abbrev sstretch_in : Stmt := topS 37
theorem scstretch_in : FnScope ["word", "numbers", "part"] ["word"] (defScope sstretch_in) := ⟨rfl, rfl, rfl, by decide +kernel, rfl, by decide +kernel, by decide +kernel⟩
abbrev spass_in : Stmt := topS 38
theorem scpass_in : FnScope ["words", "name", "mode", "first", "last", "glide", "tail", "rest", "numbers", "word", "touches"] ["words"] (defScope spass_in) := ⟨rfl, rfl, rfl, by decide +kernel, rfl, by decide +kernel, by decide +kernel⟩
abbrev spass_in_row : Stmt := topS 39
theorem scpass_in_row : FnScope ["row", "word", "rest"] ["row"] (defScope spass_in_row) := ⟨rfl, rfl, rfl, by decide +kernel, rfl, by decide +kernel, by decide +kernel⟩
abbrev slength_in_row : Stmt := topS 40
theorem sclength_in_row : FnScope ["row", "word", "rest", "length"] ["row"] (defScope slength_in_row) := ⟨rfl, rfl, rfl, by decide +kernel, rfl, by decide +kernel, by decide +kernel⟩
abbrev strack_in : Stmt := topS 41
theorem sctrack_in : FnScope ["text", "first", "rest", "length", "passes", "row"] ["text"] (defScope strack_in) := ⟨rfl, rfl, rfl, by decide +kernel, rfl, by decide +kernel, by decide +kernel⟩
abbrev sTrack_init : Stmt := inClass (topS 43) 0
theorem scTrack_init : FnScope ["self", "length", "passes", "wrong"] ["self", "length", "passes"] (defScope sTrack_init) := ⟨rfl, rfl, rfl, by decide +kernel, rfl, by decide +kernel, by decide +kernel⟩
abbrev sTrack_read : Stmt := inClass (topS 43) 1
theorem scTrack_read : FnScope ["cls", "text", "told", "length", "passes"] ["cls", "text"] (defScope sTrack_read) := ⟨rfl, rfl, rfl, by decide +kernel, rfl, by decide +kernel, by decide +kernel⟩
abbrev sTrack_length : Stmt := inClass (topS 43) 2
theorem scTrack_length : FnScope ["self"] ["self"] (defScope sTrack_length) := ⟨rfl, rfl, rfl, by decide +kernel, rfl, by decide +kernel, by decide +kernel⟩
abbrev sTrack_passes : Stmt := inClass (topS 43) 3
theorem scTrack_passes : FnScope ["self"] ["self"] (defScope sTrack_passes) := ⟨rfl, rfl, rfl, by decide +kernel, rfl, by decide +kernel, by decide +kernel⟩
abbrev sTrack_eq : Stmt := inClass (topS 43) 7
theorem scTrack_eq : FnScope ["self", "other"] ["self", "other"] (defScope sTrack_eq) := ⟨rfl, rfl, rfl, by decide +kernel, rfl, by decide +kernel, by decide +kernel⟩
abbrev sTrack_str : Stmt := inClass (topS 43) 8
theorem scTrack_str : FnScope ["self"] ["self"] (defScope sTrack_str) := ⟨rfl, rfl, rfl, by decide +kernel, rfl, by decide +kernel, by decide +kernel⟩
abbrev slaw_purse : Stmt := topS 45
theorem sclaw_purse : FnScope ["script", "k", "cell", "digits", "seed"] ["script", "k"] (defScope slaw_purse) := ⟨rfl, rfl, rfl, by decide +kernel, rfl, by decide +kernel, by decide +kernel⟩
abbrev slaw_draw : Stmt := topS 46
theorem sclaw_draw : FnScope ["purse", "size", "seed", "by", "digit"] ["purse", "size"] (defScope slaw_draw) := ⟨rfl, rfl, rfl, by decide +kernel, rfl, by decide +kernel, by decide +kernel⟩
abbrev slaw_pick : Stmt := topS 47
theorem sclaw_pick : FnScope ["purse", "menu"] ["purse", "menu"] (defScope slaw_pick) := ⟨rfl, rfl, rfl, by decide +kernel, rfl, by decide +kernel, by decide +kernel⟩
abbrev slaw_wide : Stmt := topS 48
theorem sclaw_wide : FnScope ["purse", "size"] ["purse", "size"] (defScope slaw_wide) := ⟨rfl, rfl, rfl, by decide +kernel, rfl, by decide +kernel, by decide +kernel⟩
abbrev slaw_touches : Stmt := topS 49
theorem sclaw_touches : FnScope ["purse", "first", "last", "many", "wide", "found", "at", "k", "a", "b"] ["purse", "first", "last", "many", "wide"] (defScope slaw_touches) := ⟨rfl, rfl, rfl, by decide +kernel, rfl, by decide +kernel, by decide +kernel⟩
abbrev slaw_words : Stmt := topS 50
theorem sclaw_words : FnScope ["purse", "some", "at"] ["purse"] (defScope slaw_words) := ⟨rfl, rfl, rfl, by decide +kernel, rfl, by decide +kernel, by decide +kernel⟩
abbrev slaw_fader : Stmt := topS 51
theorem sclaw_fader : FnScope ["purse", "word", "long", "first", "some", "k", "last", "wide", "marks", "mode", "slide", "tail"] ["purse", "word", "long"] (defScope slaw_fader) := ⟨rfl, rfl, rfl, by decide +kernel, rfl, by decide +kernel, by decide +kernel⟩
abbrev slaw_faders : Stmt := topS 52
theorem sclaw_faders : FnScope ["purse", "long", "many", "words", "k"] ["purse", "long", "many"] (defScope slaw_faders) := ⟨rfl, rfl, rfl, by decide +kernel, rfl, by decide +kernel, by decide +kernel⟩
abbrev slaw_long : Stmt := topS 53
theorem sclaw_long : FnScope ["purse"] ["purse"] (defScope slaw_long) := ⟨rfl, rfl, rfl, by decide +kernel, rfl, by decide +kernel, by decide +kernel⟩
abbrev slaw_said : Stmt := topS 54
theorem sclaw_said : FnScope ["some", "found", "word", "mode", "first", "last", "marks", "slide", "tail", "row", "a", "b"] ["some"] (defScope slaw_said) := ⟨rfl, rfl, rfl, by decide +kernel, rfl, by decide +kernel, by decide +kernel⟩
abbrev slaw_text : Stmt := topS 55
theorem sclaw_text : FnScope ["long", "some"] ["long", "some"] (defScope slaw_text) := ⟨rfl, rfl, rfl, by decide +kernel, rfl, by decide +kernel, by decide +kernel⟩
abbrev slaw_right : Stmt := topS 56
theorem sclaw_right : FnScope ["purse", "made", "turn", "long", "some", "mine", "said", "mate", "each"] ["purse"] (defScope slaw_right) := ⟨rfl, rfl, rfl, by decide +kernel, rfl, by decide +kernel, by decide +kernel⟩
abbrev slaw : Stmt := topS 57
theorem sclaw : FnScope ["script", "fader", "k"] ["script"] (defScope slaw) := ⟨rfl, rfl, rfl, by decide +kernel, rfl, by decide +kernel, by decide +kernel⟩
structure Txt (pr : Params) (K : PySem.W.Frag) (mg : Str → Option Value) where
  C : Addr
  gC : mg "Track" = some (.ref C)
  cl : Cls K C
  kC : PySem.W.keepIn K (.ref C) = true
  makes : PySem.W.makesIn K C = true
  isC : IsCT K C
  n_length : NoAttr K C "_length"
  n_passes : NoAttr K C "_passes"
  hne : PySem.W.findIn K (.ref C) "__ne__" = some (some (.builtin "object.__ne__"))
  hob : PySem.W.subIn K (.ref C) (.type "object") = some true
  is_integer : Df K mg "is_integer" sis_integer ["value"]
  is_between : Df K mg "is_between" sis_between ["value", "low", "high"]
  is_name : Df K mg "is_name" sis_name ["value"]
  is_word : Df K mg "is_word" sis_word ["value", "words"]
  is_stretch : Df K mg "is_stretch" sis_stretch ["value", "low", "high"]
  is_length : Df K mg "is_length" sis_length ["value"]
  are_touches : Df K mg "are_touches" sare_touches ["value", "first", "last"]
  is_pass : Df K mg "is_pass" sis_pass ["value", "length"]
  first_wrong : Df K mg "first_wrong" sfirst_wrong ["passes", "length"]
  row_of : Df K mg "row_of" srow_of ["one_pass"]
  rows_of : Df K mg "rows_of" srows_of ["length", "passes"]
  number_in : Df K mg "number_in" snumber_in ["word"]
  stretch_in : Df K mg "stretch_in" sstretch_in ["word"]
  pass_in : Df K mg "pass_in" spass_in ["words"]
  pass_in_row : Df K mg "pass_in_row" spass_in_row ["row"]
  length_in_row : Df K mg "length_in_row" slength_in_row ["row"]
  track_in : Df K mg "track_in" strack_in ["text"]
  e_Track_init : Addr
  et_Track_init : ∀ H : Hp, SqT K H e_Track_init []
  Track_init : Dd K C "__init__" "Track.__init__" sTrack_init ["self", "length", "passes"] (.ref e_Track_init)
  Track_read : Dk K C "read" "Track.read" sTrack_read ["cls", "text"]
  Track_length : Dp' K C "length" "Track.length" sTrack_length
  Track_passes : Dp' K C "passes" "Track.passes" sTrack_passes
  Track_eq : Dm K C "__eq__" "Track.__eq__" sTrack_eq ["self", "other"]
  Track_str : Dm K C "__str__" "Track.__str__" sTrack_str ["self"]
  law_purse : Df K mg "_law_purse" slaw_purse ["script", "k"]
  law_draw : Df K mg "_law_draw" slaw_draw ["purse", "size"]
  law_pick : Df K mg "_law_pick" slaw_pick ["purse", "menu"]
  law_wide : Df K mg "_law_wide" slaw_wide ["purse", "size"]
  law_touches : Df K mg "_law_touches" slaw_touches ["purse", "first", "last", "many", "wide"]
  law_words : Df K mg "_law_words" slaw_words ["purse"]
  law_fader : Df K mg "_law_fader" slaw_fader ["purse", "word", "long"]
  law_faders : Df K mg "_law_faders" slaw_faders ["purse", "long", "many"]
  law_long : Df K mg "_law_long" slaw_long ["purse"]
  law_said : Df K mg "_law_said" slaw_said ["some"]
  law_text : Df K mg "_law_text" slaw_text ["long", "some"]
  law_right : Df K mg "_law_right" slaw_right ["purse"]
  law : Df K mg "law" slaw ["script"]
  c_LETTERS : L2.Cs mg "LETTERS" "abcdefghijklmnopqrstuvwxyz"
  c_DIGITS : L2.Cs mg "DIGITS" "0123456789"
  c_MOST_SIGNS : L2.Ci mg "MOST_SIGNS" 8
  c_MOST_LENGTH : L2.Ci mg "MOST_LENGTH" 1000000000000
  c_MOST_PASSES : L2.Ci mg "MOST_PASSES" 8
  c_MOST_TOUCHES : L2.Ci mg "MOST_TOUCHES" 6
  c_MOST_GLIDE : L2.Ci mg "MOST_GLIDE" 100
  c_OLD : L2.Cs mg "OLD" "old"
  c_MODES : L2.Ct K mg "MODES" [.str "write", .str "latch", .str "touch", .str "trim"]
  c_TAILS : L2.Ct K mg "TAILS" [.str "stop", .str "on"]
  c_SIZE : L2.Ci mg "SIZE" 7
  c_MOST_DIGITS : L2.Ci mg "MOST_DIGITS" 13
  c_FEWEST_WORDS : L2.Ci mg "FEWEST_WORDS" 6
  z_len : mg "len" = none
  z_isinstance : mg "isinstance" = none
  z_int : mg "int" = none
  z_bool : mg "bool" = none
  z_str : mg "str" = none
  z_tuple : mg "tuple" = none
  z_all : mg "all" = none
  z_range : mg "range" = none
  z_enumerate : mg "enumerate" = none
  z_abs : mg "abs" = none
  z_divmod : mg "divmod" = none
  z_max : mg "max" = none
  z_min : mg "min" = none
  z_repr : mg "repr" = none
end My
namespace My
open PySem PySem.Spec PyProof.Rows L2 DL
set_option maxHeartbeats 0 in
theorem mk_txt {pr : Params} {K : PySem.W.Frag} {h : Heap} {mg : Str → Option Value} (X : K.In h) (G : h.Ns mainGlobals mg)
    {C : Addr}
    {f_is_integer : Addr} {od_is_integer an_is_integer : Option Addr} {sl_is_integer : Array (Option Value)} {oc_is_integer kV_is_integer dc_is_integer pm_is_integer cd_is_integer ct_is_integer : Value}
    {f_is_between : Addr} {od_is_between an_is_between : Option Addr} {sl_is_between : Array (Option Value)} {oc_is_between kV_is_between dc_is_between pm_is_between cd_is_between ct_is_between : Value}
    {f_is_name : Addr} {od_is_name an_is_name : Option Addr} {sl_is_name : Array (Option Value)} {oc_is_name kV_is_name dc_is_name pm_is_name cd_is_name ct_is_name : Value}
    {f_is_word : Addr} {od_is_word an_is_word : Option Addr} {sl_is_word : Array (Option Value)} {oc_is_word kV_is_word dc_is_word pm_is_word cd_is_word ct_is_word : Value}
    {f_is_stretch : Addr} {od_is_stretch an_is_stretch : Option Addr} {sl_is_stretch : Array (Option Value)} {oc_is_stretch kV_is_stretch dc_is_stretch pm_is_stretch cd_is_stretch ct_is_stretch : Value}
    {f_is_length : Addr} {od_is_length an_is_length : Option Addr} {sl_is_length : Array (Option Value)} {oc_is_length kV_is_length dc_is_length pm_is_length cd_is_length ct_is_length : Value}
    {f_are_touches : Addr} {od_are_touches an_are_touches : Option Addr} {sl_are_touches : Array (Option Value)} {oc_are_touches kV_are_touches dc_are_touches pm_are_touches cd_are_touches ct_are_touches : Value}
    {f_is_pass : Addr} {od_is_pass an_is_pass : Option Addr} {sl_is_pass : Array (Option Value)} {oc_is_pass kV_is_pass dc_is_pass pm_is_pass cd_is_pass ct_is_pass : Value}
    {f_first_wrong : Addr} {od_first_wrong an_first_wrong : Option Addr} {sl_first_wrong : Array (Option Value)} {oc_first_wrong kV_first_wrong dc_first_wrong pm_first_wrong cd_first_wrong ct_first_wrong : Value}
    {f_row_of : Addr} {od_row_of an_row_of : Option Addr} {sl_row_of : Array (Option Value)} {oc_row_of kV_row_of dc_row_of pm_row_of cd_row_of ct_row_of : Value}
    {f_rows_of : Addr} {od_rows_of an_rows_of : Option Addr} {sl_rows_of : Array (Option Value)} {oc_rows_of kV_rows_of dc_rows_of pm_rows_of cd_rows_of ct_rows_of : Value}
    {f_number_in : Addr} {od_number_in an_number_in : Option Addr} {sl_number_in : Array (Option Value)} {oc_number_in kV_number_in dc_number_in pm_number_in cd_number_in ct_number_in : Value}
    {f_stretch_in : Addr} {od_stretch_in an_stretch_in : Option Addr} {sl_stretch_in : Array (Option Value)} {oc_stretch_in kV_stretch_in dc_stretch_in pm_stretch_in cd_stretch_in ct_stretch_in : Value}
    {f_pass_in : Addr} {od_pass_in an_pass_in : Option Addr} {sl_pass_in : Array (Option Value)} {oc_pass_in kV_pass_in dc_pass_in pm_pass_in cd_pass_in ct_pass_in : Value}
    {f_pass_in_row : Addr} {od_pass_in_row an_pass_in_row : Option Addr} {sl_pass_in_row : Array (Option Value)} {oc_pass_in_row kV_pass_in_row dc_pass_in_row pm_pass_in_row cd_pass_in_row ct_pass_in_row : Value}
    {f_length_in_row : Addr} {od_length_in_row an_length_in_row : Option Addr} {sl_length_in_row : Array (Option Value)} {oc_length_in_row kV_length_in_row dc_length_in_row pm_length_in_row cd_length_in_row ct_length_in_row : Value}
    {f_track_in : Addr} {od_track_in an_track_in : Option Addr} {sl_track_in : Array (Option Value)} {oc_track_in kV_track_in dc_track_in pm_track_in cd_track_in ct_track_in : Value}
    {f_Track_init : Addr} {od_Track_init an_Track_init : Option Addr} {sl_Track_init : Array (Option Value)} {oc_Track_init kV_Track_init dc_Track_init pm_Track_init cd_Track_init ct_Track_init : Value}
    {T_Track_init : Addr} {to_Track_init : Value} {td_Track_init : Option Addr} {ts_Track_init : Array (Option Value)} {tn_Track_init : Nat}
    {e_Track_init : Addr} {eo_Track_init : Option Addr} {es_Track_init : Array (Option Value)} {en_Track_init : Nat}
    {f_Track_read : Addr} {od_Track_read an_Track_read : Option Addr} {sl_Track_read : Array (Option Value)} {oc_Track_read kV_Track_read dc_Track_read pm_Track_read cd_Track_read ct_Track_read : Value}
    {p_Track_read : Addr} {pr_Track_read : List Value}
    {f_Track_length : Addr} {od_Track_length an_Track_length : Option Addr} {sl_Track_length : Array (Option Value)} {oc_Track_length kV_Track_length dc_Track_length pm_Track_length cd_Track_length ct_Track_length : Value}
    {p_Track_length : Addr} {pr_Track_length : List Value}
    {f_Track_passes : Addr} {od_Track_passes an_Track_passes : Option Addr} {sl_Track_passes : Array (Option Value)} {oc_Track_passes kV_Track_passes dc_Track_passes pm_Track_passes cd_Track_passes ct_Track_passes : Value}
    {p_Track_passes : Addr} {pr_Track_passes : List Value}
    {f_Track_eq : Addr} {od_Track_eq an_Track_eq : Option Addr} {sl_Track_eq : Array (Option Value)} {oc_Track_eq kV_Track_eq dc_Track_eq pm_Track_eq cd_Track_eq ct_Track_eq : Value}
    {f_Track_str : Addr} {od_Track_str an_Track_str : Option Addr} {sl_Track_str : Array (Option Value)} {oc_Track_str kV_Track_str dc_Track_str pm_Track_str cd_Track_str ct_Track_str : Value}
    {f_law_purse : Addr} {od_law_purse an_law_purse : Option Addr} {sl_law_purse : Array (Option Value)} {oc_law_purse kV_law_purse dc_law_purse pm_law_purse cd_law_purse ct_law_purse : Value}
    {f_law_draw : Addr} {od_law_draw an_law_draw : Option Addr} {sl_law_draw : Array (Option Value)} {oc_law_draw kV_law_draw dc_law_draw pm_law_draw cd_law_draw ct_law_draw : Value}
    {f_law_pick : Addr} {od_law_pick an_law_pick : Option Addr} {sl_law_pick : Array (Option Value)} {oc_law_pick kV_law_pick dc_law_pick pm_law_pick cd_law_pick ct_law_pick : Value}
    {f_law_wide : Addr} {od_law_wide an_law_wide : Option Addr} {sl_law_wide : Array (Option Value)} {oc_law_wide kV_law_wide dc_law_wide pm_law_wide cd_law_wide ct_law_wide : Value}
    {f_law_touches : Addr} {od_law_touches an_law_touches : Option Addr} {sl_law_touches : Array (Option Value)} {oc_law_touches kV_law_touches dc_law_touches pm_law_touches cd_law_touches ct_law_touches : Value}
    {f_law_words : Addr} {od_law_words an_law_words : Option Addr} {sl_law_words : Array (Option Value)} {oc_law_words kV_law_words dc_law_words pm_law_words cd_law_words ct_law_words : Value}
    {f_law_fader : Addr} {od_law_fader an_law_fader : Option Addr} {sl_law_fader : Array (Option Value)} {oc_law_fader kV_law_fader dc_law_fader pm_law_fader cd_law_fader ct_law_fader : Value}
    {f_law_faders : Addr} {od_law_faders an_law_faders : Option Addr} {sl_law_faders : Array (Option Value)} {oc_law_faders kV_law_faders dc_law_faders pm_law_faders cd_law_faders ct_law_faders : Value}
    {f_law_long : Addr} {od_law_long an_law_long : Option Addr} {sl_law_long : Array (Option Value)} {oc_law_long kV_law_long dc_law_long pm_law_long cd_law_long ct_law_long : Value}
    {f_law_said : Addr} {od_law_said an_law_said : Option Addr} {sl_law_said : Array (Option Value)} {oc_law_said kV_law_said dc_law_said pm_law_said cd_law_said ct_law_said : Value}
    {f_law_text : Addr} {od_law_text an_law_text : Option Addr} {sl_law_text : Array (Option Value)} {oc_law_text kV_law_text dc_law_text pm_law_text cd_law_text ct_law_text : Value}
    {f_law_right : Addr} {od_law_right an_law_right : Option Addr} {sl_law_right : Array (Option Value)} {oc_law_right kV_law_right dc_law_right pm_law_right cd_law_right ct_law_right : Value}
    {f_law : Addr} {od_law an_law : Option Addr} {sl_law : Array (Option Value)} {oc_law kV_law dc_law pm_law cd_law ct_law : Value}
    {t_LETTERS : Tok}
    {t_DIGITS : Tok}
    {t_MOST_SIGNS : Tok}
    {t_MOST_LENGTH : Tok}
    {t_MOST_PASSES : Tok}
    {t_MOST_TOUCHES : Tok}
    {t_MOST_GLIDE : Tok}
    {t_OLD : Tok}
    {a_MODES : Addr} {o_MODES : Option Addr} {s_MODES : Array (Option Value)} {n_MODES : Nat} {t0_MODES t1_MODES t2_MODES t3_MODES : Tok}
    {a_TAILS : Addr} {o_TAILS : Option Addr} {s_TAILS : Array (Option Value)} {n_TAILS : Nat} {t0_TAILS t1_TAILS : Tok}
    {t_SIZE : Tok}
    {t_MOST_DIGITS : Tok}
    {t_FEWEST_WORDS : Tok}
    (aC : PySem.W.nsIn K mainGlobals "Track" = some (some (.ref C)))
    (cpg : PySem.W.plainGet K C Str.empty = true)
    (chd : PySem.W.hasDictIn K C = true)
    (cpo : PySem.W.plainOver K C = true)
    (csa : PySem.W.findIn K (.ref C) "__setattr__" = some (some (.builtin "object.__setattr__")))
    (cmk : PySem.W.makesIn K C = true)
    (ckc : PySem.W.keepIn K (.ref C) = true)
    (cca : PySem.W.findIn K (.ref C) "__class__" = some (some (.builtin "object.__class__")))
    (ccn : PySem.W.specialIn K (.builtin "object.__class__") "__get__" = some (some (.builtin "getset_descriptor.__get__")))
    (cct : PySem.W.takesIn K (.builtin "object.__class__") = some true)
    (ccm : PySem.W.mroIn K C (.type "object") = some true)
    (na_length : PySem.W.findIn K (.ref C) "_length" = some none)
    (na_passes : PySem.W.findIn K (.ref C) "_passes" = some none)
    (cne : PySem.W.findIn K (.ref C) "__ne__" = some (some (.builtin "object.__ne__")))
    (cob : PySem.W.subIn K (.ref C) (.type "object") = some true)
    (a_is_integer : PySem.W.nsIn K mainGlobals "is_integer" = some (some (.ref f_is_integer)))
    (l_is_integer : K.lookup f_is_integer = some ⟨oc_is_integer, od_is_integer, .func (PySem.W.fnOf "is_integer" "is_integer" (defArgs sis_integer) (defBody sis_integer) (defScope sis_integer) .none kV_is_integer dc_is_integer pm_is_integer an_is_integer cd_is_integer ct_is_integer), sl_is_integer⟩)
    (c_is_integer : PySem.W.codeIn K cd_is_integer "is_integer" = true)
    (k_is_integer : PySem.W.keepIn K (.ref f_is_integer) = true)
    (a_is_between : PySem.W.nsIn K mainGlobals "is_between" = some (some (.ref f_is_between)))
    (l_is_between : K.lookup f_is_between = some ⟨oc_is_between, od_is_between, .func (PySem.W.fnOf "is_between" "is_between" (defArgs sis_between) (defBody sis_between) (defScope sis_between) .none kV_is_between dc_is_between pm_is_between an_is_between cd_is_between ct_is_between), sl_is_between⟩)
    (c_is_between : PySem.W.codeIn K cd_is_between "is_between" = true)
    (k_is_between : PySem.W.keepIn K (.ref f_is_between) = true)
    (a_is_name : PySem.W.nsIn K mainGlobals "is_name" = some (some (.ref f_is_name)))
    (l_is_name : K.lookup f_is_name = some ⟨oc_is_name, od_is_name, .func (PySem.W.fnOf "is_name" "is_name" (defArgs sis_name) (defBody sis_name) (defScope sis_name) .none kV_is_name dc_is_name pm_is_name an_is_name cd_is_name ct_is_name), sl_is_name⟩)
    (c_is_name : PySem.W.codeIn K cd_is_name "is_name" = true)
    (k_is_name : PySem.W.keepIn K (.ref f_is_name) = true)
    (a_is_word : PySem.W.nsIn K mainGlobals "is_word" = some (some (.ref f_is_word)))
    (l_is_word : K.lookup f_is_word = some ⟨oc_is_word, od_is_word, .func (PySem.W.fnOf "is_word" "is_word" (defArgs sis_word) (defBody sis_word) (defScope sis_word) .none kV_is_word dc_is_word pm_is_word an_is_word cd_is_word ct_is_word), sl_is_word⟩)
    (c_is_word : PySem.W.codeIn K cd_is_word "is_word" = true)
    (k_is_word : PySem.W.keepIn K (.ref f_is_word) = true)
    (a_is_stretch : PySem.W.nsIn K mainGlobals "is_stretch" = some (some (.ref f_is_stretch)))
    (l_is_stretch : K.lookup f_is_stretch = some ⟨oc_is_stretch, od_is_stretch, .func (PySem.W.fnOf "is_stretch" "is_stretch" (defArgs sis_stretch) (defBody sis_stretch) (defScope sis_stretch) .none kV_is_stretch dc_is_stretch pm_is_stretch an_is_stretch cd_is_stretch ct_is_stretch), sl_is_stretch⟩)
    (c_is_stretch : PySem.W.codeIn K cd_is_stretch "is_stretch" = true)
    (k_is_stretch : PySem.W.keepIn K (.ref f_is_stretch) = true)
    (a_is_length : PySem.W.nsIn K mainGlobals "is_length" = some (some (.ref f_is_length)))
    (l_is_length : K.lookup f_is_length = some ⟨oc_is_length, od_is_length, .func (PySem.W.fnOf "is_length" "is_length" (defArgs sis_length) (defBody sis_length) (defScope sis_length) .none kV_is_length dc_is_length pm_is_length an_is_length cd_is_length ct_is_length), sl_is_length⟩)
    (c_is_length : PySem.W.codeIn K cd_is_length "is_length" = true)
    (k_is_length : PySem.W.keepIn K (.ref f_is_length) = true)
    (a_are_touches : PySem.W.nsIn K mainGlobals "are_touches" = some (some (.ref f_are_touches)))
    (l_are_touches : K.lookup f_are_touches = some ⟨oc_are_touches, od_are_touches, .func (PySem.W.fnOf "are_touches" "are_touches" (defArgs sare_touches) (defBody sare_touches) (defScope sare_touches) .none kV_are_touches dc_are_touches pm_are_touches an_are_touches cd_are_touches ct_are_touches), sl_are_touches⟩)
    (c_are_touches : PySem.W.codeIn K cd_are_touches "are_touches" = true)
    (k_are_touches : PySem.W.keepIn K (.ref f_are_touches) = true)
    (a_is_pass : PySem.W.nsIn K mainGlobals "is_pass" = some (some (.ref f_is_pass)))
    (l_is_pass : K.lookup f_is_pass = some ⟨oc_is_pass, od_is_pass, .func (PySem.W.fnOf "is_pass" "is_pass" (defArgs sis_pass) (defBody sis_pass) (defScope sis_pass) .none kV_is_pass dc_is_pass pm_is_pass an_is_pass cd_is_pass ct_is_pass), sl_is_pass⟩)
    (c_is_pass : PySem.W.codeIn K cd_is_pass "is_pass" = true)
    (k_is_pass : PySem.W.keepIn K (.ref f_is_pass) = true)
    (a_first_wrong : PySem.W.nsIn K mainGlobals "first_wrong" = some (some (.ref f_first_wrong)))
    (l_first_wrong : K.lookup f_first_wrong = some ⟨oc_first_wrong, od_first_wrong, .func (PySem.W.fnOf "first_wrong" "first_wrong" (defArgs sfirst_wrong) (defBody sfirst_wrong) (defScope sfirst_wrong) .none kV_first_wrong dc_first_wrong pm_first_wrong an_first_wrong cd_first_wrong ct_first_wrong), sl_first_wrong⟩)
    (c_first_wrong : PySem.W.codeIn K cd_first_wrong "first_wrong" = true)
    (k_first_wrong : PySem.W.keepIn K (.ref f_first_wrong) = true)
    (a_row_of : PySem.W.nsIn K mainGlobals "row_of" = some (some (.ref f_row_of)))
    (l_row_of : K.lookup f_row_of = some ⟨oc_row_of, od_row_of, .func (PySem.W.fnOf "row_of" "row_of" (defArgs srow_of) (defBody srow_of) (defScope srow_of) .none kV_row_of dc_row_of pm_row_of an_row_of cd_row_of ct_row_of), sl_row_of⟩)
    (c_row_of : PySem.W.codeIn K cd_row_of "row_of" = true)
    (k_row_of : PySem.W.keepIn K (.ref f_row_of) = true)
    (a_rows_of : PySem.W.nsIn K mainGlobals "rows_of" = some (some (.ref f_rows_of)))
    (l_rows_of : K.lookup f_rows_of = some ⟨oc_rows_of, od_rows_of, .func (PySem.W.fnOf "rows_of" "rows_of" (defArgs srows_of) (defBody srows_of) (defScope srows_of) .none kV_rows_of dc_rows_of pm_rows_of an_rows_of cd_rows_of ct_rows_of), sl_rows_of⟩)
    (c_rows_of : PySem.W.codeIn K cd_rows_of "rows_of" = true)
    (k_rows_of : PySem.W.keepIn K (.ref f_rows_of) = true)
    (a_number_in : PySem.W.nsIn K mainGlobals "number_in" = some (some (.ref f_number_in)))
    (l_number_in : K.lookup f_number_in = some ⟨oc_number_in, od_number_in, .func (PySem.W.fnOf "number_in" "number_in" (defArgs snumber_in) (defBody snumber_in) (defScope snumber_in) .none kV_number_in dc_number_in pm_number_in an_number_in cd_number_in ct_number_in), sl_number_in⟩)
    (c_number_in : PySem.W.codeIn K cd_number_in "number_in" = true)
    (k_number_in : PySem.W.keepIn K (.ref f_number_in) = true)
    (a_stretch_in : PySem.W.nsIn K mainGlobals "stretch_in" = some (some (.ref f_stretch_in)))
    (l_stretch_in : K.lookup f_stretch_in = some ⟨oc_stretch_in, od_stretch_in, .func (PySem.W.fnOf "stretch_in" "stretch_in" (defArgs sstretch_in) (defBody sstretch_in) (defScope sstretch_in) .none kV_stretch_in dc_stretch_in pm_stretch_in an_stretch_in cd_stretch_in ct_stretch_in), sl_stretch_in⟩)
    (c_stretch_in : PySem.W.codeIn K cd_stretch_in "stretch_in" = true)
    (k_stretch_in : PySem.W.keepIn K (.ref f_stretch_in) = true)
    (a_pass_in : PySem.W.nsIn K mainGlobals "pass_in" = some (some (.ref f_pass_in)))
    (l_pass_in : K.lookup f_pass_in = some ⟨oc_pass_in, od_pass_in, .func (PySem.W.fnOf "pass_in" "pass_in" (defArgs spass_in) (defBody spass_in) (defScope spass_in) .none kV_pass_in dc_pass_in pm_pass_in an_pass_in cd_pass_in ct_pass_in), sl_pass_in⟩)
    (c_pass_in : PySem.W.codeIn K cd_pass_in "pass_in" = true)
    (k_pass_in : PySem.W.keepIn K (.ref f_pass_in) = true)
    (a_pass_in_row : PySem.W.nsIn K mainGlobals "pass_in_row" = some (some (.ref f_pass_in_row)))
    (l_pass_in_row : K.lookup f_pass_in_row = some ⟨oc_pass_in_row, od_pass_in_row, .func (PySem.W.fnOf "pass_in_row" "pass_in_row" (defArgs spass_in_row) (defBody spass_in_row) (defScope spass_in_row) .none kV_pass_in_row dc_pass_in_row pm_pass_in_row an_pass_in_row cd_pass_in_row ct_pass_in_row), sl_pass_in_row⟩)
    (c_pass_in_row : PySem.W.codeIn K cd_pass_in_row "pass_in_row" = true)
    (k_pass_in_row : PySem.W.keepIn K (.ref f_pass_in_row) = true)
    (a_length_in_row : PySem.W.nsIn K mainGlobals "length_in_row" = some (some (.ref f_length_in_row)))
    (l_length_in_row : K.lookup f_length_in_row = some ⟨oc_length_in_row, od_length_in_row, .func (PySem.W.fnOf "length_in_row" "length_in_row" (defArgs slength_in_row) (defBody slength_in_row) (defScope slength_in_row) .none kV_length_in_row dc_length_in_row pm_length_in_row an_length_in_row cd_length_in_row ct_length_in_row), sl_length_in_row⟩)
    (c_length_in_row : PySem.W.codeIn K cd_length_in_row "length_in_row" = true)
    (k_length_in_row : PySem.W.keepIn K (.ref f_length_in_row) = true)
    (a_track_in : PySem.W.nsIn K mainGlobals "track_in" = some (some (.ref f_track_in)))
    (l_track_in : K.lookup f_track_in = some ⟨oc_track_in, od_track_in, .func (PySem.W.fnOf "track_in" "track_in" (defArgs strack_in) (defBody strack_in) (defScope strack_in) .none kV_track_in dc_track_in pm_track_in an_track_in cd_track_in ct_track_in), sl_track_in⟩)
    (c_track_in : PySem.W.codeIn K cd_track_in "track_in" = true)
    (k_track_in : PySem.W.keepIn K (.ref f_track_in) = true)
    (a_Track_init : PySem.W.findIn K (.ref C) "__init__" = some (some (.ref f_Track_init)))
    (i_Track_init : PySem.W.isFn K (.ref f_Track_init) = true)
    (l_Track_init : K.lookup f_Track_init = some ⟨oc_Track_init, od_Track_init, .func (PySem.W.fnOf "__init__" "Track.__init__" (defArgs sTrack_init) (defBody sTrack_init) (defScope sTrack_init) (.ref T_Track_init) kV_Track_init dc_Track_init pm_Track_init an_Track_init cd_Track_init ct_Track_init), sl_Track_init⟩)
    (c_Track_init : PySem.W.codeIn K cd_Track_init "Track.__init__" = true)
    (k_Track_init : PySem.W.keepIn K (.ref f_Track_init) = true)
    (t_Track_init : K.lookup T_Track_init = some ⟨to_Track_init, td_Track_init, .seq #[.ref e_Track_init] tn_Track_init, ts_Track_init⟩)
    (e_Track_init_at : K.lookup e_Track_init = some ⟨.type "tuple", eo_Track_init, .seq #[] en_Track_init, es_Track_init⟩)
    (a_Track_read : PySem.W.findCls K (.ref C) (.type "type") "read" = some (.get (.builtin "classmethod.__get__") (.ref p_Track_read) .none (.ref C)))
    (rc_Track_read : PySem.W.recIn K p_Track_read "classmethod" = some (.ref f_Track_read :: pr_Track_read))
    (fi_Track_read : PySem.W.fnIn K f_Track_read = true)
    (rd_Track_read : PySem.W.readsIn K C (.type "type") = true)
    (ga_Track_read : PySem.W.specialIn K (.ref C) "__getattribute__" = some (some (.builtin "type.__getattribute__")))
    (l_Track_read : K.lookup f_Track_read = some ⟨oc_Track_read, od_Track_read, .func (PySem.W.fnOf "read" "Track.read" (defArgs sTrack_read) (defBody sTrack_read) (defScope sTrack_read) .none kV_Track_read dc_Track_read pm_Track_read an_Track_read cd_Track_read ct_Track_read), sl_Track_read⟩)
    (c_Track_read : PySem.W.codeIn K cd_Track_read "Track.read" = true)
    (k_Track_read : PySem.W.keepIn K (.ref f_Track_read) = true)
    (a_Track_length : PySem.W.findIn K (.ref C) "length" = some (some (.ref p_Track_length)))
    (pg_Track_length : PySem.W.specialIn K (.ref p_Track_length) "__get__" = some (some (.builtin "property.__get__")))
    (pt_Track_length : PySem.W.takesIn K (.ref p_Track_length) = some true)
    (pr_Track_length_at : PySem.W.recIn K p_Track_length "property" = some (.ref f_Track_length :: pr_Track_length))
    (l_Track_length : K.lookup f_Track_length = some ⟨oc_Track_length, od_Track_length, .func (PySem.W.fnOf "length" "Track.length" (defArgs sTrack_length) (defBody sTrack_length) (defScope sTrack_length) .none kV_Track_length dc_Track_length pm_Track_length an_Track_length cd_Track_length ct_Track_length), sl_Track_length⟩)
    (c_Track_length : PySem.W.codeIn K cd_Track_length "Track.length" = true)
    (k_Track_length : PySem.W.keepIn K (.ref f_Track_length) = true)
    (a_Track_passes : PySem.W.findIn K (.ref C) "passes" = some (some (.ref p_Track_passes)))
    (pg_Track_passes : PySem.W.specialIn K (.ref p_Track_passes) "__get__" = some (some (.builtin "property.__get__")))
    (pt_Track_passes : PySem.W.takesIn K (.ref p_Track_passes) = some true)
    (pr_Track_passes_at : PySem.W.recIn K p_Track_passes "property" = some (.ref f_Track_passes :: pr_Track_passes))
    (l_Track_passes : K.lookup f_Track_passes = some ⟨oc_Track_passes, od_Track_passes, .func (PySem.W.fnOf "passes" "Track.passes" (defArgs sTrack_passes) (defBody sTrack_passes) (defScope sTrack_passes) .none kV_Track_passes dc_Track_passes pm_Track_passes an_Track_passes cd_Track_passes ct_Track_passes), sl_Track_passes⟩)
    (c_Track_passes : PySem.W.codeIn K cd_Track_passes "Track.passes" = true)
    (k_Track_passes : PySem.W.keepIn K (.ref f_Track_passes) = true)
    (a_Track_eq : PySem.W.findIn K (.ref C) "__eq__" = some (some (.ref f_Track_eq)))
    (i_Track_eq : PySem.W.isFn K (.ref f_Track_eq) = true)
    (l_Track_eq : K.lookup f_Track_eq = some ⟨oc_Track_eq, od_Track_eq, .func (PySem.W.fnOf "__eq__" "Track.__eq__" (defArgs sTrack_eq) (defBody sTrack_eq) (defScope sTrack_eq) .none kV_Track_eq dc_Track_eq pm_Track_eq an_Track_eq cd_Track_eq ct_Track_eq), sl_Track_eq⟩)
    (c_Track_eq : PySem.W.codeIn K cd_Track_eq "Track.__eq__" = true)
    (k_Track_eq : PySem.W.keepIn K (.ref f_Track_eq) = true)
    (a_Track_str : PySem.W.findIn K (.ref C) "__str__" = some (some (.ref f_Track_str)))
    (i_Track_str : PySem.W.isFn K (.ref f_Track_str) = true)
    (l_Track_str : K.lookup f_Track_str = some ⟨oc_Track_str, od_Track_str, .func (PySem.W.fnOf "__str__" "Track.__str__" (defArgs sTrack_str) (defBody sTrack_str) (defScope sTrack_str) .none kV_Track_str dc_Track_str pm_Track_str an_Track_str cd_Track_str ct_Track_str), sl_Track_str⟩)
    (c_Track_str : PySem.W.codeIn K cd_Track_str "Track.__str__" = true)
    (k_Track_str : PySem.W.keepIn K (.ref f_Track_str) = true)
    (a_law_purse : PySem.W.nsIn K mainGlobals "_law_purse" = some (some (.ref f_law_purse)))
    (l_law_purse : K.lookup f_law_purse = some ⟨oc_law_purse, od_law_purse, .func (PySem.W.fnOf "_law_purse" "_law_purse" (defArgs slaw_purse) (defBody slaw_purse) (defScope slaw_purse) .none kV_law_purse dc_law_purse pm_law_purse an_law_purse cd_law_purse ct_law_purse), sl_law_purse⟩)
    (c_law_purse : PySem.W.codeIn K cd_law_purse "_law_purse" = true)
    (k_law_purse : PySem.W.keepIn K (.ref f_law_purse) = true)
    (a_law_draw : PySem.W.nsIn K mainGlobals "_law_draw" = some (some (.ref f_law_draw)))
    (l_law_draw : K.lookup f_law_draw = some ⟨oc_law_draw, od_law_draw, .func (PySem.W.fnOf "_law_draw" "_law_draw" (defArgs slaw_draw) (defBody slaw_draw) (defScope slaw_draw) .none kV_law_draw dc_law_draw pm_law_draw an_law_draw cd_law_draw ct_law_draw), sl_law_draw⟩)
    (c_law_draw : PySem.W.codeIn K cd_law_draw "_law_draw" = true)
    (k_law_draw : PySem.W.keepIn K (.ref f_law_draw) = true)
    (a_law_pick : PySem.W.nsIn K mainGlobals "_law_pick" = some (some (.ref f_law_pick)))
    (l_law_pick : K.lookup f_law_pick = some ⟨oc_law_pick, od_law_pick, .func (PySem.W.fnOf "_law_pick" "_law_pick" (defArgs slaw_pick) (defBody slaw_pick) (defScope slaw_pick) .none kV_law_pick dc_law_pick pm_law_pick an_law_pick cd_law_pick ct_law_pick), sl_law_pick⟩)
    (c_law_pick : PySem.W.codeIn K cd_law_pick "_law_pick" = true)
    (k_law_pick : PySem.W.keepIn K (.ref f_law_pick) = true)
    (a_law_wide : PySem.W.nsIn K mainGlobals "_law_wide" = some (some (.ref f_law_wide)))
    (l_law_wide : K.lookup f_law_wide = some ⟨oc_law_wide, od_law_wide, .func (PySem.W.fnOf "_law_wide" "_law_wide" (defArgs slaw_wide) (defBody slaw_wide) (defScope slaw_wide) .none kV_law_wide dc_law_wide pm_law_wide an_law_wide cd_law_wide ct_law_wide), sl_law_wide⟩)
    (c_law_wide : PySem.W.codeIn K cd_law_wide "_law_wide" = true)
    (k_law_wide : PySem.W.keepIn K (.ref f_law_wide) = true)
    (a_law_touches : PySem.W.nsIn K mainGlobals "_law_touches" = some (some (.ref f_law_touches)))
    (l_law_touches : K.lookup f_law_touches = some ⟨oc_law_touches, od_law_touches, .func (PySem.W.fnOf "_law_touches" "_law_touches" (defArgs slaw_touches) (defBody slaw_touches) (defScope slaw_touches) .none kV_law_touches dc_law_touches pm_law_touches an_law_touches cd_law_touches ct_law_touches), sl_law_touches⟩)
    (c_law_touches : PySem.W.codeIn K cd_law_touches "_law_touches" = true)
    (k_law_touches : PySem.W.keepIn K (.ref f_law_touches) = true)
    (a_law_words : PySem.W.nsIn K mainGlobals "_law_words" = some (some (.ref f_law_words)))
    (l_law_words : K.lookup f_law_words = some ⟨oc_law_words, od_law_words, .func (PySem.W.fnOf "_law_words" "_law_words" (defArgs slaw_words) (defBody slaw_words) (defScope slaw_words) .none kV_law_words dc_law_words pm_law_words an_law_words cd_law_words ct_law_words), sl_law_words⟩)
    (c_law_words : PySem.W.codeIn K cd_law_words "_law_words" = true)
    (k_law_words : PySem.W.keepIn K (.ref f_law_words) = true)
    (a_law_fader : PySem.W.nsIn K mainGlobals "_law_fader" = some (some (.ref f_law_fader)))
    (l_law_fader : K.lookup f_law_fader = some ⟨oc_law_fader, od_law_fader, .func (PySem.W.fnOf "_law_fader" "_law_fader" (defArgs slaw_fader) (defBody slaw_fader) (defScope slaw_fader) .none kV_law_fader dc_law_fader pm_law_fader an_law_fader cd_law_fader ct_law_fader), sl_law_fader⟩)
    (c_law_fader : PySem.W.codeIn K cd_law_fader "_law_fader" = true)
    (k_law_fader : PySem.W.keepIn K (.ref f_law_fader) = true)
    (a_law_faders : PySem.W.nsIn K mainGlobals "_law_faders" = some (some (.ref f_law_faders)))
    (l_law_faders : K.lookup f_law_faders = some ⟨oc_law_faders, od_law_faders, .func (PySem.W.fnOf "_law_faders" "_law_faders" (defArgs slaw_faders) (defBody slaw_faders) (defScope slaw_faders) .none kV_law_faders dc_law_faders pm_law_faders an_law_faders cd_law_faders ct_law_faders), sl_law_faders⟩)
    (c_law_faders : PySem.W.codeIn K cd_law_faders "_law_faders" = true)
    (k_law_faders : PySem.W.keepIn K (.ref f_law_faders) = true)
    (a_law_long : PySem.W.nsIn K mainGlobals "_law_long" = some (some (.ref f_law_long)))
    (l_law_long : K.lookup f_law_long = some ⟨oc_law_long, od_law_long, .func (PySem.W.fnOf "_law_long" "_law_long" (defArgs slaw_long) (defBody slaw_long) (defScope slaw_long) .none kV_law_long dc_law_long pm_law_long an_law_long cd_law_long ct_law_long), sl_law_long⟩)
    (c_law_long : PySem.W.codeIn K cd_law_long "_law_long" = true)
    (k_law_long : PySem.W.keepIn K (.ref f_law_long) = true)
    (a_law_said : PySem.W.nsIn K mainGlobals "_law_said" = some (some (.ref f_law_said)))
    (l_law_said : K.lookup f_law_said = some ⟨oc_law_said, od_law_said, .func (PySem.W.fnOf "_law_said" "_law_said" (defArgs slaw_said) (defBody slaw_said) (defScope slaw_said) .none kV_law_said dc_law_said pm_law_said an_law_said cd_law_said ct_law_said), sl_law_said⟩)
    (c_law_said : PySem.W.codeIn K cd_law_said "_law_said" = true)
    (k_law_said : PySem.W.keepIn K (.ref f_law_said) = true)
    (a_law_text : PySem.W.nsIn K mainGlobals "_law_text" = some (some (.ref f_law_text)))
    (l_law_text : K.lookup f_law_text = some ⟨oc_law_text, od_law_text, .func (PySem.W.fnOf "_law_text" "_law_text" (defArgs slaw_text) (defBody slaw_text) (defScope slaw_text) .none kV_law_text dc_law_text pm_law_text an_law_text cd_law_text ct_law_text), sl_law_text⟩)
    (c_law_text : PySem.W.codeIn K cd_law_text "_law_text" = true)
    (k_law_text : PySem.W.keepIn K (.ref f_law_text) = true)
    (a_law_right : PySem.W.nsIn K mainGlobals "_law_right" = some (some (.ref f_law_right)))
    (l_law_right : K.lookup f_law_right = some ⟨oc_law_right, od_law_right, .func (PySem.W.fnOf "_law_right" "_law_right" (defArgs slaw_right) (defBody slaw_right) (defScope slaw_right) .none kV_law_right dc_law_right pm_law_right an_law_right cd_law_right ct_law_right), sl_law_right⟩)
    (c_law_right : PySem.W.codeIn K cd_law_right "_law_right" = true)
    (k_law_right : PySem.W.keepIn K (.ref f_law_right) = true)
    (a_law : PySem.W.nsIn K mainGlobals "law" = some (some (.ref f_law)))
    (l_law : K.lookup f_law = some ⟨oc_law, od_law, .func (PySem.W.fnOf "law" "law" (defArgs slaw) (defBody slaw) (defScope slaw) .none kV_law dc_law pm_law an_law cd_law ct_law), sl_law⟩)
    (c_law : PySem.W.codeIn K cd_law "law" = true)
    (k_law : PySem.W.keepIn K (.ref f_law) = true)
    (a_LETTERS : PySem.W.nsIn K mainGlobals "LETTERS" = some (some (.str "abcdefghijklmnopqrstuvwxyz" t_LETTERS)))
    (a_DIGITS : PySem.W.nsIn K mainGlobals "DIGITS" = some (some (.str "0123456789" t_DIGITS)))
    (a_MOST_SIGNS : PySem.W.nsIn K mainGlobals "MOST_SIGNS" = some (some (.int 8 t_MOST_SIGNS)))
    (a_MOST_LENGTH : PySem.W.nsIn K mainGlobals "MOST_LENGTH" = some (some (.int 1000000000000 t_MOST_LENGTH)))
    (a_MOST_PASSES : PySem.W.nsIn K mainGlobals "MOST_PASSES" = some (some (.int 8 t_MOST_PASSES)))
    (a_MOST_TOUCHES : PySem.W.nsIn K mainGlobals "MOST_TOUCHES" = some (some (.int 6 t_MOST_TOUCHES)))
    (a_MOST_GLIDE : PySem.W.nsIn K mainGlobals "MOST_GLIDE" = some (some (.int 100 t_MOST_GLIDE)))
    (a_OLD : PySem.W.nsIn K mainGlobals "OLD" = some (some (.str "old" t_OLD)))
    (b_MODES : PySem.W.nsIn K mainGlobals "MODES" = some (some (.ref a_MODES)))
    (l_MODES : K.lookup a_MODES = some ⟨.type "tuple", o_MODES, .seq #[.str "write" t0_MODES, .str "latch" t1_MODES, .str "touch" t2_MODES, .str "trim" t3_MODES] n_MODES, s_MODES⟩)
    (b_TAILS : PySem.W.nsIn K mainGlobals "TAILS" = some (some (.ref a_TAILS)))
    (l_TAILS : K.lookup a_TAILS = some ⟨.type "tuple", o_TAILS, .seq #[.str "stop" t0_TAILS, .str "on" t1_TAILS] n_TAILS, s_TAILS⟩)
    (a_SIZE : PySem.W.nsIn K mainGlobals "SIZE" = some (some (.int 7 t_SIZE)))
    (a_MOST_DIGITS : PySem.W.nsIn K mainGlobals "MOST_DIGITS" = some (some (.int 13 t_MOST_DIGITS)))
    (a_FEWEST_WORDS : PySem.W.nsIn K mainGlobals "FEWEST_WORDS" = some (some (.int 6 t_FEWEST_WORDS)))
    (z_len : PySem.W.nsIn K mainGlobals "len" = some none)
    (z_isinstance : PySem.W.nsIn K mainGlobals "isinstance" = some none)
    (z_int : PySem.W.nsIn K mainGlobals "int" = some none)
    (z_bool : PySem.W.nsIn K mainGlobals "bool" = some none)
    (z_str : PySem.W.nsIn K mainGlobals "str" = some none)
    (z_tuple : PySem.W.nsIn K mainGlobals "tuple" = some none)
    (z_all : PySem.W.nsIn K mainGlobals "all" = some none)
    (z_range : PySem.W.nsIn K mainGlobals "range" = some none)
    (z_enumerate : PySem.W.nsIn K mainGlobals "enumerate" = some none)
    (z_abs : PySem.W.nsIn K mainGlobals "abs" = some none)
    (z_divmod : PySem.W.nsIn K mainGlobals "divmod" = some none)
    (z_max : PySem.W.nsIn K mainGlobals "max" = some none)
    (z_min : PySem.W.nsIn K mainGlobals "min" = some none)
    (z_repr : PySem.W.nsIn K mainGlobals "repr" = some none) :
    ∃ T : Txt pr K mg, T.law.f = f_law := by
  have F_is_integer := fun_mk (st := sis_integer) l_is_integer c_is_integer k_is_integer
  have F_is_between := fun_mk (st := sis_between) l_is_between c_is_between k_is_between
  have F_is_name := fun_mk (st := sis_name) l_is_name c_is_name k_is_name
  have F_is_word := fun_mk (st := sis_word) l_is_word c_is_word k_is_word
  have F_is_stretch := fun_mk (st := sis_stretch) l_is_stretch c_is_stretch k_is_stretch
  have F_is_length := fun_mk (st := sis_length) l_is_length c_is_length k_is_length
  have F_are_touches := fun_mk (st := sare_touches) l_are_touches c_are_touches k_are_touches
  have F_is_pass := fun_mk (st := sis_pass) l_is_pass c_is_pass k_is_pass
  have F_first_wrong := fun_mk (st := sfirst_wrong) l_first_wrong c_first_wrong k_first_wrong
  have F_row_of := fun_mk (st := srow_of) l_row_of c_row_of k_row_of
  have F_rows_of := fun_mk (st := srows_of) l_rows_of c_rows_of k_rows_of
  have F_number_in := fun_mk (st := snumber_in) l_number_in c_number_in k_number_in
  have F_stretch_in := fun_mk (st := sstretch_in) l_stretch_in c_stretch_in k_stretch_in
  have F_pass_in := fun_mk (st := spass_in) l_pass_in c_pass_in k_pass_in
  have F_pass_in_row := fun_mk (st := spass_in_row) l_pass_in_row c_pass_in_row k_pass_in_row
  have F_length_in_row := fun_mk (st := slength_in_row) l_length_in_row c_length_in_row k_length_in_row
  have F_track_in := fun_mk (st := strack_in) l_track_in c_track_in k_track_in
  have F_Track_init : FunD K "__init__" "Track.__init__" (defArgs sTrack_init) (defBody sTrack_init) (defScope sTrack_init) [(V.ref e_Track_init)] [] f_Track_init (PySem.W.fnOf "__init__" "Track.__init__" (defArgs sTrack_init) (defBody sTrack_init) (defScope sTrack_init) (.ref T_Track_init) kV_Track_init dc_Track_init pm_Track_init an_Track_init cd_Track_init ct_Track_init) := ⟨⟨oc_Track_init, od_Track_init, _, kV_Track_init, dc_Track_init, pm_Track_init, an_Track_init, cd_Track_init, ct_Track_init, sl_Track_init, rfl, l_Track_init, c_Track_init, .inr ⟨by simp, T_Track_init, _, [Value.ref e_Track_init], tn_Track_init, rfl, t_Track_init, rfl, .cons rfl .nil⟩, .inl rfl⟩, k_Track_init⟩
  have F_Track_read := fun_mk (st := sTrack_read) l_Track_read c_Track_read k_Track_read
  have F_Track_length := fun_mk (st := sTrack_length) l_Track_length c_Track_length k_Track_length
  have F_Track_passes := fun_mk (st := sTrack_passes) l_Track_passes c_Track_passes k_Track_passes
  have F_Track_eq := fun_mk (st := sTrack_eq) l_Track_eq c_Track_eq k_Track_eq
  have F_Track_str := fun_mk (st := sTrack_str) l_Track_str c_Track_str k_Track_str
  have F_law_purse := fun_mk (st := slaw_purse) l_law_purse c_law_purse k_law_purse
  have F_law_draw := fun_mk (st := slaw_draw) l_law_draw c_law_draw k_law_draw
  have F_law_pick := fun_mk (st := slaw_pick) l_law_pick c_law_pick k_law_pick
  have F_law_wide := fun_mk (st := slaw_wide) l_law_wide c_law_wide k_law_wide
  have F_law_touches := fun_mk (st := slaw_touches) l_law_touches c_law_touches k_law_touches
  have F_law_words := fun_mk (st := slaw_words) l_law_words c_law_words k_law_words
  have F_law_fader := fun_mk (st := slaw_fader) l_law_fader c_law_fader k_law_fader
  have F_law_faders := fun_mk (st := slaw_faders) l_law_faders c_law_faders k_law_faders
  have F_law_long := fun_mk (st := slaw_long) l_law_long c_law_long k_law_long
  have F_law_said := fun_mk (st := slaw_said) l_law_said c_law_said k_law_said
  have F_law_text := fun_mk (st := slaw_text) l_law_text c_law_text k_law_text
  have F_law_right := fun_mk (st := slaw_right) l_law_right c_law_right k_law_right
  have F_law := fun_mk (st := slaw) l_law c_law k_law
  refine ⟨{
      C := C,
      gC := PySem.W.mg_of X G aC,
      cl := ⟨cpg, chd, cpo, csa⟩,
      kC := ckc,
      makes := cmk,
      isC := ⟨⟨cpg, chd, cpo, csa⟩, cca, ccn, cct, ccm⟩,
      n_length := na_length,
      n_passes := na_passes,
      hne := cne,
      hob := cob,
      is_integer := { f := f_is_integer, fd := _, F := F_is_integer, g := PySem.W.mg_of X G a_is_integer, b := F_is_integer.binds (ps := ["value"]) fun _ _ _ _ _ _ us hl => match us, hl with | [_], _ => rfl },
      is_between := { f := f_is_between, fd := _, F := F_is_between, g := PySem.W.mg_of X G a_is_between, b := F_is_between.binds (ps := ["value", "low", "high"]) fun _ _ _ _ _ _ us hl => match us, hl with | [_, _, _], _ => rfl },
      is_name := { f := f_is_name, fd := _, F := F_is_name, g := PySem.W.mg_of X G a_is_name, b := F_is_name.binds (ps := ["value"]) fun _ _ _ _ _ _ us hl => match us, hl with | [_], _ => rfl },
      is_word := { f := f_is_word, fd := _, F := F_is_word, g := PySem.W.mg_of X G a_is_word, b := F_is_word.binds (ps := ["value", "words"]) fun _ _ _ _ _ _ us hl => match us, hl with | [_, _], _ => rfl },
      is_stretch := { f := f_is_stretch, fd := _, F := F_is_stretch, g := PySem.W.mg_of X G a_is_stretch, b := F_is_stretch.binds (ps := ["value", "low", "high"]) fun _ _ _ _ _ _ us hl => match us, hl with | [_, _, _], _ => rfl },
      is_length := { f := f_is_length, fd := _, F := F_is_length, g := PySem.W.mg_of X G a_is_length, b := F_is_length.binds (ps := ["value"]) fun _ _ _ _ _ _ us hl => match us, hl with | [_], _ => rfl },
      are_touches := { f := f_are_touches, fd := _, F := F_are_touches, g := PySem.W.mg_of X G a_are_touches, b := F_are_touches.binds (ps := ["value", "first", "last"]) fun _ _ _ _ _ _ us hl => match us, hl with | [_, _, _], _ => rfl },
      is_pass := { f := f_is_pass, fd := _, F := F_is_pass, g := PySem.W.mg_of X G a_is_pass, b := F_is_pass.binds (ps := ["value", "length"]) fun _ _ _ _ _ _ us hl => match us, hl with | [_, _], _ => rfl },
      first_wrong := { f := f_first_wrong, fd := _, F := F_first_wrong, g := PySem.W.mg_of X G a_first_wrong, b := F_first_wrong.binds (ps := ["passes", "length"]) fun _ _ _ _ _ _ us hl => match us, hl with | [_, _], _ => rfl },
      row_of := { f := f_row_of, fd := _, F := F_row_of, g := PySem.W.mg_of X G a_row_of, b := F_row_of.binds (ps := ["one_pass"]) fun _ _ _ _ _ _ us hl => match us, hl with | [_], _ => rfl },
      rows_of := { f := f_rows_of, fd := _, F := F_rows_of, g := PySem.W.mg_of X G a_rows_of, b := F_rows_of.binds (ps := ["length", "passes"]) fun _ _ _ _ _ _ us hl => match us, hl with | [_, _], _ => rfl },
      number_in := { f := f_number_in, fd := _, F := F_number_in, g := PySem.W.mg_of X G a_number_in, b := F_number_in.binds (ps := ["word"]) fun _ _ _ _ _ _ us hl => match us, hl with | [_], _ => rfl },
      stretch_in := { f := f_stretch_in, fd := _, F := F_stretch_in, g := PySem.W.mg_of X G a_stretch_in, b := F_stretch_in.binds (ps := ["word"]) fun _ _ _ _ _ _ us hl => match us, hl with | [_], _ => rfl },
      pass_in := { f := f_pass_in, fd := _, F := F_pass_in, g := PySem.W.mg_of X G a_pass_in, b := F_pass_in.binds (ps := ["words"]) fun _ _ _ _ _ _ us hl => match us, hl with | [_], _ => rfl },
      pass_in_row := { f := f_pass_in_row, fd := _, F := F_pass_in_row, g := PySem.W.mg_of X G a_pass_in_row, b := F_pass_in_row.binds (ps := ["row"]) fun _ _ _ _ _ _ us hl => match us, hl with | [_], _ => rfl },
      length_in_row := { f := f_length_in_row, fd := _, F := F_length_in_row, g := PySem.W.mg_of X G a_length_in_row, b := F_length_in_row.binds (ps := ["row"]) fun _ _ _ _ _ _ us hl => match us, hl with | [_], _ => rfl },
      track_in := { f := f_track_in, fd := _, F := F_track_in, g := PySem.W.mg_of X G a_track_in, b := F_track_in.binds (ps := ["text"]) fun _ _ _ _ _ _ us hl => match us, hl with | [_], _ => rfl },
      e_Track_init := e_Track_init,
      et_Track_init := fun H => .inr ⟨_, #[], en_Track_init, e_Track_init_at, rfl, rfl, Nat.zero_le _, .nil⟩,
      Track_init := { f := f_Track_init, fd := _, F := F_Track_init, m := ⟨a_Track_init, i_Track_init, k_Track_init⟩, b := (match F_Track_init.binds1 3 1 (by simp) rfl fun _ _ _ _ _ _ _ us its hl hi => match us, its, hl, hi with | [_, _, _], [_], _, _ => ⟨_, rfl, rfl⟩ with | ⟨_, .nil, h⟩ => h), b1 := F_Track_init.binds1 2 0 (by simp) rfl fun _ _ _ _ _ _ _ us its hl hi => match us, its, hl, hi with | [_, _], [_], _, _ => ⟨_, rfl, rfl⟩ },
      Track_read := { f := f_Track_read, fd := _, F := F_Track_read, p := p_Track_read, R := ⟨rd_Track_read, ga_Track_read⟩, M := ⟨a_Track_read, ⟨_, rc_Track_read⟩, fi_Track_read⟩, b := F_Track_read.binds (ps := ["cls", "text"]) fun _ _ _ _ _ _ us hl => match us, hl with | [_, _], _ => rfl },
      Track_length := { f := f_Track_length, fd := _, F := F_Track_length, p := p_Track_length, P := ⟨a_Track_length, pg_Track_length, pt_Track_length, _, pr_Track_length_at⟩, b := F_Track_length.binds (ps := ["self"]) fun _ _ _ _ _ _ us hl => match us, hl with | [_], _ => rfl },
      Track_passes := { f := f_Track_passes, fd := _, F := F_Track_passes, p := p_Track_passes, P := ⟨a_Track_passes, pg_Track_passes, pt_Track_passes, _, pr_Track_passes_at⟩, b := F_Track_passes.binds (ps := ["self"]) fun _ _ _ _ _ _ us hl => match us, hl with | [_], _ => rfl },
      Track_eq := { f := f_Track_eq, fd := _, F := F_Track_eq, m := ⟨a_Track_eq, i_Track_eq, k_Track_eq⟩, b := F_Track_eq.binds (ps := ["self", "other"]) fun _ _ _ _ _ _ us hl => match us, hl with | [_, _], _ => rfl },
      Track_str := { f := f_Track_str, fd := _, F := F_Track_str, m := ⟨a_Track_str, i_Track_str, k_Track_str⟩, b := F_Track_str.binds (ps := ["self"]) fun _ _ _ _ _ _ us hl => match us, hl with | [_], _ => rfl },
      law_purse := { f := f_law_purse, fd := _, F := F_law_purse, g := PySem.W.mg_of X G a_law_purse, b := F_law_purse.binds (ps := ["script", "k"]) fun _ _ _ _ _ _ us hl => match us, hl with | [_, _], _ => rfl },
      law_draw := { f := f_law_draw, fd := _, F := F_law_draw, g := PySem.W.mg_of X G a_law_draw, b := F_law_draw.binds (ps := ["purse", "size"]) fun _ _ _ _ _ _ us hl => match us, hl with | [_, _], _ => rfl },
      law_pick := { f := f_law_pick, fd := _, F := F_law_pick, g := PySem.W.mg_of X G a_law_pick, b := F_law_pick.binds (ps := ["purse", "menu"]) fun _ _ _ _ _ _ us hl => match us, hl with | [_, _], _ => rfl },
      law_wide := { f := f_law_wide, fd := _, F := F_law_wide, g := PySem.W.mg_of X G a_law_wide, b := F_law_wide.binds (ps := ["purse", "size"]) fun _ _ _ _ _ _ us hl => match us, hl with | [_, _], _ => rfl },
      law_touches := { f := f_law_touches, fd := _, F := F_law_touches, g := PySem.W.mg_of X G a_law_touches, b := F_law_touches.binds (ps := ["purse", "first", "last", "many", "wide"]) fun _ _ _ _ _ _ us hl => match us, hl with | [_, _, _, _, _], _ => rfl },
      law_words := { f := f_law_words, fd := _, F := F_law_words, g := PySem.W.mg_of X G a_law_words, b := F_law_words.binds (ps := ["purse"]) fun _ _ _ _ _ _ us hl => match us, hl with | [_], _ => rfl },
      law_fader := { f := f_law_fader, fd := _, F := F_law_fader, g := PySem.W.mg_of X G a_law_fader, b := F_law_fader.binds (ps := ["purse", "word", "long"]) fun _ _ _ _ _ _ us hl => match us, hl with | [_, _, _], _ => rfl },
      law_faders := { f := f_law_faders, fd := _, F := F_law_faders, g := PySem.W.mg_of X G a_law_faders, b := F_law_faders.binds (ps := ["purse", "long", "many"]) fun _ _ _ _ _ _ us hl => match us, hl with | [_, _, _], _ => rfl },
      law_long := { f := f_law_long, fd := _, F := F_law_long, g := PySem.W.mg_of X G a_law_long, b := F_law_long.binds (ps := ["purse"]) fun _ _ _ _ _ _ us hl => match us, hl with | [_], _ => rfl },
      law_said := { f := f_law_said, fd := _, F := F_law_said, g := PySem.W.mg_of X G a_law_said, b := F_law_said.binds (ps := ["some"]) fun _ _ _ _ _ _ us hl => match us, hl with | [_], _ => rfl },
      law_text := { f := f_law_text, fd := _, F := F_law_text, g := PySem.W.mg_of X G a_law_text, b := F_law_text.binds (ps := ["long", "some"]) fun _ _ _ _ _ _ us hl => match us, hl with | [_, _], _ => rfl },
      law_right := { f := f_law_right, fd := _, F := F_law_right, g := PySem.W.mg_of X G a_law_right, b := F_law_right.binds (ps := ["purse"]) fun _ _ _ _ _ _ us hl => match us, hl with | [_], _ => rfl },
      law := { f := f_law, fd := _, F := F_law, g := PySem.W.mg_of X G a_law, b := F_law.binds (ps := ["script"]) fun _ _ _ _ _ _ us hl => match us, hl with | [_], _ => rfl },
      c_LETTERS := ⟨t_LETTERS, PySem.W.mg_of X G a_LETTERS⟩,
      c_DIGITS := ⟨t_DIGITS, PySem.W.mg_of X G a_DIGITS⟩,
      c_MOST_SIGNS := ⟨t_MOST_SIGNS, PySem.W.mg_of X G a_MOST_SIGNS⟩,
      c_MOST_LENGTH := ⟨t_MOST_LENGTH, PySem.W.mg_of X G a_MOST_LENGTH⟩,
      c_MOST_PASSES := ⟨t_MOST_PASSES, PySem.W.mg_of X G a_MOST_PASSES⟩,
      c_MOST_TOUCHES := ⟨t_MOST_TOUCHES, PySem.W.mg_of X G a_MOST_TOUCHES⟩,
      c_MOST_GLIDE := ⟨t_MOST_GLIDE, PySem.W.mg_of X G a_MOST_GLIDE⟩,
      c_OLD := ⟨t_OLD, PySem.W.mg_of X G a_OLD⟩,
      c_MODES := ⟨a_MODES, PySem.W.mg_of X G b_MODES, fun H => .inr ⟨_, _, n_MODES, l_MODES, rfl, rfl, by show 4 ≤ sizeLine; decide, .cons ⟨_, rfl⟩ (.cons ⟨_, rfl⟩ (.cons ⟨_, rfl⟩ (.cons ⟨_, rfl⟩ (.nil))))⟩⟩,
      c_TAILS := ⟨a_TAILS, PySem.W.mg_of X G b_TAILS, fun H => .inr ⟨_, _, n_TAILS, l_TAILS, rfl, rfl, by show 2 ≤ sizeLine; decide, .cons ⟨_, rfl⟩ (.cons ⟨_, rfl⟩ (.nil))⟩⟩,
      c_SIZE := ⟨t_SIZE, PySem.W.mg_of X G a_SIZE⟩,
      c_MOST_DIGITS := ⟨t_MOST_DIGITS, PySem.W.mg_of X G a_MOST_DIGITS⟩,
      c_FEWEST_WORDS := ⟨t_FEWEST_WORDS, PySem.W.mg_of X G a_FEWEST_WORDS⟩,
      z_len := PySem.W.mg_none_of X G z_len,
      z_isinstance := PySem.W.mg_none_of X G z_isinstance,
      z_int := PySem.W.mg_none_of X G z_int,
      z_bool := PySem.W.mg_none_of X G z_bool,
      z_str := PySem.W.mg_none_of X G z_str,
      z_tuple := PySem.W.mg_none_of X G z_tuple,
      z_all := PySem.W.mg_none_of X G z_all,
      z_range := PySem.W.mg_none_of X G z_range,
      z_enumerate := PySem.W.mg_none_of X G z_enumerate,
      z_abs := PySem.W.mg_none_of X G z_abs,
      z_divmod := PySem.W.mg_none_of X G z_divmod,
      z_max := PySem.W.mg_none_of X G z_max,
      z_min := PySem.W.mg_none_of X G z_min,
      z_repr := PySem.W.mg_none_of X G z_repr }, rfl⟩
end My
namespace My
open PySem PySem.Spec PyProof.Rows L2 DL
def B_Track_length (C : Addr) : Mo Fl := (sRet (mFld C "_length" (mVar 0)))
def F_Track_length (C : Addr) : List D → Option D := runF 1 0 (B_Track_length C)
def B_Track_passes (C : Addr) : Mo Fl := (sRet (mFld C "_passes" (mVar 0)))
def F_Track_passes (C : Addr) : List D → Option D := runF 1 0 (B_Track_passes C)
def B_row_of (C : Addr) : Mo Fl := (sSeq (sAsg (mVar 0) (gTp 7 (gsCons (gNm 1) (gsCons (gNm 2) (gsCons (gNm 3) (gsCons (gNm 4) (gsCons (gNm 5) (gsCons (gNm 6) (gsCons (gNm 7) gsNil)))))))))
    (sSeq (sSet 8 (mLst (aCons (mC (.str "pass")) (aCons (mVar 1) (aCons (mVar 2) (aCons (mFn dStr (aCons (mVar 3) aNil)) (aCons (mFn dStr (aCons (mVar 4) aNil)) (aCons (mFn dStr (aCons (mVar 6) aNil)) (aCons (mVar 7) aNil)))))))))
    (sRet (mStr dJoin (mC (.str " ")) (mOp dAdd (mVar 8) (mLc [9, 10] (iSeq seqT (mVar 5)) (gTp 2 (gsCons (gNm 9) (gsCons (gNm 10) gsNil))) (mC true) (mFs [(mUn dFmt (mVar 9)), (mC (.str "-")), (mUn dFmt (mVar 10))])))))))
def F_row_of (C : Addr) : List D → Option D := runF 1 10 (B_row_of C)
def B_rows_of (C : Addr) : Mo Fl := (sRet (mOp dAdd (mLst (aCons (mFs [(mC (.str "track ")), (mUn dFmt (mVar 0))]) aNil)) (mLc [2] (iSeq seqT (mVar 1)) (gNm 2) (mC true) (mFn (F_row_of C) (aCons (mVar 2) aNil)))))
def F_rows_of (C : Addr) : List D → Option D := runF 2 1 (B_rows_of C)
def B_Track_str (C : Addr) : Mo Fl := (sRet (mStr dJoin (mC (.str "\n")) (mFn (F_rows_of C) (aCons (mFld C "_length" (mVar 0)) (aCons (mFld C "_passes" (mVar 0)) aNil)))))
def F_Track_str (C : Addr) : List D → Option D := runF 1 0 (B_Track_str C)
def B_law_draw (C : Addr) : Mo Fl := (sSeq (sPar [2, 3] [false, false] (aCons (mIxV 0 (mC (.int 1))) (aCons (mOp dAdd (mOp dMod (mFn dInt (aCons (mIxV 0 (mC (.int 1))) aNil)) (mC (.int 40009))) (mC (.int 20021))) aNil)))
    (sSeq (sAsg (mOp dAdd (mIxV 0 (mC (.int 2))) (mC (.int 1))) (gPut 0 (mC (.int 2))))
    (sSeq (sAsg (mOp dMod (mFn dInt (aCons (mOp dAdd (mOp dAdd (mOp dMul (mVar 2) (mVar 3)) (mOp dMul (mC (.int 60013)) (mIxV 0 (mC (.int 2))))) (mC (.int 11))) aNil)) (mC (.int 2147483629))) (gPut 0 (mC (.int 1))))
    (sSeq (sIf (mTst (mOp dGt (mIxV 0 (mC (.int 0))) (mC (.int 0)))) (sSeq (sAsg (mFn dDivmod (aCons (mIxV 0 (mC (.int 0))) (aCons (mVar 1) aNil))) (gTp 2 (gsCons (gPut 0 (mC (.int 0))) (gsCons (gNm 4) gsNil))))
    (sRet (mVar 4))) sNx)
    (sRet (mOp dMod (mFn dInt (aCons (mOp dDiv (mIxV 0 (mC (.int 1))) (mC (.int 89))) aNil)) (mVar 1)))))))
def F_law_draw (C : Addr) : D → List D → Option (D × D) := runO 2 3 (B_law_draw C)
def B_law_pick (C : Addr) : Mo Fl := (sRet (mOp dIx (mVar 1) (mCallO (F_law_draw C) 0 (aCons (mFn dLen (aCons (mVar 1) aNil)) aNil))))
def F_law_pick (C : Addr) : D → List D → Option (D × D) := runO 2 0 (B_law_pick C)
def B_law_long (C : Addr) : Mo Fl := (sRet (mCallO (F_law_pick C) 0 (aCons (mLst (aCons (mC (.int 1)) (aCons (mC (.int 2)) (aCons (mC (.int 12)) (aCons (mC (.int 30)) (aCons (mOp dAdd (mC (.int 1)) (mCallO (F_law_draw C) 0 (aCons (mC (.int 40)) aNil))) (aCons (mC (.int 5000)) (aCons (mOp dPow (mC (.int 10)) (mC (.int 12))) (aCons (mOp dSub (mOp dPow (mC (.int 10)) (mC (.int 12))) (mC (.int 1))) aNil))))))))) aNil)))
def F_law_long (C : Addr) : D → List D → Option (D × D) := runO 1 0 (B_law_long C)
def B_law_words (C : Addr) : Mo Fl := (sSeq (sSet 1 (mLst (aCons (mC (.str "a")) (aCons (mC (.str "b")) (aCons (mC (.str "olds")) (aCons (mC (.str "z9")) (aCons (mC (.str "write")) (aCons (mC (.str "c")) (aCons (mC (.str "on")) (aCons (mC (.str "pass")) (aCons (mC (.str "abcdefgh")) (aCons (mC (.str "t0000001")) (aCons (mC (.str "ol")) (aCons (mC (.str "track")) (aCons (mC (.str "ab")) (aCons (mC (.str "aa")) aNil))))))))))))))))
    (sSeq (sSet 2 (mCallO (F_law_draw C) 0 (aCons (mFn dLen (aCons (mVar 1) aNil)) aNil)))
    (sRet (mSl dSl (mOp dAdd (mSl dSl (mVar 1) (mPart (mVar 2)) mNo) (mSl dSl (mVar 1) mNo (mPart (mVar 2)))) mNo (mPart (mC (.int 8)))))))
def F_law_words (C : Addr) : D → List D → Option (D × D) := runO 1 2 (B_law_words C)
def B_law_touches (C : Addr) : Mo Fl := (sSeq (sPar [5, 6] [true, false] (aCons (mLst aNil) (aCons (mVar 1) aNil)))
    (sSeq (sFor (iFn rng1? (aCons (mVar 3) aNil)) (gNm 7) (sSeq (sSet 8 (mOp dAdd (mVar 6) (mOp dMul (mCallO (F_law_draw C) 0 (aCons (mC (.int 4)) aNil)) (mCallO (F_law_pick C) 0 (aCons (mLst (aCons (mC (.int 1)) (aCons (mC (.int 1)) (aCons (mVar 4) aNil)))) aNil)))))
    (sSeq (sSet 9 (mOp dAdd (mOp dAdd (mVar 8) (mC (.int 1))) (mOp dMul (mCallO (F_law_draw C) 0 (aCons (mC (.int 3)) aNil)) (mCallO (F_law_pick C) 0 (aCons (mLst (aCons (mC (.int 1)) (aCons (mC (.int 1)) (aCons (mVar 4) aNil)))) aNil)))))
    (sIf (mTst (mOp dLe (mVar 9) (mVar 2))) (sSeq (sAppV 5 (mTup (aCons (mVar 8) (aCons (mVar 9) aNil))))
    (sSet 6 (mOp dAdd (mVar 9) (mC (.int 1))))) sNx))))
    (sRet (mFn dTuple (aCons (mVar 5) aNil)))))
def F_law_touches (C : Addr) : D → List D → Option (D × D) := runO 5 5 (B_law_touches C)
def B_law_wide (C : Addr) : Mo Fl := (sRet (mOp dMod (mFn dInt (aCons (mOp dAdd (mOp dMul (mCallO (F_law_draw C) 0 (aCons (mOp dPow (mC (.int 10)) (mC (.int 6))) aNil)) (mOp dPow (mC (.int 10)) (mC (.int 6)))) (mCallO (F_law_draw C) 0 (aCons (mOp dPow (mC (.int 10)) (mC (.int 6))) aNil))) aNil)) (mVar 1)))
def F_law_wide (C : Addr) : D → List D → Option (D × D) := runO 2 0 (B_law_wide C)
def B_law_fader (C : Addr) : Mo Fl := (sSeq (sSet 3 (mCallO (F_law_pick C) 0 (aCons (mLst (aCons (mC (.int 0)) (aCons (mCallO (F_law_wide C) 0 (aCons (mVar 2) aNil)) (aCons (mCallO (F_law_wide C) 0 (aCons (mVar 2) aNil)) aNil)))) aNil)))
    (sSeq (sSet 4 (mOp dAdd (mLst (aCons (mVar 2) aNil)) (mLc [5] (iFn rng1? (aCons (mC (.int 2)) aNil)) (gNm 5) (mC true) (mOp dAdd (mOp dAdd (mVar 3) (mC (.int 1))) (mCallO (F_law_wide C) 0 (aCons (mOp dSub (mVar 2) (mVar 3)) aNil))))))
    (sSeq (sSet 6 (mCallO (F_law_pick C) 0 (aCons (mVar 4) aNil)))
    (sSeq (sSet 7 (mCallO (F_law_pick C) 0 (aCons (mLst (aCons (mC (.int 1)) (aCons (mC (.int 1)) (aCons (mFn dMax (aCons (mC (.int 1)) (aCons (mOp dDiv (mOp dSub (mVar 6) (mVar 3)) (mC (.int 20))) aNil))) aNil)))) aNil)))
    (sSeq (sSet 8 (mCallO (F_law_touches C) 0 (aCons (mVar 3) (aCons (mVar 6) (aCons (mCallO (F_law_draw C) 0 (aCons (mC (.int 7)) aNil)) (aCons (mVar 7) aNil))))))
    (sSeq (sSet 9 (mCallO (F_law_pick C) 0 (aCons (mLst (aCons (mC (.str "write")) (aCons (mC (.str "latch")) (aCons (mC (.str "touch")) (aCons (mC (.str "touch")) (aCons (mC (.str "trim")) aNil)))))) aNil)))
    (sSeq (sPar [10, 11] [false, false] (aCons (mCallO (F_law_pick C) 0 (aCons (mLst (aCons (mC (.int 0)) (aCons (mC (.int 1)) (aCons (mC (.int 2)) (aCons (mC (.int 3)) (aCons (mC (.int 7)) (aCons (mC (.int 99)) (aCons (mC (.int 100)) aNil)))))))) aNil)) (aCons (mCallO (F_law_pick C) 0 (aCons (mLst (aCons (mC (.str "stop")) (aCons (mC (.str "stop")) (aCons (mC (.str "on")) aNil)))) aNil)) aNil)))
    (sRet (mTup (aCons (mVar 1) (aCons (mVar 9) (aCons (mVar 3) (aCons (mVar 6) (aCons (mVar 8) (aCons (mVar 10) (aCons (mVar 11) aNil))))))))))))))))
def F_law_fader (C : Addr) : D → List D → Option (D × D) := runO 3 9 (B_law_fader C)
def B_law_faders (C : Addr) : Mo Fl := (sSeq (sSet 3 (mCallO (F_law_words C) 0 aNil))
    (sRet (mFn dTuple (aCons (mLc [4] (iFn rng1? (aCons (mCallO (F_law_draw C) 0 (aCons (mOp dAdd (mVar 2) (mC (.int 1))) aNil)) aNil)) (gNm 4) (mC true) (mCallO (F_law_fader C) 0 (aCons (mOp dIx (mVar 3) (mVar 4)) (aCons (mVar 1) aNil)))) aNil))))
def F_law_faders (C : Addr) : D → List D → Option (D × D) := runO 3 2 (B_law_faders C)
def B_is_integer (C : Addr) : Mo Fl := (sRet (mAndV (mFn dIsT (aCons (mVar 0) (aCons (mC (.ty "int")) aNil))) (mNotV (mFn dIsT (aCons (mVar 0) (aCons (mC (.ty "bool")) aNil))))))
def F_is_integer (C : Addr) : List D → Option D := runF 1 0 (B_is_integer C)
def B_is_between (C : Addr) : Mo Fl := (sRet (mAndV (mFn (F_is_integer C) (aCons (mVar 0) aNil)) (mChain dLe dLe (mVar 1) (mVar 0) (mVar 2))))
def F_is_between (C : Addr) : List D → Option D := runF 3 0 (B_is_between C)
def B_is_stretch (C : Addr) : Mo Fl := (sSeq (sIf (mOr (mNot (mTst (mFn dIsT (aCons (mVar 0) (aCons (mC (.ty "tuple")) aNil))))) (mTst (mOp dNe (mFn dLen (aCons (mVar 0) aNil)) (mC (.int 2))))) (sRet (mC (.bl false))) sNx)
    (sRet (mAndV (mFn (F_is_between C) (aCons (mOp dIx (mVar 0) (mC (.int 0))) (aCons (mVar 1) (aCons (mVar 2) aNil)))) (mFn (F_is_between C) (aCons (mOp dIx (mVar 0) (mC (.int 1))) (aCons (mOp dAdd (mOp dIx (mVar 0) (mC (.int 0))) (mC (.int 1))) (aCons (mVar 2) aNil)))))))
def F_is_stretch (C : Addr) : List D → Option D := runF 3 0 (B_is_stretch C)
def B_are_touches (C : Addr) : Mo Fl := (sSeq (sIf (mOr (mNot (mTst (mFn dIsT (aCons (mVar 0) (aCons (mC (.ty "tuple")) aNil))))) (mTst (mOp dGt (mFn dLen (aCons (mVar 0) aNil)) (mC (.int 6))))) (sRet (mC (.bl false))) sNx)
    (sSeq (sSet 3 (mVar 1))
    (sSeq (sFor (iSeq seqT (mVar 0)) (gNm 4) (sSeq (sIf (mNot (mTst (mFn (F_is_stretch C) (aCons (mVar 4) (aCons (mVar 3) (aCons (mVar 2) aNil)))))) (sRet (mC (.bl false))) sNx)
    (sSet 3 (mOp dAdd (mOp dIx (mVar 4) (mC (.int 1))) (mC (.int 1))))))
    (sRet (mC (.bl true))))))
def F_are_touches (C : Addr) : List D → Option D := runF 3 2 (B_are_touches C)
def B_is_name (C : Addr) : Mo Fl := (sSeq (sIf (mOr (mNot (mTst (mFn dIsT (aCons (mVar 0) (aCons (mC (.ty "str")) aNil))))) (mNot (mTst (mChain dLe dLe (mC (.int 1)) (mFn dLen (aCons (mVar 0) aNil)) (mC (.int 8)))))) (sRet (mC (.bl false))) sNx)
    (sRet (mAndV (mOp dIn (mOp dIx (mVar 0) (mC (.int 0))) (mC (.str "abcdefghijklmnopqrstuvwxyz"))) (mFn dAll (aCons (mLc [1] (iSeq seqS (mVar 0)) (gNm 1) (mC true) (mOp dIn (mVar 1) (mOp dAdd (mC (.str "abcdefghijklmnopqrstuvwxyz")) (mC (.str "0123456789"))))) aNil)))))
def F_is_name (C : Addr) : List D → Option D := runF 1 1 (B_is_name C)
def B_is_word (C : Addr) : Mo Fl := (sRet (mAndV (mFn dIsT (aCons (mVar 0) (aCons (mC (.ty "str")) aNil))) (mOp dIn (mVar 0) (mVar 1))))
def F_is_word (C : Addr) : List D → Option D := runF 2 0 (B_is_word C)
def B_is_pass (C : Addr) : Mo Fl := (sSeq (sIf (mOr (mNot (mTst (mFn dIsT (aCons (mVar 0) (aCons (mC (.ty "tuple")) aNil))))) (mTst (mOp dNe (mFn dLen (aCons (mVar 0) aNil)) (mC (.int 7))))) (sRet (mC (.bl false))) sNx)
    (sSeq (sAsg (mVar 0) (gTp 7 (gsCons (gNm 2) (gsCons (gNm 3) (gsCons (gNm 4) (gsCons (gNm 5) (gsCons (gNm 6) (gsCons (gNm 7) (gsCons (gNm 8) gsNil)))))))))
    (sSeq (sIf (mOr (mNot (mTst (mFn (F_is_name C) (aCons (mVar 2) aNil)))) (mTst (mOp dEq (mVar 2) (mC (.str "old"))))) (sRet (mC (.bl false))) sNx)
    (sSeq (sIf (mOr (mNot (mTst (mFn (F_is_word C) (aCons (mVar 3) (aCons (mC (.tup [(.str "write"), (.str "latch"), (.str "touch"), (.str "trim")])) aNil))))) (mNot (mTst (mFn (F_is_word C) (aCons (mVar 8) (aCons (mC (.tup [(.str "stop"), (.str "on")])) aNil)))))) (sRet (mC (.bl false))) sNx)
    (sSeq (sIf (mNot (mTst (mFn (F_is_stretch C) (aCons (mTup (aCons (mVar 4) (aCons (mVar 5) aNil))) (aCons (mC (.int 0)) (aCons (mVar 1) aNil)))))) (sRet (mC (.bl false))) sNx)
    (sRet (mAndV (mFn (F_are_touches C) (aCons (mVar 6) (aCons (mVar 4) (aCons (mVar 5) aNil)))) (mFn (F_is_between C) (aCons (mVar 7) (aCons (mC (.int 0)) (aCons (mC (.int 100)) aNil)))))))))))
def F_is_pass (C : Addr) : List D → Option D := runF 2 7 (B_is_pass C)
def B_first_wrong (C : Addr) : Mo Fl := (sSeq (sSetN 2 (mLst aNil))
    (sSeq (sFor (iFn enumT? (aCons (mVar 0) aNil)) (gTp 2 (gsCons (gNm 3) (gsCons (gNm 4) gsNil))) (sSeq (sIf (mOr (mTst (mOp dGe (mVar 3) (mC (.int 8)))) (mOr (mNot (mTst (mFn (F_is_pass C) (aCons (mVar 4) (aCons (mVar 1) aNil))))) (mTst (mOpRt dIn (mOp dIx (mVar 4) (mC (.int 0))) 2)))) (sRet (mVar 3)) sNx)
    (sAppV 2 (mOp dIx (mVar 4) (mC (.int 0))))))
    (sRet (mC .non))))
def F_first_wrong (C : Addr) : List D → Option D := runF 2 3 (B_first_wrong C)
def B_is_length (C : Addr) : Mo Fl := (sRet (mFn (F_is_between C) (aCons (mVar 0) (aCons (mC (.int 1)) (aCons (mC (.int 1000000000000)) aNil)))))
def F_is_length (C : Addr) : List D → Option D := runF 1 0 (B_is_length C)
def B_Track_init (C : Addr) : Mo Fl := (sSeq (sIf (mNot (mTst (mFn (F_is_length C) (aCons (mVar 1) aNil)))) (sNo) sNx)
    (sSeq (sIf (mNot (mTst (mFn dIsT (aCons (mVar 2) (aCons (mC (.ty "tuple")) aNil))))) (sNo) sNx)
    (sSeq (sSet 3 (mFn (F_first_wrong C) (aCons (mVar 2) (aCons (mVar 1) aNil))))
    (sSeq (sIf (mTst (mOp dIsNot (mVar 3) (mC .non))) (sNo) sNx)
    (sSeq (sFldV C 0 "_length" (mVar 1))
    (sFldV C 0 "_passes" (mVar 2)))))))
def F_Track_init (C : Addr) : D → List D → Option (D × D) := runO 3 1 (B_Track_init C)
def B_law_said (C : Addr) : Mo Fl := (sSeq (sSetN 1 (mLst aNil))
    (sSeq (sFor (iSeq seqT (mVar 0)) (gTp 7 (gsCons (gNm 2) (gsCons (gNm 3) (gsCons (gNm 4) (gsCons (gNm 5) (gsCons (gNm 6) (gsCons (gNm 7) (gsCons (gNm 8) gsNil)))))))) (sSeq (sSet 9 (mLst (aCons (mC (.str "pass")) (aCons (mVar 2) (aCons (mVar 3) (aCons (mFn dStr (aCons (mVar 4) aNil)) (aCons (mFn dStr (aCons (mVar 5) aNil)) (aCons (mFn dStr (aCons (mVar 7) aNil)) (aCons (mVar 8) aNil)))))))))
    (sAppV 1 (mStr dJoin (mC (.str " ")) (mOp dAdd (mVar 9) (mLc [10, 11] (iSeq seqT (mVar 6)) (gTp 2 (gsCons (gNm 10) (gsCons (gNm 11) gsNil))) (mC true) (mOp dAdd (mOp dAdd (mFn dStr (aCons (mVar 10) aNil)) (mC (.str "-"))) (mFn dStr (aCons (mVar 11) aNil)))))))))
    (sRet (mVar 1))))
def F_law_said (C : Addr) : List D → Option D := runF 1 11 (B_law_said C)
def B_law_text (C : Addr) : Mo Fl := (sRet (mStr dJoin (mC (.str "\n")) (mOp dAdd (mLst (aCons (mOp dAdd (mC (.str "track ")) (mFn dStr (aCons (mVar 0) aNil))) aNil)) (mFn (F_law_said C) (aCons (mVar 1) aNil)))))
def F_law_text (C : Addr) : List D → Option D := runF 2 0 (B_law_text C)
def B_number_in (C : Addr) : Mo Fl := (sSeq (sIf (mNot (mTst (mChain dLe dLe (mC (.int 1)) (mFn dLen (aCons (mVar 0) aNil)) (mC (.int 13))))) (sRet (mC .non)) sNx)
    (sSeq (sIf (mNot (mTst (mFn dAll (aCons (mLc [1] (iSeq seqS (mVar 0)) (gNm 1) (mC true) (mOp dIn (mVar 1) (mC (.str "0123456789")))) aNil)))) (sRet (mC .non)) sNx)
    (sSeq (sIf (mAnd (mTst (mOp dEq (mOp dIx (mVar 0) (mC (.int 0))) (mC (.str "0")))) (mTst (mOp dNe (mVar 0) (mC (.str "0"))))) (sRet (mC .non)) sNx)
    (sRet (mFn dInt (aCons (mVar 0) aNil))))))
def F_number_in (C : Addr) : List D → Option D := runF 1 1 (B_number_in C)
def B_length_in_row (C : Addr) : Mo Fl := (sSeq (sAsg (mStr dSplit (mVar 0) (mC (.str " "))) (gStarN [1] 2))
    (sSeq (sIf (mOr (mTst (mOp dNe (mVar 1) (mC (.str "track")))) (mTst (mOp dNe (mFnP dLen 2) (mC (.int 1))))) (sRet (mC .non)) sNx)
    (sSeq (sSet 3 (mFn (F_number_in C) (aCons (mIxV 2 (mC (.int 0))) aNil)))
    (sRet (mIf (mTst (mFn (F_is_length C) (aCons (mVar 3) aNil))) (mVar 3) (mC .non))))))
def F_length_in_row (C : Addr) : List D → Option D := runF 1 3 (B_length_in_row C)
def B_stretch_in (C : Addr) : Mo Fl := (sSeq (sSet 1 (mLc [2] (iSeq seqL (mStr dSplit (mVar 0) (mC (.str "-")))) (gNm 2) (mC true) (mFn (F_number_in C) (aCons (mVar 2) aNil))))
    (sSeq (sIf (mOr (mTst (mOp dNe (mFn dLen (aCons (mVar 1) aNil)) (mC (.int 2)))) (mTst (mOp dIn (mC .non) (mVar 1)))) (sRet (mC .non)) sNx)
    (sRet (mTup (aCons (mOp dIx (mVar 1) (mC (.int 0))) (aCons (mOp dIx (mVar 1) (mC (.int 1))) aNil))))))
def F_stretch_in (C : Addr) : List D → Option D := runF 1 2 (B_stretch_in C)
def B_pass_in (C : Addr) : Mo Fl := (sSeq (sIf (mTst (mOp dLt (mFn dLen (aCons (mVar 0) aNil)) (mC (.int 6)))) (sRet (mC .non)) sNx)
    (sSeq (sAsg (mVar 0) (gStarN [1, 2, 3, 4, 5, 6] 7))
    (sSeq (sSet 8 (mLc [9] (iSeq seqT (mTup (aCons (mVar 3) (aCons (mVar 4) (aCons (mVar 5) aNil))))) (gNm 9) (mC true) (mFn (F_number_in C) (aCons (mVar 9) aNil))))
    (sSeq (sSet 10 (mLc [9] (iSeq seqL (mVar 7)) (gNm 9) (mC true) (mFn (F_stretch_in C) (aCons (mVar 9) aNil))))
    (sSeq (sIf (mOr (mTst (mOp dIn (mC .non) (mVar 8))) (mTst (mOp dIn (mC .non) (mVar 10)))) (sRet (mC .non)) sNx)
    (sRet (mTup (aCons (mVar 1) (aCons (mVar 2) (aCons (mOp dIx (mVar 8) (mC (.int 0))) (aCons (mOp dIx (mVar 8) (mC (.int 1))) (aCons (mFn dTuple (aCons (mVar 10) aNil)) (aCons (mOp dIx (mVar 8) (mC (.int 2))) (aCons (mVar 6) aNil))))))))))))))
def F_pass_in (C : Addr) : List D → Option D := runF 1 10 (B_pass_in C)
def B_pass_in_row (C : Addr) : Mo Fl := (sSeq (sAsg (mStr dSplit (mVar 0) (mC (.str " "))) (gStarN [1] 2))
    (sRet (mIf (mTst (mOp dEq (mVar 1) (mC (.str "pass")))) (mFn (F_pass_in C) (aCons (mVar 2) aNil)) (mC .non))))
def F_pass_in_row (C : Addr) : List D → Option D := runF 1 2 (B_pass_in_row C)
def B_track_in (C : Addr) : Mo Fl := (sSeq (sIf (mNot (mTst (mFn dIsT (aCons (mVar 0) (aCons (mC (.ty "str")) aNil))))) (sRet (mC .non)) sNx)
    (sSeq (sAsg (mStr dSplit (mVar 0) (mC (.str "\n"))) (gStarN [1] 2))
    (sSeq (sSet 3 (mFn (F_length_in_row C) (aCons (mVar 1) aNil)))
    (sSeq (sIf (mTst (mOp dIs (mVar 3) (mC .non))) (sRet (mC .non)) sNx)
    (sSeq (sSet 4 (mFn dTuple (aCons (mLc [5] (iSeq seqL (mVar 2)) (gNm 5) (mC true) (mFn (F_pass_in_row C) (aCons (mVar 5) aNil))) aNil)))
    (sRet (mIf (mTst (mOp dIs (mFn (F_first_wrong C) (aCons (mVar 4) (aCons (mVar 3) aNil))) (mC .non))) (mTup (aCons (mVar 3) (aCons (mVar 4) aNil))) (mC .non))))))))
def F_track_in (C : Addr) : List D → Option D := runF 1 5 (B_track_in C)
def B_Track_read (C : Addr) : Mo Fl := (sSeq (sSet 2 (mFn (F_track_in C) (aCons (mVar 1) aNil)))
    (sSeq (sIf (mTst (mOp dIs (mVar 2) (mC .non))) (sNo) sNx)
    (sSeq (sAsg (mVar 2) (gTp 2 (gsCons (gNm 3) (gsCons (gNm 4) gsNil))))
    (sRet (mMakeL 0 C (F_Track_init C) [] (aCons (mVar 3) (aCons (mVar 4) aNil)))))))
def F_Track_read (C : Addr) : List D → Option D := runF 2 3 (B_Track_read C)
def B_Track_eq (C : Addr) : Mo Fl := (sRet (mAndV (mFn (dIsCT C) (aCons (mVar 1) (aCons (mC (.cls C)) aNil))) (mAndV (mOp dEq (mFld C "_length" (mVar 0)) (mFld C "_length" (mVar 1))) (mOp dEq (mFld C "_passes" (mVar 0)) (mFld C "_passes" (mVar 1))))))
def F_Track_eq (C : Addr) : List D → Option D := runF 2 0 (B_Track_eq C)
def B_law_right (C : Addr) : Mo Fl := (sSeq (sSetN 1 (mLst aNil))
    (sSeq (sFor (iFn rng1? (aCons (mC (.int 3)) aNil)) (gNm 2) (sSeq (sSet 3 (mCallO (F_law_long C) 0 aNil))
    (sSeq (sSet 4 (mCallO (F_law_faders C) 0 (aCons (mVar 3) (aCons (mC (.int 8)) aNil))))
    (sSeq (sPar [5, 6] [false, false] (aCons (mMake C (F_Track_init C) [] (aCons (mVar 3) (aCons (mVar 4) aNil))) (aCons (mFn (F_law_text C) (aCons (mVar 3) (aCons (mVar 4) aNil))) aNil)))
    (sSeq (sIf (mTst (mOp dNe (mFn dReprS (aCons (mFn (dStrI C (F_Track_str C)) (aCons (mVar 5) aNil)) aNil)) (mFn dReprS (aCons (mVar 6) aNil)))) (sRet (mC (.bl false))) sNx)
    (sSeq (sFor (iSeq seqL (mLst (aCons (mCMeth C (F_Track_read C) (mC (.cls C)) (aCons (mVar 6) aNil)) (aCons (mCMethK C [0, 1] 1 (F_Track_read C) (mC (.cls C)) (aCons (mVar 6) aNil)) aNil)))) (gNm 7) (sIf (mOr (mTst (mOp (dNeI C (F_Track_eq C)) (mVar 7) (mVar 5))) (mOr (mTst (mOp dNe (mFn dRepr (aCons (mLst (aCons (mProp C (F_Track_length C) (mVar 7)) (aCons (mProp C (F_Track_passes C) (mVar 7)) aNil))) aNil)) (mFn dRepr (aCons (mLst (aCons (mVar 3) (aCons (mVar 4) aNil))) aNil)))) (mTst (mOp dNe (mFn (dStrI C (F_Track_str C)) (aCons (mVar 7) aNil)) (mVar 6))))) (sRet (mC (.bl false))) sNx))
    (sAppV 1 (mVar 5))))))))
    (sRet (mOp dEq (mLc [8] (iSeq seqL (mVar 1)) (gNm 8) (mTst (mOp dNe (mOp dEq (mFn (dStrI C (F_Track_str C)) (aCons (mVar 8) aNil)) (mFn (dStrI C (F_Track_str C)) (aCons (mIxV 1 (mC (.int 0))) aNil))) (mOp (dEqI C (F_Track_eq C)) (mVar 8) (mIxV 1 (mC (.int 0)))))) (mVar 8)) (mLst aNil)))))
def F_law_right (C : Addr) : D → List D → Option (D × D) := runO 1 8 (B_law_right C)
def B_law_purse (C : Addr) : Mo Fl := (sSeq (sIf (mTst (mOp dLt (mVar 1) (mFn dLen (aCons (mVar 0) aNil)))) (sSeq (sSet 2 (mOp dIx (mVar 0) (mVar 1)))
    (sSeq (sSet 3 (mIf (mOr (mTst (mOp dLt (mVar 2) (mC (.int 0)))) (mTst (mOp dGe (mVar 2) (mOp dPow (mC (.int 10)) (mC (.int 18)))))) (mFn dAbs (aCons (mVar 2) aNil)) (mC (.int 0))))
    (sRetNew (mLst (aCons (mVar 3) (aCons (mOp dMod (mFn dInt (aCons (mOp dAdd (mOp dAdd (mOp dMul (mVar 2) (mC (.int 39373))) (mOp dMul (mC (.int 104723)) (mVar 1))) (mC (.int 17))) aNil)) (mC (.int 2147483629))) (aCons (mC (.int 0)) aNil))))))) sNx)
    (sSeq (sSet 4 (mOp dAdd (mOp dMul (mC (.int 86243)) (mVar 1)) (mC (.int 131))))
    (sSeq (sFor (iSeq seqL (mSl dSl (mVar 0) mNo (mPart (mC (.int 4))))) (gNm 2) (sSet 4 (mOp dMod (mFn dInt (aCons (mOp dAdd (mOp dMul (mVar 4) (mC (.int 48271))) (mVar 2)) aNil)) (mC (.int 2147483587)))))
    (sRetNew (mLst (aCons (mC (.int 0)) (aCons (mVar 4) (aCons (mC (.int 0)) aNil))))))))
def F_law_purse (C : Addr) : List D → Option D := runN 2 3 (B_law_purse C)
def B_law (C : Addr) : Mo Fl := (sSeq (sSet 1 (mTup (aCons (mC (.str "b")) (aCons (mC (.str "latch")) (aCons (mC (.int 4)) (aCons (mC (.int 10)) (aCons (mTup (aCons (mTup (aCons (mC (.int 6)) (aCons (mC (.int 7)) aNil))) (aCons (mTup (aCons (mC (.int 8)) (aCons (mC (.int 10)) aNil))) aNil))) (aCons (mC (.int 0)) (aCons (mC (.str "on")) aNil)))))))))
    (sSeq (sIf (mOr (mTst (mOp dNe (mFn (dStrI C (F_Track_str C)) (aCons (mMake C (F_Track_init C) [] (aCons (mC (.int 12)) (aCons (mTup (aCons (mVar 1) aNil)) aNil))) aNil)) (mC (.str "track 12\npass b latch 4 10 0 on 6-7 8-10")))) (mTst (mOp dNe (mFn (dStrI C (F_Track_str C)) (aCons (mMake C (F_Track_init C) [.tup []] (aCons (mC (.int 1)) aNil)) aNil)) (mC (.str "track 1"))))) (sRet (mC (.bl false))) sNx)
    (sSeq (sIf (mTst (mOp dNe (mProp C (F_Track_length C) (mCMeth C (F_Track_read C) (mC (.cls C)) (aCons (mC (.str "track 1000000000000")) aNil))) (mOp dPow (mC (.int 10)) (mC (.int 12))))) (sRet (mC (.bl false))) sNx)
    (sSeq (sIf (mTst (mOp dNe (mProp C (F_Track_passes C) (mCMeth C (F_Track_read C) (mC (.cls C)) (aCons (mC (.str "track 12\npass a trim 0 12 100 stop")) aNil))) (mTup (aCons (mTup (aCons (mC (.str "a")) (aCons (mC (.str "trim")) (aCons (mC (.int 0)) (aCons (mC (.int 12)) (aCons (mTup aNil) (aCons (mC (.int 100)) (aCons (mC (.str "stop")) aNil)))))))) aNil)))) (sRet (mC (.bl false))) sNx)
    (sSeq (sFor (iFn rng1? (aCons (mFn dMax (aCons (mC (.int 2)) (aCons (mFn dMin (aCons (mFn dLen (aCons (mVar 0) aNil)) (aCons (mC (.int 5)) aNil))) aNil))) aNil)) (gNm 2) (sIf (mNot (mTst (mCallNew (F_law_right C) (mFn (F_law_purse C) (aCons (mVar 0) (aCons (mVar 2) aNil))) aNil))) (sRet (mC (.bl false))) sNx))
    (sRet (mC (.bl true))))))))
def F_law (C : Addr) : List D → Option D := runF 1 2 (B_law C)
end My
namespace My
open PySem PySem.Spec PyProof.Rows L2 DL
section
variable {P : Program} {w : World} {K : PySem.W.Frag} {mg : Str → Option Value} {base : Heap}
theorem KB_Track_read_0_text (T : Txt w.params K mg) : KBn K T.Track_read.fd ["cls", "text"] 1 ["text"] (fun us ws => pick [0, 1] (us ++ ws)) (fun vs zs => pick [0, 1] (vs ++ zs)) := kbn_of T.Track_read.F 1 ["text"] [0, 1] fun _ _ _ _ _ _ us ws l1 l2 => match us, ws, l1, l2 with | [_], [_], _, _ => rfl
set_option maxHeartbeats 2000000 in
theorem bd_Track_length (T : Txt w.params K mg) : BodyD P w K mg base "Track.length" sTrack_length T.Track_length.f ["self"] 0 (B_Track_length T.C) := by
  intro cdv A outer s H E hr
  have hu := hu100 hr
  have hu64 := hu64_of hr
  have hu1 := hu1_of hr
  unfold B_Track_length
  exact ⟨_, fun M0 P0 H0 => (b_one (s_ret (d_fld (dv 0) T.cl T.n_length)))⟩
theorem ok_Track_length (T : Txt w.params K mg) : FnOk P w K mg base CX0 1 T.Track_length.f T.Track_length.fd ["self"] (spF K 1 (F_Track_length T.C)) := okF T.Track_length.F scTrack_length rfl rfl (bd_Track_length T)
set_option maxHeartbeats 2000000 in
theorem bd_Track_passes (T : Txt w.params K mg) : BodyD P w K mg base "Track.passes" sTrack_passes T.Track_passes.f ["self"] 0 (B_Track_passes T.C) := by
  intro cdv A outer s H E hr
  have hu := hu100 hr
  have hu64 := hu64_of hr
  have hu1 := hu1_of hr
  unfold B_Track_passes
  exact ⟨_, fun M0 P0 H0 => (b_one (s_ret (d_fld (dv 0) T.cl T.n_passes)))⟩
theorem ok_Track_passes (T : Txt w.params K mg) : FnOk P w K mg base CX0 1 T.Track_passes.f T.Track_passes.fd ["self"] (spF K 1 (F_Track_passes T.C)) := okF T.Track_passes.F scTrack_passes rfl rfl (bd_Track_passes T)
set_option maxHeartbeats 2000000 in
theorem bd_row_of (T : Txt w.params K mg) : BodyD P w K mg base "row_of" srow_of T.row_of.f ["one_pass", "name", "mode", "first", "last", "touches", "glide", "tail", "words", "a", "b"] 0 (B_row_of T.C) := by
  intro cdv A outer s H E hr
  have hu := hu100 hr
  have hu64 := hu64_of hr
  have hu1 := hu1_of hr
  unfold B_row_of
  exact ⟨_, fun M0 P0 H0 => (b_cons (s_asg (dv 0) (g_tup rfl (gs_cons (g_name (i := 1) scrow_of.nd rfl (Or.inl rfl)) (gs_cons (g_name (i := 2) scrow_of.nd rfl (Or.inl rfl)) (gs_cons (g_name (i := 3) scrow_of.nd rfl (Or.inl rfl)) (gs_cons (g_name (i := 4) scrow_of.nd rfl (Or.inl rfl)) (gs_cons (g_name (i := 5) scrow_of.nd rfl (Or.inl rfl)) (gs_cons (g_name (i := 6) scrow_of.nd rfl (Or.inl rfl)) (gs_cons (g_name (i := 7) scrow_of.nd rfl (Or.inl rfl)) gs_nil)))))))))
      (b_cons (s_set (i := 8) scrow_of.nd rfl (Or.inl rfl) (DN.e (d_lst (d_acons d_str (d_acons (dv 1) (d_acons (dv 2) (d_acons (d_cty call_STR T.z_str (by decide +kernel) (d_acons (dv 3) d_anil)) (d_acons (d_cty call_STR T.z_str (by decide +kernel) (d_acons (dv 4) d_anil)) (d_acons (d_cty call_STR T.z_str (by decide +kernel) (d_acons (dv 6) d_anil)) (d_acons (dv 7) d_anil))))))))))
      (b_one (s_ret (d_join d_str (d_op op_ADD (dv 8) (DN.e (d_lc (own := [("a", 9), ("b", 10)]) rfl scrow_of.nd (i_tup (dv 5)) (blkOk_by (N := ["one_pass", "name", "mode", "first", "last", "touches", "glide", "tail", "words", "a", "b"]) (sc := defScope srow_of) (by decide +kernel)) (own_tu (own_con (own_nam (by decide)) (own_con (own_nam (by decide)) own_ni))).1 ⟨fun _ _ _ _ _ => (g_tup rfl (gs_cons (g_name (i := 9) scrow_of.nd rfl (Or.inl rfl)) (gs_cons (g_name (i := 10) scrow_of.nd rfl (Or.inl rfl)) gs_nil))), fun _ _ _ _ _ => t_nil, fun _ _ _ _ _ => (d_fs (DJ.cons (d_fmt (dv 9)) (DJ.cons d_str (DJ.cons (d_fmt (dv 10)) DJ.nil))))⟩))))))))⟩
theorem ok_row_of (T : Txt w.params K mg) : FnOk P w K mg base CX0 1 T.row_of.f T.row_of.fd ["one_pass"] (spF K 1 (F_row_of T.C)) := okF T.row_of.F scrow_of rfl rfl (bd_row_of T)
set_option maxHeartbeats 2000000 in
theorem bd_rows_of (T : Txt w.params K mg) : BodyD P w K mg base "rows_of" srows_of T.rows_of.f ["length", "passes", "one"] 1 (B_rows_of T.C) := by
  intro cdv A outer s H E hr
  have hu := hu100 hr
  have hu64 := hu64_of hr
  have hu1 := hu1_of hr
  unfold B_rows_of
  exact ⟨_, fun M0 P0 H0 => (b_one (s_ret (d_op op_ADD (DN.e (d_lst (d_acons (d_fs (DJ.cons d_str (DJ.cons (d_fmt (dv 0)) DJ.nil))) d_anil))) (DN.e (d_lc (own := [("one", 2)]) rfl scrows_of.nd (i_tup (dv 1)) (blkOk_by (N := ["length", "passes", "one"]) (sc := defScope srows_of) (by decide +kernel)) (own_nam (by decide)).1 ⟨fun _ _ _ _ _ => (g_name (i := 2) scrows_of.nd rfl (Or.inl rfl)), fun _ _ _ _ _ => t_nil, fun _ _ _ _ _ => (d_call (ok_row_of T) takesF (hr.mono (by decide)) T.row_of.g T.row_of.F.kp T.row_of.b (d_acons (dv 2) d_anil))⟩)))))⟩
theorem ok_rows_of (T : Txt w.params K mg) : FnOk P w K mg base CX0 2 T.rows_of.f T.rows_of.fd ["length", "passes"] (spF K 2 (F_rows_of T.C)) := okF T.rows_of.F scrows_of rfl rfl (bd_rows_of T)
set_option maxHeartbeats 2000000 in
theorem bd_Track_str (T : Txt w.params K mg) : BodyD P w K mg base "Track.__str__" sTrack_str T.Track_str.f ["self"] 2 (B_Track_str T.C) := by
  intro cdv A outer s H E hr
  have hu := hu100 hr
  have hu64 := hu64_of hr
  have hu1 := hu1_of hr
  unfold B_Track_str
  exact ⟨_, fun M0 P0 H0 => (b_one (s_ret (d_join d_str (d_call (ok_rows_of T) takesF (hr.mono (by decide)) T.rows_of.g T.rows_of.F.kp T.rows_of.b (d_acons (d_fld (dv 0) T.cl T.n_length) (d_acons (d_fld (dv 0) T.cl T.n_passes) d_anil))))))⟩
theorem ok_Track_str (T : Txt w.params K mg) : FnOk P w K mg base CX0 3 T.Track_str.f T.Track_str.fd ["self"] (spF K 1 (F_Track_str T.C)) := okF T.Track_str.F scTrack_str rfl rfl (bd_Track_str T)
set_option maxHeartbeats 2000000 in
theorem bd_law_draw (T : Txt w.params K mg) : BodyD P w K mg base "_law_draw" slaw_draw T.law_draw.f ["purse", "size", "seed", "by", "digit"] 0 (B_law_draw T.C) := by
  intro cdv A outer s H E hr
  have hu := hu100 hr
  have hu64 := hu64_of hr
  have hu1 := hu1_of hr
  unfold B_law_draw
  exact ⟨_, fun M0 P0 H0 => (b_cons (s_par (i := 2) (j := 3) rfl sclaw_draw.nd rfl rfl (by decide) rfl rfl (f_dat (d_ixV 0 d_int (fun _ _ => rfl)) (f_dat (d_op op_ADD (d_op op_MOD (d_cty call_INT T.z_int (by decide +kernel) (d_acons (d_ixV 0 d_int (fun _ _ => rfl)) d_anil)) d_int) d_int) f_nil)) (by rfl))
      (b_cons (s_asg (d_op op_ADD (d_ixV 0 d_int (fun _ _ => rfl)) d_int) (g_put 0 d_int))
      (b_cons (s_asg (d_op op_MOD (d_cty call_INT T.z_int (by decide +kernel) (d_acons (d_op op_ADD (d_op op_ADD (d_op op_MUL (dv 2) (dv 3)) (d_op op_MUL d_int (d_ixV 0 d_int (fun _ _ => rfl)))) d_int) d_anil)) d_int) (g_put 0 d_int))
      (b_cons (s_if (d_tcmp op_GT (d_ixV 0 d_int (fun _ _ => rfl)) d_int (nomark _)) (b_cons (s_asg (d_blt call_DIVMOD T.z_divmod (by decide +kernel) (d_acons (d_ixV 0 d_int (fun _ _ => rfl)) (d_acons (dv 1) d_anil))) (g_tup rfl (gs_cons (g_put 0 d_int) (gs_cons (g_name (i := 4) sclaw_draw.nd rfl (Or.inl rfl)) gs_nil))))
      (b_one (s_ret (dv 4)))) b_nil)
      (b_one (s_ret (d_op op_MOD (d_cty call_INT T.z_int (by decide +kernel) (d_acons (d_op op_DIV (d_ixV 0 d_int (fun _ _ => rfl)) d_int) d_anil)) (dv 1))))))))⟩
theorem ok_law_draw (T : Txt w.params K mg) : FnOk P w K mg base CX0 1 T.law_draw.f T.law_draw.fd ["purse", "size"] (spO K 2 (F_law_draw T.C)) := okO T.law_draw.F sclaw_draw rfl rfl (bd_law_draw T)
set_option maxHeartbeats 2000000 in
theorem bd_law_pick (T : Txt w.params K mg) : BodyD P w K mg base "_law_pick" slaw_pick T.law_pick.f ["purse", "menu"] 1 (B_law_pick T.C) := by
  intro cdv A outer s H E hr
  have hu := hu100 hr
  have hu64 := hu64_of hr
  have hu1 := hu1_of hr
  unfold B_law_pick
  exact ⟨_, fun M0 P0 H0 => (b_one (s_ret (d_ix (dv 1) (d_callO 0 (ok_law_draw T) takesO (hr.mono (by decide)) T.law_draw.g T.law_draw.F.kp T.law_draw.b (d_acons (d_blt call_LEN T.z_len (by decide +kernel) (d_acons (dv 1) d_anil)) d_anil)) (fun _ _ => rfl))))⟩
theorem ok_law_pick (T : Txt w.params K mg) : FnOk P w K mg base CX0 2 T.law_pick.f T.law_pick.fd ["purse", "menu"] (spO K 2 (F_law_pick T.C)) := okO T.law_pick.F sclaw_pick rfl rfl (bd_law_pick T)
set_option maxHeartbeats 2000000 in
theorem bd_law_long (T : Txt w.params K mg) : BodyD P w K mg base "_law_long" slaw_long T.law_long.f ["purse"] 2 (B_law_long T.C) := by
  intro cdv A outer s H E hr
  have hu := hu100 hr
  have hu64 := hu64_of hr
  have hu1 := hu1_of hr
  unfold B_law_long
  exact ⟨_, fun M0 P0 H0 => (b_one (s_ret (d_callO 0 (ok_law_pick T) takesO (hr.mono (by decide)) T.law_pick.g T.law_pick.F.kp T.law_pick.b (d_acons (DN.e (d_lst (d_acons d_int (d_acons d_int (d_acons d_int (d_acons d_int (d_acons (d_op op_ADD d_int (d_callO 0 (ok_law_draw T) takesO (hr.mono (by decide)) T.law_draw.g T.law_draw.F.kp T.law_draw.b (d_acons d_int d_anil))) (d_acons d_int (d_acons (d_op op_POW d_int d_int) (d_acons (d_op op_SUB (d_op op_POW d_int d_int) d_int) d_anil)))))))))) d_anil))))⟩
theorem ok_law_long (T : Txt w.params K mg) : FnOk P w K mg base CX0 3 T.law_long.f T.law_long.fd ["purse"] (spO K 1 (F_law_long T.C)) := okO T.law_long.F sclaw_long rfl rfl (bd_law_long T)
set_option maxHeartbeats 2000000 in
theorem bd_law_words (T : Txt w.params K mg) : BodyD P w K mg base "_law_words" slaw_words T.law_words.f ["purse", "some", "at"] 1 (B_law_words T.C) := by
  intro cdv A outer s H E hr
  have hu := hu100 hr
  have hu64 := hu64_of hr
  have hu1 := hu1_of hr
  unfold B_law_words
  exact ⟨_, fun M0 P0 H0 => (b_cons (s_set (i := 1) sclaw_words.nd rfl (Or.inl rfl) (DN.e (d_lst (d_acons d_str (d_acons d_str (d_acons d_str (d_acons d_str (d_acons d_str (d_acons d_str (d_acons d_str (d_acons d_str (d_acons d_str (d_acons d_str (d_acons d_str (d_acons d_str (d_acons d_str (d_acons d_str d_anil)))))))))))))))))
      (b_cons (s_set (i := 2) sclaw_words.nd rfl (Or.inl rfl) (d_callO 0 (ok_law_draw T) takesO (hr.mono (by decide)) T.law_draw.g T.law_draw.F.kp T.law_draw.b (d_acons (d_blt call_LEN T.z_len (by decide +kernel) (d_acons (dv 1) d_anil)) d_anil)))
      (b_one (s_ret (d_sl (d_op op_ADD (d_sl (dv 1) (d_part (dv 2)) d_no) (d_sl (dv 1) d_no (d_part (dv 2)))) d_no (d_part d_int))))))⟩
theorem ok_law_words (T : Txt w.params K mg) : FnOk P w K mg base CX0 2 T.law_words.f T.law_words.fd ["purse"] (spO K 1 (F_law_words T.C)) := okO T.law_words.F sclaw_words rfl rfl (bd_law_words T)
set_option maxHeartbeats 2000000 in
theorem bd_law_touches (T : Txt w.params K mg) : BodyD P w K mg base "_law_touches" slaw_touches T.law_touches.f ["purse", "first", "last", "many", "wide", "found", "at", "k", "a", "b"] 2 (B_law_touches T.C) := by
  intro cdv A outer s H E hr
  have hu := hu100 hr
  have hu64 := hu64_of hr
  have hu1 := hu1_of hr
  unfold B_law_touches
  exact ⟨_, fun M0 P0 H0 => (b_cons (s_par (i := 5) (j := 6) rfl sclaw_touches.nd rfl rfl (by decide) rfl rfl (f_new (d_lst d_anil) (f_dat (dv 1) f_nil)) (by rfl))
      (b_cons (s_for PassesOwn.never rfl (i_rng1 T.z_range (d_acons (dv 3) d_anil)) (g_name (i := 7) sclaw_touches.nd rfl (Or.inl rfl)) (b_cons (s_set (i := 8) sclaw_touches.nd rfl (Or.inl rfl) (d_op op_ADD (dv 6) (d_op op_MUL (d_callO 0 (ok_law_draw T) takesO (hr.mono (by decide)) T.law_draw.g T.law_draw.F.kp T.law_draw.b (d_acons d_int d_anil)) (d_callO 0 (ok_law_pick T) takesO (hr.mono (by decide)) T.law_pick.g T.law_pick.F.kp T.law_pick.b (d_acons (DN.e (d_lst (d_acons d_int (d_acons d_int (d_acons (dv 4) d_anil))))) d_anil)))))
      (b_cons (s_set (i := 9) sclaw_touches.nd rfl (Or.inl rfl) (d_op op_ADD (d_op op_ADD (dv 8) d_int) (d_op op_MUL (d_callO 0 (ok_law_draw T) takesO (hr.mono (by decide)) T.law_draw.g T.law_draw.F.kp T.law_draw.b (d_acons d_int d_anil)) (d_callO 0 (ok_law_pick T) takesO (hr.mono (by decide)) T.law_pick.g T.law_pick.F.kp T.law_pick.b (d_acons (DN.e (d_lst (d_acons d_int (d_acons d_int (d_acons (dv 4) d_anil))))) d_anil)))))
      (b_one (s_if (d_tcmp op_LE (dv 9) (dv 2) (nomark _)) (b_cons (s_app 5 (d_tup (d_acons (dv 8) (d_acons (dv 9) d_anil))))
      (b_one (s_set (i := 6) sclaw_touches.nd rfl (Or.inl rfl) (d_op op_ADD (dv 9) d_int)))) b_nil)))))
      (b_one (s_ret (d_cty call_TUPLE T.z_tuple (by decide +kernel) (d_acons (dv 5) d_anil))))))⟩
theorem ok_law_touches (T : Txt w.params K mg) : FnOk P w K mg base CX0 3 T.law_touches.f T.law_touches.fd ["purse", "first", "last", "many", "wide"] (spO K 5 (F_law_touches T.C)) := okO T.law_touches.F sclaw_touches rfl rfl (bd_law_touches T)
set_option maxHeartbeats 2000000 in
theorem bd_law_wide (T : Txt w.params K mg) : BodyD P w K mg base "_law_wide" slaw_wide T.law_wide.f ["purse", "size"] 1 (B_law_wide T.C) := by
  intro cdv A outer s H E hr
  have hu := hu100 hr
  have hu64 := hu64_of hr
  have hu1 := hu1_of hr
  unfold B_law_wide
  exact ⟨_, fun M0 P0 H0 => (b_one (s_ret (d_op op_MOD (d_cty call_INT T.z_int (by decide +kernel) (d_acons (d_op op_ADD (d_op op_MUL (d_callO 0 (ok_law_draw T) takesO (hr.mono (by decide)) T.law_draw.g T.law_draw.F.kp T.law_draw.b (d_acons (d_op op_POW d_int d_int) d_anil)) (d_op op_POW d_int d_int)) (d_callO 0 (ok_law_draw T) takesO (hr.mono (by decide)) T.law_draw.g T.law_draw.F.kp T.law_draw.b (d_acons (d_op op_POW d_int d_int) d_anil))) d_anil)) (dv 1))))⟩
theorem ok_law_wide (T : Txt w.params K mg) : FnOk P w K mg base CX0 2 T.law_wide.f T.law_wide.fd ["purse", "size"] (spO K 2 (F_law_wide T.C)) := okO T.law_wide.F sclaw_wide rfl rfl (bd_law_wide T)
set_option maxHeartbeats 2000000 in
theorem bd_law_fader (T : Txt w.params K mg) : BodyD P w K mg base "_law_fader" slaw_fader T.law_fader.f ["purse", "word", "long", "first", "some", "k", "last", "wide", "marks", "mode", "slide", "tail"] 3 (B_law_fader T.C) := by
  intro cdv A outer s H E hr
  have hu := hu100 hr
  have hu64 := hu64_of hr
  have hu1 := hu1_of hr
  unfold B_law_fader
  exact ⟨_, fun M0 P0 H0 => (b_cons (s_set (i := 3) sclaw_fader.nd rfl (Or.inr rfl) (d_callO 0 (ok_law_pick T) takesO (hr.mono (by decide)) T.law_pick.g T.law_pick.F.kp T.law_pick.b (d_acons (DN.e (d_lst (d_acons d_int (d_acons (d_callO 0 (ok_law_wide T) takesO (hr.mono (by decide)) T.law_wide.g T.law_wide.F.kp T.law_wide.b (d_acons (dv 2) d_anil)) (d_acons (d_callO 0 (ok_law_wide T) takesO (hr.mono (by decide)) T.law_wide.g T.law_wide.F.kp T.law_wide.b (d_acons (dv 2) d_anil)) d_anil))))) d_anil)))
      (b_cons (s_set (i := 4) sclaw_fader.nd rfl (Or.inl rfl) (d_op op_ADD (DN.e (d_lst (d_acons (dv 2) d_anil))) (DN.e (d_lc (own := [("k", 5)]) rfl sclaw_fader.nd (i_rng1 T.z_range (d_acons d_int d_anil)) (blkOk_by (N := ["purse", "word", "long", "first", "some", "k", "last", "wide", "marks", "mode", "slide", "tail"]) (sc := defScope slaw_fader) (by decide +kernel)) (own_nam (by decide)).1 ⟨fun _ _ _ _ _ => (g_name (i := 5) sclaw_fader.nd rfl (Or.inl rfl)), fun _ _ _ _ _ => t_nil, fun _ _ _ _ _ => (d_op op_ADD (d_op op_ADD (dv 3) d_int) (d_callO 0 (ok_law_wide T) takesO (hr.mono (by decide)) T.law_wide.g T.law_wide.F.kp T.law_wide.b (d_acons (d_op op_SUB (dv 2) (dv 3)) d_anil)))⟩))))
      (b_cons (s_set (i := 6) sclaw_fader.nd rfl (Or.inl rfl) (d_callO 0 (ok_law_pick T) takesO (hr.mono (by decide)) T.law_pick.g T.law_pick.F.kp T.law_pick.b (d_acons (dv 4) d_anil)))
      (b_cons (s_set (i := 7) sclaw_fader.nd rfl (Or.inl rfl) (d_callO 0 (ok_law_pick T) takesO (hr.mono (by decide)) T.law_pick.g T.law_pick.F.kp T.law_pick.b (d_acons (DN.e (d_lst (d_acons d_int (d_acons d_int (d_acons (d_blt (call_MAX rfl) T.z_max (by decide +kernel) (d_acons d_int (d_acons (d_op op_DIV (d_op op_SUB (dv 6) (dv 3)) d_int) d_anil))) d_anil))))) d_anil)))
      (b_cons (s_set (i := 8) sclaw_fader.nd rfl (Or.inl rfl) (d_callO 0 (ok_law_touches T) takesO (hr.mono (by decide)) T.law_touches.g T.law_touches.F.kp T.law_touches.b (d_acons (dv 3) (d_acons (dv 6) (d_acons (d_callO 0 (ok_law_draw T) takesO (hr.mono (by decide)) T.law_draw.g T.law_draw.F.kp T.law_draw.b (d_acons d_int d_anil)) (d_acons (dv 7) d_anil))))))
      (b_cons (s_set (i := 9) sclaw_fader.nd rfl (Or.inl rfl) (d_callO 0 (ok_law_pick T) takesO (hr.mono (by decide)) T.law_pick.g T.law_pick.F.kp T.law_pick.b (d_acons (DN.e (d_lst (d_acons d_str (d_acons d_str (d_acons d_str (d_acons d_str (d_acons d_str d_anil))))))) d_anil)))
      (b_cons (s_par (i := 10) (j := 11) rfl sclaw_fader.nd rfl rfl (by decide) rfl rfl (f_dat (d_callO 0 (ok_law_pick T) takesO (hr.mono (by decide)) T.law_pick.g T.law_pick.F.kp T.law_pick.b (d_acons (DN.e (d_lst (d_acons d_int (d_acons d_int (d_acons d_int (d_acons d_int (d_acons d_int (d_acons d_int (d_acons d_int d_anil))))))))) d_anil)) (f_dat (d_callO 0 (ok_law_pick T) takesO (hr.mono (by decide)) T.law_pick.g T.law_pick.F.kp T.law_pick.b (d_acons (DN.e (d_lst (d_acons d_str (d_acons d_str (d_acons d_str d_anil))))) d_anil)) f_nil)) (by rfl))
      (b_one (s_ret (d_tup (d_acons (dv 1) (d_acons (dv 9) (d_acons (dv 3) (d_acons (dv 6) (d_acons (dv 8) (d_acons (dv 10) (d_acons (dv 11) d_anil)))))))))))))))))⟩
theorem ok_law_fader (T : Txt w.params K mg) : FnOk P w K mg base CX0 4 T.law_fader.f T.law_fader.fd ["purse", "word", "long"] (spO K 3 (F_law_fader T.C)) := okO T.law_fader.F sclaw_fader rfl rfl (bd_law_fader T)
set_option maxHeartbeats 2000000 in
theorem bd_law_faders (T : Txt w.params K mg) : BodyD P w K mg base "_law_faders" slaw_faders T.law_faders.f ["purse", "long", "many", "words", "k"] 4 (B_law_faders T.C) := by
  intro cdv A outer s H E hr
  have hu := hu100 hr
  have hu64 := hu64_of hr
  have hu1 := hu1_of hr
  unfold B_law_faders
  exact ⟨_, fun M0 P0 H0 => (b_cons (s_set (i := 3) sclaw_faders.nd rfl (Or.inr rfl) (d_callO 0 (ok_law_words T) takesO (hr.mono (by decide)) T.law_words.g T.law_words.F.kp T.law_words.b d_anil))
      (b_one (s_ret (d_cty call_TUPLE T.z_tuple (by decide +kernel) (d_acons (DN.e (d_lc (own := [("k", 4)]) rfl sclaw_faders.nd (i_rng1 T.z_range (d_acons (d_callO 0 (ok_law_draw T) takesO (hr.mono (by decide)) T.law_draw.g T.law_draw.F.kp T.law_draw.b (d_acons (d_op op_ADD (dv 2) d_int) d_anil)) d_anil)) (blkOk_by (N := ["purse", "long", "many", "words", "k"]) (sc := defScope slaw_faders) (by decide +kernel)) (own_nam (by decide)).1 ⟨fun _ _ _ _ _ => (g_name (i := 4) sclaw_faders.nd rfl (Or.inl rfl)), fun _ _ _ _ _ => t_nil, fun _ _ _ _ _ => (d_callO 0 (ok_law_fader T) takesO (hr.mono (by decide)) T.law_fader.g T.law_fader.F.kp T.law_fader.b (d_acons (d_ix (dv 3) (dv 4) (fun _ _ => rfl)) (d_acons (dv 1) d_anil)))⟩)) d_anil)))))⟩
theorem ok_law_faders (T : Txt w.params K mg) : FnOk P w K mg base CX0 5 T.law_faders.f T.law_faders.fd ["purse", "long", "many"] (spO K 3 (F_law_faders T.C)) := okO T.law_faders.F sclaw_faders rfl rfl (bd_law_faders T)
set_option maxHeartbeats 2000000 in
theorem bd_is_integer (T : Txt w.params K mg) : BodyD P w K mg base "is_integer" sis_integer T.is_integer.f ["value"] 0 (B_is_integer T.C) := by
  intro cdv A outer s H E hr
  have hu := hu100 hr
  have hu64 := hu64_of hr
  have hu1 := hu1_of hr
  unfold B_is_integer
  exact ⟨_, fun M0 P0 H0 => (b_one (s_ret (d_andV (d_blt call_ISIT T.z_isinstance (by decide +kernel) (d_acons (dv 0) (d_acons (d_ty T.z_int (by decide +kernel)) d_anil))) (d_one (d_notV (d_blt call_ISIT T.z_isinstance (by decide +kernel) (d_acons (dv 0) (d_acons (d_ty T.z_bool (by decide +kernel)) d_anil))))))))⟩
theorem ok_is_integer (T : Txt w.params K mg) : FnOk P w K mg base CX0 1 T.is_integer.f T.is_integer.fd ["value"] (spF K 1 (F_is_integer T.C)) := okF T.is_integer.F scis_integer rfl rfl (bd_is_integer T)
set_option maxHeartbeats 2000000 in
theorem bd_is_between (T : Txt w.params K mg) : BodyD P w K mg base "is_between" sis_between T.is_between.f ["value", "low", "high"] 1 (B_is_between T.C) := by
  intro cdv A outer s H E hr
  have hu := hu100 hr
  have hu64 := hu64_of hr
  have hu1 := hu1_of hr
  unfold B_is_between
  exact ⟨_, fun M0 P0 H0 => (b_one (s_ret (d_andV (d_call (ok_is_integer T) takesF (hr.mono (by decide)) T.is_integer.g T.is_integer.F.kp T.is_integer.b (d_acons (dv 0) d_anil)) (d_one (d_chain op_LE op_LE (dv 1) (dv 0) (dv 2))))))⟩
theorem ok_is_between (T : Txt w.params K mg) : FnOk P w K mg base CX0 2 T.is_between.f T.is_between.fd ["value", "low", "high"] (spF K 3 (F_is_between T.C)) := okF T.is_between.F scis_between rfl rfl (bd_is_between T)
set_option maxHeartbeats 2000000 in
theorem bd_is_stretch (T : Txt w.params K mg) : BodyD P w K mg base "is_stretch" sis_stretch T.is_stretch.f ["value", "low", "high"] 2 (B_is_stretch T.C) := by
  intro cdv A outer s H E hr
  have hu := hu100 hr
  have hu64 := hu64_of hr
  have hu1 := hu1_of hr
  unfold B_is_stretch
  exact ⟨_, fun M0 P0 H0 => (b_cons (s_if (DW.dt (d_or (d_not (d_tval (d_blt call_ISIT T.z_isinstance (by decide +kernel) (d_acons (dv 0) (d_acons (d_ty T.z_tuple (by decide +kernel)) d_anil))))) (d_or1 (d_tcmp (op_NE hu64) (d_blt call_LEN T.z_len (by decide +kernel) (d_acons (dv 0) d_anil)) d_int (nomark _))))) (b_one (s_ret d_bl)) b_nil)
      (b_one (s_ret (d_andV (d_call (ok_is_between T) takesF (hr.mono (by decide)) T.is_between.g T.is_between.F.kp T.is_between.b (d_acons (d_ix (dv 0) d_int (fun _ _ => rfl)) (d_acons (dv 1) (d_acons (dv 2) d_anil)))) (d_one (d_call (ok_is_between T) takesF (hr.mono (by decide)) T.is_between.g T.is_between.F.kp T.is_between.b (d_acons (d_ix (dv 0) d_int (fun _ _ => rfl)) (d_acons (d_op op_ADD (d_ix (dv 0) d_int (fun _ _ => rfl)) d_int) (d_acons (dv 2) d_anil)))))))))⟩
theorem ok_is_stretch (T : Txt w.params K mg) : FnOk P w K mg base CX0 3 T.is_stretch.f T.is_stretch.fd ["value", "low", "high"] (spF K 3 (F_is_stretch T.C)) := okF T.is_stretch.F scis_stretch rfl rfl (bd_is_stretch T)
set_option maxHeartbeats 2000000 in
theorem bd_are_touches (T : Txt w.params K mg) : BodyD P w K mg base "are_touches" sare_touches T.are_touches.f ["value", "first", "last", "low", "stretch"] 3 (B_are_touches T.C) := by
  intro cdv A outer s H E hr
  have hu := hu100 hr
  have hu64 := hu64_of hr
  have hu1 := hu1_of hr
  unfold B_are_touches
  exact ⟨_, fun M0 P0 H0 => (b_cons (s_if (DW.dt (d_or (d_not (d_tval (d_blt call_ISIT T.z_isinstance (by decide +kernel) (d_acons (dv 0) (d_acons (d_ty T.z_tuple (by decide +kernel)) d_anil))))) (d_or1 (d_tcmp op_GT (d_blt call_LEN T.z_len (by decide +kernel) (d_acons (dv 0) d_anil)) (d_gi T.c_MOST_TOUCHES) (nomark _))))) (b_one (s_ret d_bl)) b_nil)
      (b_cons (s_set (i := 3) scare_touches.nd rfl (Or.inl rfl) (dv 1))
      (b_cons (s_for PassesOwn.never rfl (i_tup (dv 0)) (g_name (i := 4) scare_touches.nd rfl (Or.inl rfl)) (b_cons (s_if (d_not (d_tval (d_call (ok_is_stretch T) takesF (hr.mono (by decide)) T.is_stretch.g T.is_stretch.F.kp T.is_stretch.b (d_acons (dv 4) (d_acons (dv 3) (d_acons (dv 2) d_anil)))))) (b_one (s_ret d_bl)) b_nil)
      (b_one (s_set (i := 3) scare_touches.nd rfl (Or.inl rfl) (d_op op_ADD (d_ix (dv 4) d_int (fun _ _ => rfl)) d_int)))))
      (b_one (s_ret d_bl)))))⟩
theorem ok_are_touches (T : Txt w.params K mg) : FnOk P w K mg base CX0 4 T.are_touches.f T.are_touches.fd ["value", "first", "last"] (spF K 3 (F_are_touches T.C)) := okF T.are_touches.F scare_touches rfl rfl (bd_are_touches T)
set_option maxHeartbeats 2000000 in
theorem bd_is_name (T : Txt w.params K mg) : BodyD P w K mg base "is_name" sis_name T.is_name.f ["value", "sign"] 0 (B_is_name T.C) := by
  intro cdv A outer s H E hr
  have hu := hu100 hr
  have hu64 := hu64_of hr
  have hu1 := hu1_of hr
  unfold B_is_name
  exact ⟨_, fun M0 P0 H0 => (b_cons (s_if (DW.dt (d_or (d_not (d_tval (d_blt call_ISIT T.z_isinstance (by decide +kernel) (d_acons (dv 0) (d_acons (d_ty T.z_str (by decide +kernel)) d_anil))))) (d_or1 (d_not (d_tchain op_LE op_LE d_int (d_blt call_LEN T.z_len (by decide +kernel) (d_acons (dv 0) d_anil)) (d_gi T.c_MOST_SIGNS)))))) (b_one (s_ret d_bl)) b_nil)
      (b_one (s_ret (d_andV (d_cmp (op_IN hu) (d_ix (dv 0) d_int (fun _ _ => rfl)) (d_gs T.c_LETTERS) (by rfl)) (d_one (d_blt (call_ALL rfl) T.z_all (by decide +kernel) (d_acons (DN.e (d_lc (own := [("sign", 1)]) rfl scis_name.nd (i_str (dv 0)) (blkOk_by (N := ["value", "sign"]) (sc := defScope sis_name) (by decide +kernel)) (own_nam (by decide)).1 ⟨fun _ _ _ _ _ => (g_name (i := 1) scis_name.nd rfl (Or.inl rfl)), fun _ _ _ _ _ => t_nil, fun _ _ _ _ _ => (d_cmp (op_IN hu) (dv 1) (d_op op_ADD (d_gs T.c_LETTERS) (d_gs T.c_DIGITS)) (by rfl))⟩)) d_anil)))))))⟩
theorem ok_is_name (T : Txt w.params K mg) : FnOk P w K mg base CX0 1 T.is_name.f T.is_name.fd ["value"] (spF K 1 (F_is_name T.C)) := okF T.is_name.F scis_name rfl rfl (bd_is_name T)
set_option maxHeartbeats 2000000 in
theorem bd_is_word (T : Txt w.params K mg) : BodyD P w K mg base "is_word" sis_word T.is_word.f ["value", "words"] 0 (B_is_word T.C) := by
  intro cdv A outer s H E hr
  have hu := hu100 hr
  have hu64 := hu64_of hr
  have hu1 := hu1_of hr
  unfold B_is_word
  exact ⟨_, fun M0 P0 H0 => (b_one (s_ret (d_andV (d_blt call_ISIT T.z_isinstance (by decide +kernel) (d_acons (dv 0) (d_acons (d_ty T.z_str (by decide +kernel)) d_anil))) (d_one (d_cmp (op_IN hu) (dv 0) (dv 1) (by rfl))))))⟩
theorem ok_is_word (T : Txt w.params K mg) : FnOk P w K mg base CX0 1 T.is_word.f T.is_word.fd ["value", "words"] (spF K 2 (F_is_word T.C)) := okF T.is_word.F scis_word rfl rfl (bd_is_word T)
set_option maxHeartbeats 2000000 in
theorem bd_is_pass (T : Txt w.params K mg) : BodyD P w K mg base "is_pass" sis_pass T.is_pass.f ["value", "length", "name", "mode", "first", "last", "touches", "glide", "tail"] 4 (B_is_pass T.C) := by
  intro cdv A outer s H E hr
  have hu := hu100 hr
  have hu64 := hu64_of hr
  have hu1 := hu1_of hr
  unfold B_is_pass
  exact ⟨_, fun M0 P0 H0 => (b_cons (s_if (DW.dt (d_or (d_not (d_tval (d_blt call_ISIT T.z_isinstance (by decide +kernel) (d_acons (dv 0) (d_acons (d_ty T.z_tuple (by decide +kernel)) d_anil))))) (d_or1 (d_tcmp (op_NE hu64) (d_blt call_LEN T.z_len (by decide +kernel) (d_acons (dv 0) d_anil)) (d_gi T.c_SIZE) (nomark _))))) (b_one (s_ret d_bl)) b_nil)
      (b_cons (s_asg (dv 0) (g_tup rfl (gs_cons (g_name (i := 2) scis_pass.nd rfl (Or.inl rfl)) (gs_cons (g_name (i := 3) scis_pass.nd rfl (Or.inl rfl)) (gs_cons (g_name (i := 4) scis_pass.nd rfl (Or.inl rfl)) (gs_cons (g_name (i := 5) scis_pass.nd rfl (Or.inl rfl)) (gs_cons (g_name (i := 6) scis_pass.nd rfl (Or.inl rfl)) (gs_cons (g_name (i := 7) scis_pass.nd rfl (Or.inl rfl)) (gs_cons (g_name (i := 8) scis_pass.nd rfl (Or.inl rfl)) gs_nil)))))))))
      (b_cons (s_if (DW.dt (d_or (d_not (d_tval (d_call (ok_is_name T) takesF (hr.mono (by decide)) T.is_name.g T.is_name.F.kp T.is_name.b (d_acons (dv 2) d_anil)))) (d_or1 (d_tcmp (op_EQ hu64) (dv 2) (d_gs T.c_OLD) (nomark _))))) (b_one (s_ret d_bl)) b_nil)
      (b_cons (s_if (DW.dt (d_or (d_not (d_tval (d_call (ok_is_word T) takesF (hr.mono (by decide)) T.is_word.g T.is_word.F.kp T.is_word.b (d_acons (dv 3) (d_acons (d_gtu T.c_MODES.g T.c_MODES.q (fun _ _ => (.cons (.str _) (.cons (.str _) (.cons (.str _) (.cons (.str _) .nil)))))) d_anil))))) (d_or1 (d_not (d_tval (d_call (ok_is_word T) takesF (hr.mono (by decide)) T.is_word.g T.is_word.F.kp T.is_word.b (d_acons (dv 8) (d_acons (d_gtu T.c_TAILS.g T.c_TAILS.q (fun _ _ => (.cons (.str _) (.cons (.str _) .nil)))) d_anil)))))))) (b_one (s_ret d_bl)) b_nil)
      (b_cons (s_if (d_not (d_tval (d_call (ok_is_stretch T) takesF (hr.mono (by decide)) T.is_stretch.g T.is_stretch.F.kp T.is_stretch.b (d_acons (d_tup (d_acons (dv 4) (d_acons (dv 5) d_anil))) (d_acons d_int (d_acons (dv 1) d_anil)))))) (b_one (s_ret d_bl)) b_nil)
      (b_one (s_ret (d_andV (d_call (ok_are_touches T) takesF (hr.mono (by decide)) T.are_touches.g T.are_touches.F.kp T.are_touches.b (d_acons (dv 6) (d_acons (dv 4) (d_acons (dv 5) d_anil)))) (d_one (d_call (ok_is_between T) takesF (hr.mono (by decide)) T.is_between.g T.is_between.F.kp T.is_between.b (d_acons (dv 7) (d_acons d_int (d_acons (d_gi T.c_MOST_GLIDE) d_anil)))))))))))))⟩
theorem ok_is_pass (T : Txt w.params K mg) : FnOk P w K mg base CX0 5 T.is_pass.f T.is_pass.fd ["value", "length"] (spF K 2 (F_is_pass T.C)) := okF T.is_pass.F scis_pass rfl rfl (bd_is_pass T)
set_option maxHeartbeats 2000000 in
theorem bd_first_wrong (T : Txt w.params K mg) : BodyD P w K mg base "first_wrong" sfirst_wrong T.first_wrong.f ["passes", "length", "names", "at", "one"] 5 (B_first_wrong T.C) := by
  intro cdv A outer s H E hr
  have hu := hu100 hr
  have hu64 := hu64_of hr
  have hu1 := hu1_of hr
  unfold B_first_wrong
  exact ⟨_, fun M0 P0 H0 => (b_cons (s_setN (i := 2) scfirst_wrong.nd rfl (Or.inl rfl) (d_lst d_anil))
      (b_cons (s_for PassesOwn.never rfl (i_enumT T.z_enumerate (d_acons (dv 0) d_anil)) (g_tup rfl (gs_cons (g_name (i := 3) scfirst_wrong.nd rfl (Or.inl rfl)) (gs_cons (g_name (i := 4) scfirst_wrong.nd rfl (Or.inl rfl)) gs_nil))) (b_cons (s_if (DW.dt (d_or (d_tcmp op_GE (dv 3) (d_gi T.c_MOST_PASSES) (nomark _)) (d_or (d_not (d_tval (d_call (ok_is_pass T) takesF (hr.mono (by decide)) T.is_pass.g T.is_pass.F.kp T.is_pass.b (d_acons (dv 4) (d_acons (dv 1) d_anil))))) (d_or1 (d_tcmpRt 2 (op_IN hu) (d_ix (dv 4) d_int (fun _ _ => rfl)) (by rfl)))))) (b_one (s_ret (dv 3))) b_nil)
      (b_one (s_app 2 (d_ix (dv 4) d_int (fun _ _ => rfl))))))
      (b_one (s_ret d_non))))⟩
theorem ok_first_wrong (T : Txt w.params K mg) : FnOk P w K mg base CX0 6 T.first_wrong.f T.first_wrong.fd ["passes", "length"] (spF K 2 (F_first_wrong T.C)) := okF T.first_wrong.F scfirst_wrong rfl rfl (bd_first_wrong T)
set_option maxHeartbeats 2000000 in
theorem bd_is_length (T : Txt w.params K mg) : BodyD P w K mg base "is_length" sis_length T.is_length.f ["value"] 2 (B_is_length T.C) := by
  intro cdv A outer s H E hr
  have hu := hu100 hr
  have hu64 := hu64_of hr
  have hu1 := hu1_of hr
  unfold B_is_length
  exact ⟨_, fun M0 P0 H0 => (b_one (s_ret (d_call (ok_is_between T) takesF (hr.mono (by decide)) T.is_between.g T.is_between.F.kp T.is_between.b (d_acons (dv 0) (d_acons d_int (d_acons (d_gi T.c_MOST_LENGTH) d_anil))))))⟩
theorem ok_is_length (T : Txt w.params K mg) : FnOk P w K mg base CX0 3 T.is_length.f T.is_length.fd ["value"] (spF K 1 (F_is_length T.C)) := okF T.is_length.F scis_length rfl rfl (bd_is_length T)
set_option maxHeartbeats 2000000 in
theorem bd_Track_init (T : Txt w.params K mg) : BodyD P w K mg base "Track.__init__" sTrack_init T.Track_init.f ["self", "length", "passes", "wrong"] 6 (B_Track_init T.C) := by
  intro cdv A outer s H E hr
  have hu := hu100 hr
  have hu64 := hu64_of hr
  have hu1 := hu1_of hr
  unfold B_Track_init
  exact ⟨_, fun M0 P0 H0 => (b_cons (s_if (d_not (d_tval (d_call (ok_is_length T) takesF (hr.mono (by decide)) T.is_length.g T.is_length.F.kp T.is_length.b (d_acons (dv 1) d_anil)))) (b_one (s_never)) b_nil)
      (b_cons (s_if (d_not (d_tval (d_blt call_ISIT T.z_isinstance (by decide +kernel) (d_acons (dv 2) (d_acons (d_ty T.z_tuple (by decide +kernel)) d_anil))))) (b_one (s_never)) b_nil)
      (b_cons (s_set (i := 3) scTrack_init.nd rfl (Or.inl rfl) (d_call (ok_first_wrong T) takesF (hr.mono (by decide)) T.first_wrong.g T.first_wrong.F.kp T.first_wrong.b (d_acons (dv 2) (d_acons (dv 1) d_anil))))
      (b_cons (s_if (d_tcmp op_ISNOT (dv 3) d_non (nomark _)) (b_one (s_never)) b_nil)
      (b_cons (s_fld 0 T.cl T.n_length (dv 1))
      (b_one (s_fld 0 T.cl T.n_passes (dv 2))))))))⟩
theorem ok_Track_init (T : Txt w.params K mg) : FnOk P w K mg base CX0 7 T.Track_init.f T.Track_init.fd ["self", "length", "passes"] (spO K 3 (F_Track_init T.C)) := okOD T.Track_init.F scTrack_init rfl rfl (bd_Track_init T)
set_option maxHeartbeats 2000000 in
theorem bd_law_said (T : Txt w.params K mg) : BodyD P w K mg base "_law_said" slaw_said T.law_said.f ["some", "found", "word", "mode", "first", "last", "marks", "slide", "tail", "row", "a", "b"] 0 (B_law_said T.C) := by
  intro cdv A outer s H E hr
  have hu := hu100 hr
  have hu64 := hu64_of hr
  have hu1 := hu1_of hr
  unfold B_law_said
  exact ⟨_, fun M0 P0 H0 => (b_cons (s_setN (i := 1) sclaw_said.nd rfl (Or.inl rfl) (d_lst d_anil))
      (b_cons (s_for PassesOwn.never rfl (i_tup (dv 0)) (g_tup rfl (gs_cons (g_name (i := 2) sclaw_said.nd rfl (Or.inl rfl)) (gs_cons (g_name (i := 3) sclaw_said.nd rfl (Or.inl rfl)) (gs_cons (g_name (i := 4) sclaw_said.nd rfl (Or.inl rfl)) (gs_cons (g_name (i := 5) sclaw_said.nd rfl (Or.inl rfl)) (gs_cons (g_name (i := 6) sclaw_said.nd rfl (Or.inl rfl)) (gs_cons (g_name (i := 7) sclaw_said.nd rfl (Or.inl rfl)) (gs_cons (g_name (i := 8) sclaw_said.nd rfl (Or.inl rfl)) gs_nil)))))))) (b_cons (s_set (i := 9) sclaw_said.nd rfl (Or.inl rfl) (DN.e (d_lst (d_acons d_str (d_acons (dv 2) (d_acons (dv 3) (d_acons (d_cty call_STR T.z_str (by decide +kernel) (d_acons (dv 4) d_anil)) (d_acons (d_cty call_STR T.z_str (by decide +kernel) (d_acons (dv 5) d_anil)) (d_acons (d_cty call_STR T.z_str (by decide +kernel) (d_acons (dv 7) d_anil)) (d_acons (dv 8) d_anil))))))))))
      (b_one (s_app 1 (d_join d_str (d_op op_ADD (dv 9) (DN.e (d_lc (own := [("a", 10), ("b", 11)]) rfl sclaw_said.nd (i_tup (dv 6)) (blkOk_by (N := ["some", "found", "word", "mode", "first", "last", "marks", "slide", "tail", "row", "a", "b"]) (sc := defScope slaw_said) (by decide +kernel)) (own_tu (own_con (own_nam (by decide)) (own_con (own_nam (by decide)) own_ni))).1 ⟨fun _ _ _ _ _ => (g_tup rfl (gs_cons (g_name (i := 10) sclaw_said.nd rfl (Or.inl rfl)) (gs_cons (g_name (i := 11) sclaw_said.nd rfl (Or.inl rfl)) gs_nil))), fun _ _ _ _ _ => t_nil, fun _ _ _ _ _ => (d_op op_ADD (d_op op_ADD (d_cty call_STR T.z_str (by decide +kernel) (d_acons (dv 10) d_anil)) d_str) (d_cty call_STR T.z_str (by decide +kernel) (d_acons (dv 11) d_anil)))⟩))))))))
      (b_one (s_ret (dv 1)))))⟩
theorem ok_law_said (T : Txt w.params K mg) : FnOk P w K mg base CX0 1 T.law_said.f T.law_said.fd ["some"] (spF K 1 (F_law_said T.C)) := okF T.law_said.F sclaw_said rfl rfl (bd_law_said T)
set_option maxHeartbeats 2000000 in
theorem bd_law_text (T : Txt w.params K mg) : BodyD P w K mg base "_law_text" slaw_text T.law_text.f ["long", "some"] 1 (B_law_text T.C) := by
  intro cdv A outer s H E hr
  have hu := hu100 hr
  have hu64 := hu64_of hr
  have hu1 := hu1_of hr
  unfold B_law_text
  exact ⟨_, fun M0 P0 H0 => (b_one (s_ret (d_join d_str (d_op op_ADD (DN.e (d_lst (d_acons (d_op op_ADD d_str (d_cty call_STR T.z_str (by decide +kernel) (d_acons (dv 0) d_anil))) d_anil))) (d_call (ok_law_said T) takesF (hr.mono (by decide)) T.law_said.g T.law_said.F.kp T.law_said.b (d_acons (dv 1) d_anil))))))⟩
theorem ok_law_text (T : Txt w.params K mg) : FnOk P w K mg base CX0 2 T.law_text.f T.law_text.fd ["long", "some"] (spF K 2 (F_law_text T.C)) := okF T.law_text.F sclaw_text rfl rfl (bd_law_text T)
set_option maxHeartbeats 2000000 in
theorem bd_number_in (T : Txt w.params K mg) : BodyD P w K mg base "number_in" snumber_in T.number_in.f ["word", "sign"] 0 (B_number_in T.C) := by
  intro cdv A outer s H E hr
  have hu := hu100 hr
  have hu64 := hu64_of hr
  have hu1 := hu1_of hr
  unfold B_number_in
  exact ⟨_, fun M0 P0 H0 => (b_cons (s_if (d_not (d_tchain op_LE op_LE d_int (d_blt call_LEN T.z_len (by decide +kernel) (d_acons (dv 0) d_anil)) (d_gi T.c_MOST_DIGITS))) (b_one (s_ret d_non)) b_nil)
      (b_cons (s_if (d_not (d_tval (d_blt (call_ALL rfl) T.z_all (by decide +kernel) (d_acons (DN.e (d_lc (own := [("sign", 1)]) rfl scnumber_in.nd (i_str (dv 0)) (blkOk_by (N := ["word", "sign"]) (sc := defScope snumber_in) (by decide +kernel)) (own_nam (by decide)).1 ⟨fun _ _ _ _ _ => (g_name (i := 1) scnumber_in.nd rfl (Or.inl rfl)), fun _ _ _ _ _ => t_nil, fun _ _ _ _ _ => (d_cmp (op_IN hu) (dv 1) (d_gs T.c_DIGITS) (by rfl))⟩)) d_anil)))) (b_one (s_ret d_non)) b_nil)
      (b_cons (s_if (DW.dt (d_and (d_tcmp (op_EQ hu64) (d_ix (dv 0) d_int (fun _ _ => rfl)) d_str (nomark _)) (d_and1 (d_tcmp (op_NE hu64) (dv 0) d_str (nomark _))))) (b_one (s_ret d_non)) b_nil)
      (b_one (s_ret (d_cty call_INT T.z_int (by decide +kernel) (d_acons (dv 0) d_anil)))))))⟩
theorem ok_number_in (T : Txt w.params K mg) : FnOk P w K mg base CX0 1 T.number_in.f T.number_in.fd ["word"] (spF K 1 (F_number_in T.C)) := okF T.number_in.F scnumber_in rfl rfl (bd_number_in T)
set_option maxHeartbeats 2000000 in
theorem bd_length_in_row (T : Txt w.params K mg) : BodyD P w K mg base "length_in_row" slength_in_row T.length_in_row.f ["row", "word", "rest", "length"] 3 (B_length_in_row T.C) := by
  intro cdv A outer s H E hr
  have hu := hu100 hr
  have hu64 := hu64_of hr
  have hu1 := hu1_of hr
  unfold B_length_in_row
  exact ⟨_, fun M0 P0 H0 => (b_cons (s_asg (DN.e (d_split (dv 0) d_str)) (g_star [1] 2 rfl (pgs_cons (pg_name (i := 1) sclength_in_row.nd rfl (Or.inl rfl)) (pgs_star (pg_name (i := 2) sclength_in_row.nd rfl (Or.inl rfl)) pgs_nil))))
      (b_cons (s_if (DW.dt (d_or (d_tcmp (op_NE hu64) (dv 1) d_str (nomark _)) (d_or1 (d_tcmp (op_NE hu64) (d_bltP 2 call_LEN T.z_len (by decide +kernel)) d_int (nomark _))))) (b_one (s_ret d_non)) b_nil)
      (b_cons (s_set (i := 3) sclength_in_row.nd rfl (Or.inl rfl) (d_call (ok_number_in T) takesF (hr.mono (by decide)) T.number_in.g T.number_in.F.kp T.number_in.b (d_acons (d_ixV 2 d_int (fun _ _ => rfl)) d_anil)))
      (b_one (s_ret (d_if (d_tval (d_call (ok_is_length T) takesF (hr.mono (by decide)) T.is_length.g T.is_length.F.kp T.is_length.b (d_acons (dv 3) d_anil))) (dv 3) d_non))))))⟩
theorem ok_length_in_row (T : Txt w.params K mg) : FnOk P w K mg base CX0 4 T.length_in_row.f T.length_in_row.fd ["row"] (spF K 1 (F_length_in_row T.C)) := okF T.length_in_row.F sclength_in_row rfl rfl (bd_length_in_row T)
set_option maxHeartbeats 2000000 in
theorem bd_stretch_in (T : Txt w.params K mg) : BodyD P w K mg base "stretch_in" sstretch_in T.stretch_in.f ["word", "numbers", "part"] 1 (B_stretch_in T.C) := by
  intro cdv A outer s H E hr
  have hu := hu100 hr
  have hu64 := hu64_of hr
  have hu1 := hu1_of hr
  unfold B_stretch_in
  exact ⟨_, fun M0 P0 H0 => (b_cons (s_setLcD (i := 1) (own := [("part", 2)]) rfl scstretch_in.nd rfl rfl (by rfl) (i_list (DN.e (d_split (dv 0) d_str))) (blkOk_by (N := ["word", "numbers", "part"]) (sc := defScope sstretch_in) (by decide +kernel)) (own_nam (by decide)).1 ⟨fun _ _ _ _ _ => (g_name (i := 2) scstretch_in.nd rfl (Or.inl rfl)), fun _ _ _ _ _ => t_nil, fun _ _ _ _ _ => (d_call (ok_number_in T) takesF (hr.mono (by decide)) T.number_in.g T.number_in.F.kp T.number_in.b (d_acons (dv 2) d_anil))⟩)
      (b_cons (s_if (DW.dt (d_or (d_tcmp (op_NE hu64) (d_blt call_LEN T.z_len (by decide +kernel) (d_acons (dv 1) d_anil)) d_int (nomark _)) (d_or1 (d_tcmp (op_IN hu) d_non (dv 1) (by rfl))))) (b_one (s_ret d_non)) b_nil)
      (b_one (s_ret (d_tup (d_acons (d_ix (dv 1) d_int (fun _ _ => rfl)) (d_acons (d_ix (dv 1) d_int (fun _ _ => rfl)) d_anil)))))))⟩
theorem ok_stretch_in (T : Txt w.params K mg) : FnOk P w K mg base CX0 2 T.stretch_in.f T.stretch_in.fd ["word"] (spF K 1 (F_stretch_in T.C)) := okF T.stretch_in.F scstretch_in rfl rfl (bd_stretch_in T)
set_option maxHeartbeats 2000000 in
theorem bd_pass_in (T : Txt w.params K mg) : BodyD P w K mg base "pass_in" spass_in T.pass_in.f ["words", "name", "mode", "first", "last", "glide", "tail", "rest", "numbers", "word", "touches"] 2 (B_pass_in T.C) := by
  intro cdv A outer s H E hr
  have hu := hu100 hr
  have hu64 := hu64_of hr
  have hu1 := hu1_of hr
  unfold B_pass_in
  exact ⟨_, fun M0 P0 H0 => (b_cons (s_if (d_tcmp op_LT (d_blt call_LEN T.z_len (by decide +kernel) (d_acons (dv 0) d_anil)) (d_gi T.c_FEWEST_WORDS) (nomark _)) (b_one (s_ret d_non)) b_nil)
      (b_cons (s_asg (dv 0) (g_star [1, 2, 3, 4, 5, 6] 7 rfl (pgs_cons (pg_name (i := 1) scpass_in.nd rfl (Or.inl rfl)) (pgs_cons (pg_name (i := 2) scpass_in.nd rfl (Or.inl rfl)) (pgs_cons (pg_name (i := 3) scpass_in.nd rfl (Or.inl rfl)) (pgs_cons (pg_name (i := 4) scpass_in.nd rfl (Or.inl rfl)) (pgs_cons (pg_name (i := 5) scpass_in.nd rfl (Or.inl rfl)) (pgs_cons (pg_name (i := 6) scpass_in.nd rfl (Or.inl rfl)) (pgs_star (pg_name (i := 7) scpass_in.nd rfl (Or.inl rfl)) pgs_nil)))))))))
      (b_cons (s_setLcD (i := 8) (own := [("word", 9)]) rfl scpass_in.nd rfl rfl (by rfl) (i_tup (d_tup (d_acons (dv 3) (d_acons (dv 4) (d_acons (dv 5) d_anil))))) (blkOk_by (N := ["words", "name", "mode", "first", "last", "glide", "tail", "rest", "numbers", "word", "touches"]) (sc := defScope spass_in) (by decide +kernel)) (own_nam (by decide)).1 ⟨fun _ _ _ _ _ => (g_name (i := 9) scpass_in.nd rfl (Or.inl rfl)), fun _ _ _ _ _ => t_nil, fun _ _ _ _ _ => (d_call (ok_number_in T) takesF (hr.mono (by decide)) T.number_in.g T.number_in.F.kp T.number_in.b (d_acons (dv 9) d_anil))⟩)
      (b_cons (s_setLcD (i := 10) (own := [("word", 9)]) rfl scpass_in.nd rfl rfl (by rfl) (i_list (dv 7)) (blkOk_by (N := ["words", "name", "mode", "first", "last", "glide", "tail", "rest", "numbers", "word", "touches"]) (sc := defScope spass_in) (by decide +kernel)) (own_nam (by decide)).1 ⟨fun _ _ _ _ _ => (g_name (i := 9) scpass_in.nd rfl (Or.inl rfl)), fun _ _ _ _ _ => t_nil, fun _ _ _ _ _ => (d_call (ok_stretch_in T) takesF (hr.mono (by decide)) T.stretch_in.g T.stretch_in.F.kp T.stretch_in.b (d_acons (dv 9) d_anil))⟩)
      (b_cons (s_if (DW.dt (d_or (d_tcmp (op_IN hu) d_non (dv 8) (by rfl)) (d_or1 (d_tcmp (op_IN hu) d_non (dv 10) (by rfl))))) (b_one (s_ret d_non)) b_nil)
      (b_one (s_ret (d_tup (d_acons (dv 1) (d_acons (dv 2) (d_acons (d_ix (dv 8) d_int (fun _ _ => rfl)) (d_acons (d_ix (dv 8) d_int (fun _ _ => rfl)) (d_acons (d_cty call_TUPLE T.z_tuple (by decide +kernel) (d_acons (dv 10) d_anil)) (d_acons (d_ix (dv 8) d_int (fun _ _ => rfl)) (d_acons (dv 6) d_anil)))))))))))))))⟩
theorem ok_pass_in (T : Txt w.params K mg) : FnOk P w K mg base CX0 3 T.pass_in.f T.pass_in.fd ["words"] (spF K 1 (F_pass_in T.C)) := okF T.pass_in.F scpass_in rfl rfl (bd_pass_in T)
set_option maxHeartbeats 2000000 in
theorem bd_pass_in_row (T : Txt w.params K mg) : BodyD P w K mg base "pass_in_row" spass_in_row T.pass_in_row.f ["row", "word", "rest"] 3 (B_pass_in_row T.C) := by
  intro cdv A outer s H E hr
  have hu := hu100 hr
  have hu64 := hu64_of hr
  have hu1 := hu1_of hr
  unfold B_pass_in_row
  exact ⟨_, fun M0 P0 H0 => (b_cons (s_asg (DN.e (d_split (dv 0) d_str)) (g_star [1] 2 rfl (pgs_cons (pg_name (i := 1) scpass_in_row.nd rfl (Or.inl rfl)) (pgs_star (pg_name (i := 2) scpass_in_row.nd rfl (Or.inl rfl)) pgs_nil))))
      (b_one (s_ret (d_if (d_tcmp (op_EQ hu64) (dv 1) d_str (nomark _)) (d_call (ok_pass_in T) takesF (hr.mono (by decide)) T.pass_in.g T.pass_in.F.kp T.pass_in.b (d_acons (dv 2) d_anil)) d_non))))⟩
theorem ok_pass_in_row (T : Txt w.params K mg) : FnOk P w K mg base CX0 4 T.pass_in_row.f T.pass_in_row.fd ["row"] (spF K 1 (F_pass_in_row T.C)) := okF T.pass_in_row.F scpass_in_row rfl rfl (bd_pass_in_row T)
set_option maxHeartbeats 2000000 in
theorem bd_track_in (T : Txt w.params K mg) : BodyD P w K mg base "track_in" strack_in T.track_in.f ["text", "first", "rest", "length", "passes", "row"] 6 (B_track_in T.C) := by
  intro cdv A outer s H E hr
  have hu := hu100 hr
  have hu64 := hu64_of hr
  have hu1 := hu1_of hr
  unfold B_track_in
  exact ⟨_, fun M0 P0 H0 => (b_cons (s_if (d_not (d_tval (d_blt call_ISIT T.z_isinstance (by decide +kernel) (d_acons (dv 0) (d_acons (d_ty T.z_str (by decide +kernel)) d_anil))))) (b_one (s_ret d_non)) b_nil)
      (b_cons (s_asg (DN.e (d_split (dv 0) d_str)) (g_star [1] 2 rfl (pgs_cons (pg_name (i := 1) sctrack_in.nd rfl (Or.inl rfl)) (pgs_star (pg_name (i := 2) sctrack_in.nd rfl (Or.inl rfl)) pgs_nil))))
      (b_cons (s_set (i := 3) sctrack_in.nd rfl (Or.inl rfl) (d_call (ok_length_in_row T) takesF (hr.mono (by decide)) T.length_in_row.g T.length_in_row.F.kp T.length_in_row.b (d_acons (dv 1) d_anil)))
      (b_cons (s_if (d_tcmp op_IS (dv 3) d_non (nomark _)) (b_one (s_ret d_non)) b_nil)
      (b_cons (s_set (i := 4) sctrack_in.nd rfl (Or.inl rfl) (d_cty call_TUPLE T.z_tuple (by decide +kernel) (d_acons (DN.e (d_lc (own := [("row", 5)]) rfl sctrack_in.nd (i_list (dv 2)) (blkOk_by (N := ["text", "first", "rest", "length", "passes", "row"]) (sc := defScope strack_in) (by decide +kernel)) (own_nam (by decide)).1 ⟨fun _ _ _ _ _ => (g_name (i := 5) sctrack_in.nd rfl (Or.inl rfl)), fun _ _ _ _ _ => t_nil, fun _ _ _ _ _ => (d_call (ok_pass_in_row T) takesF (hr.mono (by decide)) T.pass_in_row.g T.pass_in_row.F.kp T.pass_in_row.b (d_acons (dv 5) d_anil))⟩)) d_anil)))
      (b_one (s_ret (d_if (d_tcmp op_IS (d_call (ok_first_wrong T) takesF (hr.mono (by decide)) T.first_wrong.g T.first_wrong.F.kp T.first_wrong.b (d_acons (dv 4) (d_acons (dv 3) d_anil))) d_non (nomark _)) (d_tup (d_acons (dv 3) (d_acons (dv 4) d_anil))) d_non))))))))⟩
theorem ok_track_in (T : Txt w.params K mg) : FnOk P w K mg base CX0 7 T.track_in.f T.track_in.fd ["text"] (spF K 1 (F_track_in T.C)) := okF T.track_in.F sctrack_in rfl rfl (bd_track_in T)
set_option maxHeartbeats 2000000 in
theorem bd_Track_read (T : Txt w.params K mg) : BodyD P w K mg base "Track.read" sTrack_read T.Track_read.f ["cls", "text", "told", "length", "passes"] 8 (B_Track_read T.C) := by
  intro cdv A outer s H E hr
  have hu := hu100 hr
  have hu64 := hu64_of hr
  have hu1 := hu1_of hr
  unfold B_Track_read
  exact ⟨_, fun M0 P0 H0 => (b_cons (s_set (i := 2) scTrack_read.nd rfl (Or.inl rfl) (d_call (ok_track_in T) takesF (hr.mono (by decide)) T.track_in.g T.track_in.F.kp T.track_in.b (d_acons (dv 1) d_anil)))
      (b_cons (s_if (d_tcmp op_IS (dv 2) d_non (nomark _)) (b_one (s_never)) b_nil)
      (b_cons (s_asg (dv 2) (g_tup rfl (gs_cons (g_name (i := 3) scTrack_read.nd rfl (Or.inl rfl)) (gs_cons (g_name (i := 4) scTrack_read.nd rfl (Or.inl rfl)) gs_nil))))
      (b_one (s_ret (DN.e (d_makeL 0 ⟨T.makes, T.Track_init.m.at_, T.Track_init.m.fn, T.kC⟩ (ok_Track_init T) takesO (hr.mono (by decide)) T.Track_init.b .nil (fun _ _ => .nil) (d_acons (dv 3) (d_acons (dv 4) d_anil)))))))))⟩
theorem ok_Track_read (T : Txt w.params K mg) : FnOk P w K mg base CX0 9 T.Track_read.f T.Track_read.fd ["cls", "text"] (spF K 2 (F_Track_read T.C)) := okF T.Track_read.F scTrack_read rfl rfl (bd_Track_read T)
set_option maxHeartbeats 2000000 in
theorem bd_Track_eq (T : Txt w.params K mg) : BodyD P w K mg base "Track.__eq__" sTrack_eq T.Track_eq.f ["self", "other"] 0 (B_Track_eq T.C) := by
  intro cdv A outer s H E hr
  have hu := hu100 hr
  have hu64 := hu64_of hr
  have hu1 := hu1_of hr
  unfold B_Track_eq
  exact ⟨_, fun M0 P0 H0 => (b_one (s_ret (d_andV (d_blt (call_ISICT T.isC) T.z_isinstance (by decide +kernel) (d_acons (dv 1) (d_acons (d_cls T.gC) d_anil))) (d_andV (d_cmp (op_EQ hu64) (d_fld (dv 0) T.cl T.n_length) (d_fld (dv 1) T.cl T.n_length) (nomark _)) (d_one (d_cmp (op_EQ hu64) (d_fld (dv 0) T.cl T.n_passes) (d_fld (dv 1) T.cl T.n_passes) (nomark _)))))))⟩
theorem ok_Track_eq (T : Txt w.params K mg) : FnOk P w K mg base CX0 1 T.Track_eq.f T.Track_eq.fd ["self", "other"] (spF K 2 (F_Track_eq T.C)) := okF T.Track_eq.F scTrack_eq rfl rfl (bd_Track_eq T)
set_option maxHeartbeats 2000000 in
theorem bd_law_right (T : Txt w.params K mg) : BodyG P w K mg base "_law_right" slaw_right T.law_right.f ["purse", "made", "turn", "long", "some", "mine", "said", "mate", "each"] 9 (B_law_right T.C) := by
  intro cdv A outer s H E hg hr
  have hu := hu100 hr
  have hu64 := hu64_of hr
  have hu1 := hu1_of hr
  unfold B_law_right
  exact ⟨_, fun M0 P0 H0 => (b_cons (s_setN (i := 1) sclaw_right.nd rfl (Or.inr rfl) (d_lst d_anil))
      (b_cons (s_for PassesOwn.never rfl (i_rng1 T.z_range (d_acons d_int d_anil)) (g_name (i := 2) sclaw_right.nd rfl (Or.inl rfl)) (b_cons (s_set (i := 3) sclaw_right.nd rfl (Or.inl rfl) (d_callO 0 (ok_law_long T) takesO (hr.mono (by decide)) T.law_long.g T.law_long.F.kp T.law_long.b d_anil))
      (b_cons (s_set (i := 4) sclaw_right.nd rfl (Or.inl rfl) (d_callO 0 (ok_law_faders T) takesO (hr.mono (by decide)) T.law_faders.g T.law_faders.F.kp T.law_faders.b (d_acons (dv 3) (d_acons d_int d_anil))))
      (b_cons (s_par (i := 5) (j := 6) rfl sclaw_right.nd rfl rfl (by decide) rfl rfl (f_dat (DN.e (d_make ⟨T.makes, T.Track_init.m.at_, T.Track_init.m.fn, T.kC⟩ (ok_Track_init T) takesO (hr.mono (by decide)) T.gC T.Track_init.b .nil (fun _ _ => .nil) (d_acons (dv 3) (d_acons (dv 4) d_anil)))) (f_dat (d_call (ok_law_text T) takesF (hr.mono (by decide)) T.law_text.g T.law_text.F.kp T.law_text.b (d_acons (dv 3) (d_acons (dv 4) d_anil))) f_nil)) (by rfl))
      (b_cons (s_if (d_tcmp (op_NE hu64) (d_blt (call_REPRS hg hu64) T.z_repr (by decide +kernel) (d_acons (d_cty (call_STRI (ok_Track_str T) takesF (hr.mono (by decide)) T.Track_str.m.at_ T.Track_str.m.fn T.Track_str.b) T.z_str (by decide +kernel) (d_acons (dv 5) d_anil)) d_anil)) (d_blt (call_REPRS hg hu64) T.z_repr (by decide +kernel) (d_acons (dv 6) d_anil)) (nomark _)) (b_one (s_ret d_bl)) b_nil)
      (b_cons (s_for PassesOwn.never rfl (i_list (DN.e (d_lst (d_acons (d_cmeth (d_cls T.gC) T.Track_read.R T.Track_read.M (ok_Track_read T) takesF (hr.mono (by decide)) T.Track_read.b (d_acons (dv 6) d_anil)) (d_acons (d_cmethK0 (ks := ["text"]) [0, 1] (d_cls T.gC) T.Track_read.R T.Track_read.M (ok_Track_read T) takesF (hr.mono (by decide)) (KB_Track_read_0_text T) (k_cons (dv 6) k_nil)) d_anil))))) (g_name (i := 7) sclaw_right.nd rfl (Or.inl rfl)) (b_one (s_if (DW.dt (d_or (d_tcmp (op_NEI (ok_Track_eq T) takesF (hr.mono (by decide)) T.hne T.hob T.Track_eq.m.at_ T.Track_eq.m.fn T.Track_eq.b) (dv 7) (dv 5) (nomark _)) (d_or (d_tcmp (op_NE hu64) (d_blt (call_REPR hg hu64) T.z_repr (by decide +kernel) (d_acons (DN.e (d_lst (d_acons (d_prop (dv 7) T.cl T.Track_length.P (ok_Track_length T) takesF (hr.mono (by decide)) T.Track_length.b) (d_acons (d_prop (dv 7) T.cl T.Track_passes.P (ok_Track_passes T) takesF (hr.mono (by decide)) T.Track_passes.b) d_anil)))) d_anil)) (d_blt (call_REPR hg hu64) T.z_repr (by decide +kernel) (d_acons (DN.e (d_lst (d_acons (dv 3) (d_acons (dv 4) d_anil)))) d_anil)) (nomark _)) (d_or1 (d_tcmp (op_NE hu64) (d_cty (call_STRI (ok_Track_str T) takesF (hr.mono (by decide)) T.Track_str.m.at_ T.Track_str.m.fn T.Track_str.b) T.z_str (by decide +kernel) (d_acons (dv 7) d_anil)) (dv 6) (nomark _)))))) (b_one (s_ret d_bl)) b_nil)))
      (b_one (s_app 1 (dv 5)))))))))
      (b_one (s_ret (d_cmp (op_EQ hu64) (DN.e (d_lc (own := [("each", 8)]) rfl sclaw_right.nd (i_list (dv 1)) (blkOk_by (N := ["purse", "made", "turn", "long", "some", "mine", "said", "mate", "each"]) (sc := defScope slaw_right) (by decide +kernel)) (own_nam (by decide)).1 ⟨fun _ _ _ _ _ => (g_name (i := 8) sclaw_right.nd rfl (Or.inl rfl)), fun _ _ _ _ _ => (t_one (d_tcmp (op_NE hu64) (d_cmp (op_EQ hu64) (d_cty (call_STRI (ok_Track_str T) takesF (hr.mono (by decide)) T.Track_str.m.at_ T.Track_str.m.fn T.Track_str.b) T.z_str (by decide +kernel) (d_acons (dv 8) d_anil)) (d_cty (call_STRI (ok_Track_str T) takesF (hr.mono (by decide)) T.Track_str.m.at_ T.Track_str.m.fn T.Track_str.b) T.z_str (by decide +kernel) (d_acons (d_ixV 1 d_int (fun _ _ => rfl)) d_anil)) (nomark _)) (d_cmp (op_EQI (ok_Track_eq T) takesF (hr.mono (by decide)) T.Track_eq.m.at_ T.Track_eq.m.fn T.Track_eq.b) (dv 8) (d_ixV 1 d_int (fun _ _ => rfl)) (nomark _)) (nomark _))), fun _ _ _ _ _ => (dv 8)⟩)) (DN.e (d_lst d_anil)) (nomark _))))))⟩
theorem ok_law_right (T : Txt w.params K mg) : FnG P w K mg base CX0 10 T.law_right.f T.law_right.fd ["purse"] (spO K 1 (F_law_right T.C)) := okOG T.law_right.F sclaw_right rfl rfl (bd_law_right T)
set_option maxHeartbeats 2000000 in
theorem bd_law_purse (T : Txt w.params K mg) : BodyD P w K mg base "_law_purse" slaw_purse T.law_purse.f ["script", "k", "cell", "digits", "seed"] 0 (B_law_purse T.C) := by
  intro cdv A outer s H E hr
  have hu := hu100 hr
  have hu64 := hu64_of hr
  have hu1 := hu1_of hr
  unfold B_law_purse
  exact ⟨_, fun M0 P0 H0 => (b_cons (s_if (d_tcmp op_LT (dv 1) (d_blt call_LEN T.z_len (by decide +kernel) (d_acons (dv 0) d_anil)) (nomark _)) (b_cons (s_set (i := 2) sclaw_purse.nd rfl (Or.inl rfl) (d_ix (dv 0) (dv 1) (fun _ _ => rfl)))
      (b_cons (s_set (i := 3) sclaw_purse.nd rfl (Or.inl rfl) (d_if (DW.dt (d_or (d_tcmp op_LT (dv 2) d_int (nomark _)) (d_or1 (d_tcmp op_GE (dv 2) (d_op op_POW d_int d_int) (nomark _))))) (d_blt call_ABS T.z_abs (by decide +kernel) (d_acons (dv 2) d_anil)) d_int))
      (b_one (s_retNew (d_lst (d_acons (dv 3) (d_acons (d_op op_MOD (d_cty call_INT T.z_int (by decide +kernel) (d_acons (d_op op_ADD (d_op op_ADD (d_op op_MUL (dv 2) d_int) (d_op op_MUL d_int (dv 1))) d_int) d_anil)) d_int) (d_acons d_int d_anil)))))))) b_nil)
      (b_cons (s_set (i := 4) sclaw_purse.nd rfl (Or.inl rfl) (d_op op_ADD (d_op op_MUL d_int (dv 1)) d_int))
      (b_cons (s_for PassesOwn.never rfl (i_list (d_sl (dv 0) d_no (d_part d_int))) (g_name (i := 2) sclaw_purse.nd rfl (Or.inl rfl)) (b_one (s_set (i := 4) sclaw_purse.nd rfl (Or.inl rfl) (d_op op_MOD (d_cty call_INT T.z_int (by decide +kernel) (d_acons (d_op op_ADD (d_op op_MUL (dv 4) d_int) (dv 2)) d_anil)) d_int))))
      (b_one (s_retNew (d_lst (d_acons d_int (d_acons (dv 4) (d_acons d_int d_anil)))))))))⟩
theorem ok_law_purse (T : Txt w.params K mg) : FnOk P w K mg base CX0 1 T.law_purse.f T.law_purse.fd ["script", "k"] (spN K 2 (F_law_purse T.C)) := okN T.law_purse.F sclaw_purse rfl rfl (bd_law_purse T)
set_option maxHeartbeats 2000000 in
theorem bd_law (T : Txt w.params K mg) : BodyG P w K mg base "law" slaw T.law.f ["script", "fader", "k"] 10 (B_law T.C) := by
  intro cdv A outer s H E hg hr
  have hu := hu100 hr
  have hu64 := hu64_of hr
  have hu1 := hu1_of hr
  obtain ⟨ds_Track_init, hv_Track_init, hb_Track_init⟩ := T.Track_init.b1
  unfold B_law
  exact ⟨_, fun M0 P0 H0 => (b_cons (s_set (i := 1) sclaw.nd rfl (Or.inl rfl) (d_tup (d_acons d_str (d_acons d_str (d_acons d_int (d_acons d_int (d_acons (d_tup (d_acons (d_tup (d_acons d_int (d_acons d_int d_anil))) (d_acons (d_tup (d_acons d_int (d_acons d_int d_anil))) d_anil))) (d_acons d_int (d_acons d_str d_anil)))))))))
      (b_cons (s_if (DW.dt (d_or (d_tcmp (op_NE hu64) (d_cty (call_STRI (ok_Track_str T) takesF (hr.mono (by decide)) T.Track_str.m.at_ T.Track_str.m.fn T.Track_str.b) T.z_str (by decide +kernel) (d_acons (DN.e (d_make ⟨T.makes, T.Track_init.m.at_, T.Track_init.m.fn, T.kC⟩ (ok_Track_init T) takesO (hr.mono (by decide)) T.gC T.Track_init.b .nil (fun _ _ => .nil) (d_acons d_int (d_acons (d_tup (d_acons (dv 1) d_anil)) d_anil)))) d_anil)) d_str (nomark _)) (d_or1 (d_tcmp (op_NE hu64) (d_cty (call_STRI (ok_Track_str T) takesF (hr.mono (by decide)) T.Track_str.m.at_ T.Track_str.m.fn T.Track_str.b) T.z_str (by decide +kernel) (d_acons (DN.e (d_make ⟨T.makes, T.Track_init.m.at_, T.Track_init.m.fn, T.kC⟩ (ok_Track_init T) takesO (hr.mono (by decide)) T.gC hb_Track_init hv_Track_init (fun _ H => .cons (.tup (T.et_Track_init H) .nil) .nil) (d_acons d_int d_anil))) d_anil)) d_str (nomark _))))) (b_one (s_ret d_bl)) b_nil)
      (b_cons (s_if (d_tcmp (op_NE hu64) (d_prop (d_cmeth (d_cls T.gC) T.Track_read.R T.Track_read.M (ok_Track_read T) takesF (hr.mono (by decide)) T.Track_read.b (d_acons d_str d_anil)) T.cl T.Track_length.P (ok_Track_length T) takesF (hr.mono (by decide)) T.Track_length.b) (d_op op_POW d_int d_int) (nomark _)) (b_one (s_ret d_bl)) b_nil)
      (b_cons (s_if (d_tcmp (op_NE hu64) (d_prop (d_cmeth (d_cls T.gC) T.Track_read.R T.Track_read.M (ok_Track_read T) takesF (hr.mono (by decide)) T.Track_read.b (d_acons d_str d_anil)) T.cl T.Track_passes.P (ok_Track_passes T) takesF (hr.mono (by decide)) T.Track_passes.b) (d_tup (d_acons (d_tup (d_acons d_str (d_acons d_str (d_acons d_int (d_acons d_int (d_acons (d_tup d_anil) (d_acons d_int (d_acons d_str d_anil)))))))) d_anil)) (nomark _)) (b_one (s_ret d_bl)) b_nil)
      (b_cons (s_for PassesOwn.never rfl (i_rng1 T.z_range (d_acons (d_blt (call_MAX rfl) T.z_max (by decide +kernel) (d_acons d_int (d_acons (d_blt (call_MIN rfl) T.z_min (by decide +kernel) (d_acons (d_blt call_LEN T.z_len (by decide +kernel) (d_acons (dv 0) d_anil)) (d_acons d_int d_anil))) d_anil))) d_anil)) (g_name (i := 2) sclaw.nd rfl (Or.inl rfl)) (b_one (s_if (d_not (d_tval (d_gcallNew hg (ok_law_right T) takesO (hr.mono (by decide)) T.law_right.g T.law_right.F.kp T.law_right.b (d_callN (ok_law_purse T) takesN (hr.mono (by decide)) T.law_purse.g T.law_purse.F.kp T.law_purse.b (d_acons (dv 0) (d_acons (dv 2) d_anil))) d_anil))) (b_one (s_ret d_bl)) b_nil)))
      (b_one (s_ret d_bl)))))))⟩
theorem ok_law (T : Txt w.params K mg) : FnG P w K mg base CX0 11 T.law.f T.law.fd ["script"] (spF K 1 (F_law T.C)) := okFG T.law.F sclaw rfl rfl (bd_law T)
end
end My
set_option exponentiation.threshold 20000
namespace My
open PySem PySem.Spec PyProof.Rows L2 DL
structure Ps where
  name : Str
  mode : Str
  first : Int
  last : Int
  touches : List (Int × Int)
  glide : Int
  tail : Str
def encT (p : Int × Int) : D := .tup [.int p.1, .int p.2]
def encP (p : Ps) : D := .tup [.str p.name, .str p.mode, .int p.first, .int p.last, .tup (p.touches.map encT), .int p.glide, .str p.tail]
def touchesOk (hi : Int) : List (Int × Int) → Int → Bool
  | [], _ => true
  | p :: r, lo => (decide (lo ≤ p.1) && decide (p.1 ≤ hi)) && (decide (p.1 + 1 ≤ p.2) && decide (p.2 ≤ hi)) && touchesOk hi r (p.2 + 1)
def letters : Str := "abcdefghijklmnopqrstuvwxyz"
def alnums : Str := "abcdefghijklmnopqrstuvwxyz0123456789"
def modes : List Str := ["write", "latch", "touch", "trim"]
def tails : List Str := ["stop", "on"]
def headOk (x : Str) : Bool := match x.cps.toList with | c :: _ => decide (c ∈ letters.cps.toList) | [] => false
def nameOk (x : Str) : Bool := decide (1 ≤ x.length) && decide (x.length ≤ 8) && headOk x && x.cps.toList.all fun c => decide (c ∈ alnums.cps.toList)
def passOk (L : Int) (p : Ps) : Bool := nameOk p.name && !decide (p.name = "old") && modes.contains p.mode && tails.contains p.tail &&
  ((decide (0 ≤ p.first) && decide (p.first ≤ L)) && (decide (p.first + 1 ≤ p.last) && decide (p.last ≤ L))) && decide (p.touches.length ≤ 6) && touchesOk p.last p.touches p.first && decide (0 ≤ p.glide) && decide (p.glide ≤ 100)
section
variable (C : Addr)
theorem v_is_integer (i : Int) : F_is_integer C [.int i] = some (.bl true) := by
  refine retF ?_
  unfold B_is_integer
  refine_lift' st
  exact rq_rt rfl
theorem v_is_between (i lo hi : Int) : F_is_between C [.int i, .int lo, .int hi] = some (.bl (decide (lo ≤ i) && decide (i ≤ hi))) := by
  refine retF ?_
  unfold B_is_between
  refine_lift' st [v_is_integer C _]
  exact rq_rt rfl
theorem v_is_stretch (p : Int × Int) (lo hi : Int) : F_is_stretch C [encT p, .int lo, .int hi] = some (.bl ((decide (lo ≤ p.1) && decide (p.1 ≤ hi)) && (decide (p.1 + 1 ≤ p.2) && decide (p.2 ≤ hi)))) := by
  refine retF ?_
  unfold B_is_stretch encT
  refine_lift' st
  · intro h
    simp at h
  · intro _
    refine_lift' st
    refine_lift' st [v_is_between C _ _ _]
    exact rq_rt rfl
theorem v_are_touches (ts : List (Int × Int)) (lo hi : Int) : F_are_touches C [.tup (ts.map encT), .int lo, .int hi] = some (.bl (decide (ts.length ≤ 6) && touchesOk hi ts lo)) := by
  refine retF ?_
  unfold B_are_touches
  refine_lift' st
  · intro h
    simp at h
    refine_lift' st
    exact rq_rt (by rw [decide_eq_false (by omega)]; rfl)
  · intro h
    have hl : ts.length ≤ 6 := by simp at h; omega
    rw [decide_eq_true hl, Bool.true_and]
    refine_lift' st
    refine_lift' st
    refine st_for (α := Int × Int) (enc := encT) (xs := ts) (ρ1 := [.dat (.tup (ts.map encT)), .dat (.int lo), .dat (.int hi), .dat (.int lo), .no]) ?_ (fun ys ρ => ∃ lo' x, ρ = [.dat (.tup (ts.map encT)), .dat (.int lo), .dat (.int hi), .dat (.int lo'), x] ∧ ∀ zs, touchesOk hi (ys ++ zs) lo = touchesOk hi zs lo') ⟨lo, .no, rfl, fun _ => rfl⟩ ?_ ?_
    · rfl
    · rintro ys p zs ρ e ⟨lo', x, rfl, q⟩
      refine ⟨_, _, g_nm, ?_⟩
      refine_lift' st [v_is_stretch C _ _ _]
      · intro h1
        have h1 := (Bool.not_eq_true' _).mp h1
        refine_lift' st
        refine rq_rt ?_
        rw [e, q, touchesOk, h1, Bool.false_and]
      · intro h1
        have h1 := (Bool.not_eq_false' _).mp h1
        refine_lift' st
        refine_lift' st
        refine ⟨p.2 + 1, _, rfl, fun zs' => ?_⟩
        rw [List.append_assoc, q]
        show touchesOk hi (p :: zs') lo' = _
        rw [touchesOk, h1, Bool.true_and]
    · rintro ρ ⟨lo', x, rfl, q⟩
      refine_lift' st
      refine rq_rt ?_
      have := q []
      rw [List.append_nil] at this
      rw [this]
      rfl
end
end My
set_option exponentiation.threshold 20000
namespace My
open PySem PySem.Spec PyProof.Rows L2 DL
section
variable (C : Addr)
theorem abc_cat : dAdd (.str "abcdefghijklmnopqrstuvwxyz") (.str "0123456789") = some (.str alnums) := by
  have h : (("abcdefghijklmnopqrstuvwxyz" : Str) ++ ("0123456789" : Str)) = alnums := by decide +kernel
  rw [← h]
  exact if_pos (t := some (D.str (("abcdefghijklmnopqrstuvwxyz" : Str) ++ ("0123456789" : Str)))) (e := none) (show ("abcdefghijklmnopqrstuvwxyz" : Str).length + ("0123456789" : Str).length ≤ sizeLine by decide +kernel)
theorem in_str (c : Nat) (z : Str) : dIn (.str ⟨#[c]⟩) (.str z) = some (.bl (decide (c ∈ z.cps.toList))) := rfl
theorem bls_map {α : Type} (f : α → Bool) : ∀ l : List α, bls? (l.map fun a => D.bl (f a)) = some (l.map f)
  | [] => rfl
  | a :: l => by
    rw [List.map_cons, bls?, bls_map f l]
    rfl
theorem all_map {α : Type} (f : α → Bool) (l : List α) : dAll [.lst (l.map fun a => D.bl (f a))] = some (.bl (l.all f)) := by
  unfold dAll
  simp only [bls_map, Option.map_some, List.all_map]
  rfl
theorem v_is_name (x : Str) (hx : x.length ≤ sizeLine) : F_is_name C [.str x] = some (.bl (nameOk x)) := by
  have hl : dLen [.str x] = some (.int x.length) := if_pos hx
  refine retF ?_
  unfold B_is_name
  refine_lift' st [hl]
  · intro h
    refine_lift' st
    refine rq_rt ?_
    unfold nameOk
    have : (decide (1 ≤ x.length) && decide (x.length ≤ 8)) = false := by
      simp at h ⊢
      omega
    rw [this, Bool.false_and, Bool.false_and]
  · intro h
    have h2 : 1 ≤ x.length ∧ x.length ≤ 8 := by
      simp at h
      omega
    refine_lift' st
    have hlc : mLc [1] (iSeq seqS (mVar 0)) (gNm 1) (mC true) (mOp dIn (mVar 1) (mOp dAdd (mC (.str "abcdefghijklmnopqrstuvwxyz")) (mC (.str "0123456789")))) (cells [.str x] 1) = some (.lst (x.cps.toList.map fun c => .bl (decide (c ∈ alnums.cps.toList))), cells [.str x] 1) := by
      refine e_lcm (α := Nat) (vs := [1]) (ρ1 := cells [.str x] 1) (enc := fun c => D.str ⟨#[c]⟩) (xs := x.cps.toList) (f := fun c => .bl (decide (c ∈ alnums.cps.toList))) rfl rfl (len_le ?_) ?_ rfl
      · show x.length ≤ 1000
        omega
      · intro c _
        exact ⟨(), [.dat (.str x), .dat (.str ⟨#[c]⟩)], rfl, [.dat (.str x), .dat (.str ⟨#[c]⟩)], by refine_lift' ev [abc_cat, in_str c alnums], rfl⟩
    obtain ⟨c, r, hc⟩ : ∃ c r, x.cps.toList = c :: r := by
      cases e : x.cps.toList with
      | nil =>
        have : x.length = x.cps.toList.length := rfl
        rw [e] at this
        simp at this; omega
      | cons c r => exact ⟨c, r, rfl⟩
    have hix : dIx (.str x) (.int 0) = some (.str ⟨#[c]⟩) := by
      have h : dIx (.str x) (.int 0) = (atI x.cps.toList 0).map fun c => D.str ⟨#[c]⟩ := if_pos hx
      rw [h, hc, show atI (c :: r) 0 = some c from atI_nat (j := 0) rfl]
      rfl
    have hin := in_str c "abcdefghijklmnopqrstuvwxyz"
    have hall := all_map (fun c => decide (c ∈ alnums.cps.toList)) x.cps.toList
    refine_lift' st [hix, hin, hlc, hall]
    refine rq_rt ?_
    unfold nameOk headOk
    rw [hc, decide_eq_true h2.1, decide_eq_true h2.2]
    rfl
end
end My
set_option exponentiation.threshold 20000
namespace My
open PySem PySem.Spec PyProof.Rows L2 DL
section
variable (C : Addr)
structure Ps.sane (p : Ps) : Prop where
  name : PyData.strOk p.name = true
  mode : PyData.strOk p.mode = true
  tail : PyData.strOk p.tail = true
  nameL : p.name.length ≤ sizeLine
theorem shaped_str {x : Str} (h : PyData.strOk x = true) : SeqAt.shaped (.str x) = true := by
  simp [SeqAt.shaped, PyData.canLay0, h, PyData.depth]
theorem strs_toPs (ws : List Str) : toPs (ws.map .str) = ws.map .str := by
  rw [toPs_map, List.map_map]
  congr 1
theorem plains_strs : ∀ ws : List Str, plains (ws.map .str) = true
  | [] => rfl
  | w :: ws => by simp only [List.map_cons, plains, DL.plain, plains_strs ws, Bool.and_self]
theorem canLay_strs : ∀ ws : List Str, (∀ w ∈ ws, PyData.strOk w = true) → PyData.canLayAll0 (ws.map .str) = true ∧ PyData.depthAll (ws.map .str) = 0
  | [], _ => by simp [PyData.canLayAll0, PyData.depthAll]
  | w :: ws, h => by
    obtain ⟨a, b⟩ := canLay_strs ws fun v hv => h v (List.mem_cons_of_mem _ hv)
    have := h w List.mem_cons_self
    simp [PyData.canLayAll0, PyData.depthAll, PyData.canLay0, PyData.depth, a, b, this]
theorem any_strs (x : Str) : ∀ ws : List Str, ((ws.map PyData.str).any fun e => PyData.eqv e (.str x)) = ws.contains x
  | [] => rfl
  | w :: ws => by
    rw [List.map_cons, List.any_cons, any_strs x ws, List.contains_cons]
    congr 1
    simp only [PyData.eqv]
    exact BEq.comm
theorem in_words {x : Str} (hx : PyData.strOk x = true) (ws : List Str) (h : ∀ w ∈ ws, PyData.strOk w = true) : dIn (.str x) (.tup (ws.map .str)) = some (.bl (ws.contains x)) := by
  obtain ⟨a, b⟩ := canLay_strs ws h
  have hs : SeqAt.shaped (.tuple (toPs (ws.map D.str))) = true := by
    rw [strs_toPs]
    simp [SeqAt.shaped, PyData.canLay0, PyData.depth, a, b]
  have : dInB (.str x) (.tup (ws.map .str)) = some (ws.contains x) := by
    rw [← any_strs, ← strs_toPs]
    exact if_pos ⟨rfl, plains_strs ws, shaped_str hx, hs⟩
  unfold dIn
  rw [this]
  rfl
theorem v_is_word {x : Str} (hx : PyData.strOk x = true) (ws : List Str) (h : ∀ w ∈ ws, PyData.strOk w = true) : F_is_word C [.str x, .tup (ws.map .str)] = some (.bl (ws.contains x)) := by
  refine retF ?_
  unfold B_is_word
  refine_lift' st [in_words hx ws h]
  exact rq_rt rfl
theorem v_is_length (i : Int) : F_is_length C [.int i] = some (.bl (decide (1 ≤ i) && decide (i ≤ 1000000000000))) := by
  refine retF ?_
  unfold B_is_length
  refine_lift' st [v_is_between C _ _ _]
  exact rq_rt rfl
theorem v_is_pass (p : Ps) (s : p.sane) (L : Int) : F_is_pass C [encP p, .int L] = some (.bl (passOk L p)) := by
  have hm := v_is_word C s.mode modes (by decide +kernel)
  have ht := v_is_word C s.tail tails (by decide +kernel)
  have hn := v_is_name C p.name s.nameL
  have hs := v_is_stretch C (p.first, p.last) 0 L
  have hto := v_are_touches C p.touches p.first p.last
  have hgl := v_is_between C p.glide 0 100
  refine retF ?_
  unfold B_is_pass
  unfold encP
  refine_lift' st
  · intro h
    simp at h
  · intro _
    refine_lift' st
    refine_lift' st
    refine_lift' st [hn]
    · intro h
      refine_lift' st
      refine rq_rt ?_
      unfold passOk
      have : (nameOk p.name && !decide (p.name = "old")) = false := by
        simp at h ⊢
        intro e; rcases h with h | h
        · rw [h] at e; cases e
        · exact h
      simp only [this, Bool.false_and]
    · intro h
      have h1 : (nameOk p.name && !decide (p.name = "old")) = true := by
        simp at h ⊢
        exact h
      refine_lift' st
      refine_lift' st [hm, ht]
      · intro h
        refine_lift' st
        refine rq_rt ?_
        unfold passOk
        have : (modes.contains p.mode && tails.contains p.tail) = false := by
          simp at h ⊢
          intro e; rcases h with h | h
          · exact (h e).elim
          · exact h
        rw [h1, Bool.true_and, this]
        simp only [Bool.false_and]
      · intro h
        have h2 : (modes.contains p.mode && tails.contains p.tail) = true := by
          simp at h ⊢
          exact h
        refine_lift' st
        refine_lift' st [hs]
        · intro h
          have h := (Bool.not_eq_true' _).mp h
          refine_lift' st
          refine rq_rt ?_
          unfold passOk
          rw [h1, Bool.true_and, h2, Bool.true_and]
          simp only at h
          rw [h]
          simp only [Bool.false_and]
        · intro h
          have h3 := (Bool.not_eq_false' _).mp h
          refine_lift' st
          refine_lift' st [hto, hgl]
          refine rq_rt ?_
          unfold passOk
          rw [h1, Bool.true_and, h2, Bool.true_and]
          simp only at h3
          rw [h3, Bool.true_and]
          simp only [Bool.and_assoc]
end
end My
set_option exponentiation.threshold 20000
namespace My
open PySem PySem.Spec PyProof.Rows L2 DL
section
variable (C : Addr)
theorem in_strL {x : Str} (hx : PyData.strOk x = true) (ws : List Str) (h : ∀ w ∈ ws, PyData.strOk w = true) : dIn (.str x) (.lst (ws.map .str)) = some (.bl (ws.contains x)) := by
  obtain ⟨a, b⟩ := canLay_strs ws h
  have hs : SeqAt.shaped (.list (toPs (ws.map D.str))) = true := by
    rw [strs_toPs]
    simp [SeqAt.shaped, PyData.canLay0, PyData.depth, a, b]
  have : dInB (.str x) (.lst (ws.map .str)) = some (ws.contains x) := by
    rw [← any_strs, ← strs_toPs]
    exact if_pos ⟨rfl, plains_strs ws, shaped_str hx, hs⟩
  unfold dIn
  rw [this]
  rfl
theorem enumD_map {α : Type} (enc : α → D) : ∀ (xs : List α) (k : Nat), enumD k (xs.map enc) = (xs.zipIdx k).map fun p => .tup [.int p.2, enc p.1]
  | [], _ => rfl
  | x :: xs, k => by
    rw [List.map_cons, enumD, enumD_map enc xs (k + 1), List.zipIdx_cons, List.map_cons]
structure PssOk (L : Int) (ps : List Ps) : Prop where
  sane : ∀ p ∈ ps, p.sane
  ok : ∀ p ∈ ps, passOk L p = true
  nd : (ps.map Ps.name).Nodup
  len : ps.length ≤ 8
theorem v_first_wrong (L : Int) (ps : List Ps) (h : PssOk L ps) : F_first_wrong C [.tup (ps.map encP), .int L] = some .non := by
  refine retF ?_
  unfold B_first_wrong
  refine_lift' st
  refine st_for (α := Ps × Nat) (enc := fun p => .tup [.int p.2, encP p.1]) (xs := ps.zipIdx) (ρ1 := [.dat (.tup (ps.map encP)), .dat (.int L), .own false (.lst []), .no, .no]) ?_ (fun ys ρ => ∃ x y, ρ = [.dat (.tup (ps.map encP)), .dat (.int L), .own false (.lst ((ys.map fun p => p.1.name).map .str)), x, y]) ⟨_, _, rfl⟩ ?_ ?_
  · have : enumT? [.tup (ps.map encP)] = some (ps.zipIdx.map fun p => .tup [.int p.2, encP p.1]) := by rw [← enumD_map]; rfl
    exact e_bd (v := [.tup (ps.map encP)]) rfl (e_l this)
  · rintro ys ⟨p, k⟩ zs ρ e ⟨x, y, rfl⟩
    refine ⟨(), [.dat (.tup (ps.map encP)), .dat (.int L), .own false (.lst ((ys.map fun p => p.1.name).map .str)), .dat (.int k), .dat (encP p)], rfl, ?_⟩
    have hk : (ys.map (·.1)).length = k ∧ ps = ys.map (·.1) ++ p :: zs.map (·.1) := by
      have e1 : ps = (ys ++ (p, k) :: zs).map (·.1) := by rw [← e, List.zipIdx_map_fst]
      rw [List.map_append, List.map_cons] at e1
      refine ⟨?_, e1⟩
      have e2 : List.range' 0 ps.length = (ys ++ (p, k) :: zs).map (·.2) := by rw [← e, List.zipIdx_map_snd]
      have e3 : (List.range' 0 ps.length)[ys.length]? = some k := by
        rw [e2, List.map_append, List.getElem?_append_right (by rw [List.length_map]; exact Nat.le_refl _), List.length_map, Nat.sub_self]
        rfl
      have hy : ys.length < ps.length := by rw [e1]; simp
      rw [List.getElem?_range' hy] at e3
      have e3 := Option.some.inj e3
      rw [List.length_map]; omega
    have hm : p ∈ ps := by rw [hk.2]; simp
    have hkl : k < 8 := by
      have h8 := h.len
      rw [hk.2, List.length_append, hk.1] at h8
      simp at h8
      omega
    have s := h.sane p hm
    have hp := v_is_pass C p s L
    rw [h.ok p hm] at hp
    have hin : dIn (.str p.name) (.lst ((ys.map fun p => p.1.name).map .str)) = some (.bl false) := by
      rw [in_strL s.name]
      · congr 2
        have nd := h.nd
        rw [hk.2, List.map_append, List.map_cons, List.nodup_append] at nd
        have := nd.2.2
        rw [List.contains_eq_mem, decide_eq_false_iff_not]
        intro q
        rw [List.map_map] at this
        exact this p.name q p.name (by simp) rfl
      · intro w hw
        obtain ⟨q, hq, rfl⟩ := List.mem_map.mp hw
        exact (h.sane q.1 (by rw [hk.2]; exact List.mem_append_left _ (List.mem_map.mpr ⟨q, hq, rfl⟩))).name
    have hlen : ((ys.map fun p => p.1.name).map D.str).length < sizeLine := by
      have : ys.length = k := by rw [← hk.1, List.length_map]
      rw [List.length_map, List.length_map, this]
      exact Nat.lt_of_lt_of_le hkl (len_le (by omega))
    have hge : dGe (.int k) (.int 8) = some (.bl false) := by
      show some (D.bl (decide ((8 : Int) ≤ k))) = _
      rw [decide_eq_false (by omega)]
    have hix : dIx (encP p) (.int 0) = some (.str p.name) := rfl
    refine st_one ?_
    refine_lift' st
    refine_lift' st [hge, hp, hix, hin]
    · intro h; cases h
    · intro _
      refine_lift' st
      refine_lift' st [hix, hlen]
      refine_lift' st
      refine ⟨.dat (.int k), .dat (encP p), ?_⟩
      rw [List.map_append, List.map_append]
      rfl
  · rintro ρ ⟨x, y, rfl⟩
    refine_lift' st
    exact rq_rt rfl
def encTr (C : Addr) (L : Int) (ps : List Ps) : D := .ins C ["_length", "_passes"] [.int L, .tup (ps.map encP)]
theorem v_Track_init (L : Int) (ps : List Ps) (h : PssOk L ps) (h1 : 1 ≤ L) (h2 : L ≤ 1000000000000) : F_Track_init C (.ins C [] []) [.int L, .tup (ps.map encP)] = some (.non, encTr C L ps) := by
  have hl := v_is_length C L
  rw [decide_eq_true h1, decide_eq_true h2] at hl
  have hw := v_first_wrong C L ps h
  have : ∃ d e, runO 3 1 (B_Track_init C) (.ins C [] []) [.int L, .tup (ps.map encP)] = some (d, e) ∧ d = .non ∧ e = encTr C L ps := by
    refine retOE ?_
    unfold B_Track_init
    refine_lift' st [hl]
    · intro h; cases h
    · intro _
      refine_lift' st
      refine_lift' st
      · intro h; cases h
      · intro _
        refine_lift' st
        refine_lift' st [hw]
        refine_lift' st
        · intro h; cases h
        · intro _
          refine_lift' st
          refine_lift' st
          refine_lift' st
          refine_lift' st
          exact ro_nx ⟨rfl, rfl⟩
  obtain ⟨d, e, q, rfl, rfl⟩ := this
  exact q
theorem v_Track_length (L : Int) (ps : List Ps) : F_Track_length C [encTr C L ps] = some (.int L) := by
  refine retF ?_
  unfold B_Track_length encTr
  refine_lift' st
  exact rq_rt rfl
theorem v_Track_passes (L : Int) (ps : List Ps) : F_Track_passes C [encTr C L ps] = some (.tup (ps.map encP)) := by
  refine retF ?_
  unfold B_Track_passes encTr
  refine_lift' st
  exact rq_rt rfl
end
end My
set_option exponentiation.threshold 20000
namespace My
open PySem PySem.Spec PyProof.Rows L2 DL
abbrev Wt := Int × Int
theorem big_bits {i : Int} (h : i.natAbs ≤ 2 ^ 1000) : Builtin.Int.intBits i ≤ 1001 := by
  refine Nat.le_trans (bits_mono (j := 2 ^ 1000) ?_) (by decide +kernel)
  rw [Int.natAbs_pow]; exact h
theorem mul_ok {i j : Int} (h : i.natAbs ≤ 2 ^ 1000) (h' : j.natAbs ≤ 2 ^ 1000) : dMul (.int i) (.int j) = some (.int (i * j)) := by
  have a := big_bits h
  have b := big_bits h'
  exact if_pos (by omega)
theorem div_ok {i j : Int} (h : 0 < j) (h' : j.natAbs ≤ 2 ^ 8000) : dDiv (.int i) (.int j) = some (.int (i / j)) := by
  refine if_pos ⟨h, ?_⟩
  have h0 : j.natAbs ≠ 0 := by omega
  have : j.natAbs.log2 < 8001 := (Nat.log2_lt h0).mpr (Nat.lt_of_le_of_lt h' (Nat.pow_lt_pow_right (by omega) (by omega)))
  omega
/-- a weight within k glides -/
structure WtOk (k : Nat) (w : Wt) : Prop where
  pos : 0 < w.2
  le : w.2 ≤ 101 ^ k
  num : 0 ≤ w.1
  lt : w.1 ≤ w.2
theorem WtOk.nat {k : Nat} {w : Wt} (h : WtOk k w) (hk : k ≤ 100) : w.1.natAbs ≤ 2 ^ 1000 ∧ w.2.natAbs ≤ 2 ^ 1000 := by
  have h1 : (101 : Int) ^ k ≤ 101 ^ 100 := by
    have : (101 : Nat) ^ k ≤ 101 ^ 100 := Nat.pow_le_pow_right (by omega) hk
    exact_mod_cast this
  have h2 : (101 : Int) ^ 100 ≤ 2 ^ 1000 := by decide +kernel
  have := h.le; have := h.num; have := h.lt; have := h.pos
  have e : ((2 : Nat) ^ 1000 : Nat) = ((2 : Int) ^ 1000).natAbs := by decide +kernel
  constructor
  · rw [e]; omega
  · rw [e]; omega
theorem WtOk.mono {j k : Nat} {w : Wt} (h : WtOk j w) (hk : j ≤ k) : WtOk k w := by
  have : (101 : Nat) ^ j ≤ 101 ^ k := Nat.pow_le_pow_right (by omega) hk
  have h1 : (101 : Int) ^ j ≤ 101 ^ k := by exact_mod_cast this
  exact ⟨h.pos, Int.le_trans h.le h1, h.num, h.lt⟩
end My
set_option exponentiation.threshold 20000
set_option exponentiation.threshold 20000
set_option exponentiation.threshold 20000
set_option exponentiation.threshold 20000
set_option exponentiation.threshold 20000
namespace My
open PySem PySem.Spec PyProof.Rows L2 DL
structure Pur where
  d : Int
  s : Int
  c : Int
def encPu (u : Pur) : D := .lst [.int u.d, .int u.s, .int u.c]
structure PurOk (m : Nat) (u : Pur) : Prop where
  bits : Builtin.Int.intBits u.d ≤ 1048576
  s0 : 0 ≤ u.s
  s1 : u.s < 2147483648
  c0 : 0 ≤ u.c
  c1 : u.c + (m : Int) ≤ 1000000000
theorem PurOk.mono {m n : Nat} {u : Pur} (h : PurOk m u) (k : n ≤ m) : PurOk n u := ⟨h.bits, h.s0, h.s1, h.c0, by have := h.c1; omega⟩
theorem mul_bits {i j : Int} (h : Builtin.Int.intBits i ≤ 10000000) (h' : Builtin.Int.intBits j ≤ 10000000) : dMul (.int i) (.int j) = some (.int (i * j)) := if_pos (by omega)
theorem mod_ok {i j : Int} (h : 0 < j) : dMod (.int i) (.int j) = some (.int (i % j)) := if_pos h
theorem divmod_ok {i j : Int} (h : 0 < j) (h' : j < 1073741824073741824) : dDivmod [.int i, .int j] = some (.tup [.int (i / j), .int (i % j)]) := by
  refine if_pos ⟨h, ?_⟩
  have h0 : j.natAbs ≠ 0 := by omega
  have : j.natAbs.log2 < 60 := (Nat.log2_lt h0).mpr (by omega)
  omega
section
variable (C : Addr)
theorem v_law_draw {m : Nat} {u : Pur} (hu : PurOk (m + 1) u) {n : Int} (h0 : 0 < n) (h1 : n < 1073741824073741824) : ∃ (i : Int) (u' : Pur), F_law_draw C (encPu u) [.int n] = some (.int i, encPu u') ∧ 0 ≤ i ∧ i < n ∧ PurOk m u' := by
  obtain ⟨d, s, c⟩ := u
  obtain ⟨b, s0, s1, c0, c1⟩ := hu
  simp only at b s0 s1 c0 c1
  have e1 := mod_ok (i := s) (j := 40009) (by decide)
  have q1 : 0 ≤ s % 40009 ∧ s % 40009 < 40009 := ⟨Int.emod_nonneg _ (by decide), Int.emod_lt_of_pos _ (by decide)⟩
  have c31 : (2 : Nat) ^ 31 ≤ 2 ^ 1000 := by decide +kernel
  have e2 : dMul (.int s) (.int (s % 40009 + 20021)) = some (.int (s * (s % 40009 + 20021))) := mul_ok (Nat.le_trans (by omega) c31) (Nat.le_trans (by omega) c31)
  have e3 : dMul (.int 60013) (.int (c + 1)) = some (.int (60013 * (c + 1))) := mul_ok (Nat.le_trans (by omega) c31) (Nat.le_trans (by omega) c31)
  have e4 := mod_ok (i := s * (s % 40009 + 20021) + 60013 * (c + 1) + 11) (j := 2147483629) (by decide)
  have q4 : 0 ≤ (s * (s % 40009 + 20021) + 60013 * (c + 1) + 11) % 2147483629 ∧ (s * (s % 40009 + 20021) + 60013 * (c + 1) + 11) % 2147483629 < 2147483629 := ⟨Int.emod_nonneg _ (by decide), Int.emod_lt_of_pos _ (by decide)⟩
  generalize hS : (s * (s % 40009 + 20021) + 60013 * (c + 1) + 11) % 2147483629 = S at e4 q4
  have e5 := divmod_ok (i := d) h0 h1
  have e6 : dDiv (.int S) (.int 89) = some (.int (S / 89)) := div_ok (by decide) (Nat.le_trans (by decide : (89 : Int).natAbs ≤ 2 ^ 31) (Nat.pow_le_pow_right (by decide) (by decide)))
  have e7 := mod_ok (i := S / 89) h0
  have i1 : ∀ i : Int, dInt [.int i] = some (.int i) := fun i => rfl
  have : ∃ r u', runO 2 3 (B_law_draw C) (encPu ⟨d, s, c⟩) [.int n] = some (r, u') ∧ ∃ (i : Int) (v : Pur), r = .int i ∧ u' = encPu v ∧ 0 ≤ i ∧ i < n ∧ PurOk m v := by
    refine retOE ?_
    unfold B_law_draw encPu
    refine_lift' st [e1, i1 _]
    refine_lift' st
    refine_lift' st [e2, e3, e4, i1 _]
    refine_lift' st
    · intro h
      have hd : 0 < d := of_decide_eq_true h
      refine_lift' st
      refine_lift' st [e5]
      refine_lift' st
      exact ro_rt ⟨d % n, ⟨d / n, S, c + 1⟩, rfl, rfl, Int.emod_nonneg _ (by omega), Int.emod_lt_of_pos _ h0, Nat.le_trans (bits_div (by omega) h0) b, by simp only; omega, by simp only; omega, by simp only; omega, by simp only; omega⟩
    · intro h
      refine_lift' st
      refine_lift' st [e6, e7, i1 _]
      exact ro_rt ⟨S / 89 % n, ⟨d, S, c + 1⟩, rfl, rfl, Int.emod_nonneg _ (by omega), Int.emod_lt_of_pos _ h0, b, by simp only; omega, by simp only; omega, by simp only; omega, by simp only; omega⟩
  obtain ⟨r, u', e, i, v, rfl, rfl, h⟩ := this
  exact ⟨i, v, e, h⟩
theorem v_law_pick {m : Nat} {u : Pur} (hu : PurOk (m + 1) u) {ds : List D} (h0 : 0 < ds.length) (h1 : ds.length ≤ 1000) : ∃ (x : D) (u' : Pur), F_law_pick C (encPu u) [.lst ds] = some (x, encPu u') ∧ x ∈ ds ∧ PurOk m u' := by
  obtain ⟨i, u1, e, i0, i1, hu1⟩ := v_law_draw C hu (n := ds.length) (by omega) (by omega)
  obtain ⟨j, rfl⟩ : ∃ j : Nat, i = j := ⟨i.toNat, by omega⟩
  have hj : j < ds.length := by omega
  have hix : dIx (.lst ds) (.int j) = some ds[j] := atI_nat (by rw [List.getElem?_eq_getElem hj])
  have : ∃ r u', runO 2 0 (B_law_pick C) (encPu u) [.lst ds] = some (r, u') ∧ r = ds[j] ∧ u' = encPu u1 := by
    refine retOE ?_
    unfold B_law_pick
    refine_lift' st [e, hix]
    exact ro_rt ⟨rfl, rfl⟩
  obtain ⟨r, u', e', rfl, rfl⟩ := this
  exact ⟨_, u1, e', List.getElem_mem hj, hu1⟩
theorem cut4 (ns : List Int) : dSl (.scr ns) none (some 4) = some (.lst ((ns.take 4).map .int)) := by
  have : DL.cutD ns none (some ((4 : Nat) : Int)) = ns.take 4 := by
    unfold DL.cutD
    rw [HT.sIx_none, HT.sIx_nat, List.drop_zero, Nat.sub_zero]
    by_cases h : 4 ≤ ns.length
    · rw [Nat.min_eq_left h]
    · rw [Nat.min_eq_right (by omega), List.take_length, List.take_of_length_le (by omega)]
  show some (D.lst ((DL.cutD ns none (some ((4 : Nat) : Int))).map .int)) = _
  rw [this]
theorem v_law_purse {ns : List Int} (hb : ∀ z ∈ ns, Builtin.Int.intBits z ≤ 1048576) {k : Nat} (hk : k ≤ 100) : ∃ u : Pur, F_law_purse C [.scr ns, .int k] = some (encPu u) ∧ PurOk 1000000000 u := by
  have c31 : (2 : Nat) ^ 40 ≤ 2 ^ 1000 := by decide +kernel
  have i1 : ∀ i : Int, dInt [.int i] = some (.int i) := fun i => rfl
  have : ∃ d, F_law_purse C [.scr ns, .int k] = some d ∧ ∃ u : Pur, d = encPu u ∧ PurOk 1000000000 u := by
    refine retNE ?_
    unfold B_law_purse
    refine_lift' st
    · intro h
      have lk : k < ns.length := by
        have := of_decide_eq_true h
        omega
      have hc := hb _ (List.getElem_mem lk)
      have hix : dIx (.scr ns) (.int k) = some (.int ns[k]) := by
        show (atI ns k).map D.int = _
        rw [atI_nat (j := k) (by rw [List.getElem?_eq_getElem lk])]
        rfl
      generalize ns[k] = cell at hc hix
      have e1 : dMul (.int cell) (.int 39373) = some (.int (cell * 39373)) := mul_bits (Nat.le_trans hc (by decide)) (by decide)
      have e2 : dMul (.int 104723) (.int k) = some (.int (104723 * (k : Int))) := mul_ok (Nat.le_trans (by decide) c31) (Nat.le_trans (by omega) c31)
      have e3 := mod_ok (i := cell * 39373 + 104723 * (k : Int) + 17) (j := 2147483629) (by decide)
      have q3 : 0 ≤ (cell * 39373 + 104723 * (k : Int) + 17) % 2147483629 ∧ (cell * 39373 + 104723 * (k : Int) + 17) % 2147483629 < 2147483629 := ⟨Int.emod_nonneg _ (by decide), Int.emod_lt_of_pos _ (by decide)⟩
      have ab : dAbs [.int cell] = some (.int (if cell < 0 then -cell else cell)) := rfl
      have p18 : dPow (.int 10) (.int 18) = some (.int 1000000000000000000) := by
        have e : ((10 : Int) ^ (18 : Int).toNat) = 1000000000000000000 := by decide +kernel
        rw [← e]
        exact if_pos (e := none) (show (0 : Int) ≤ 18 ∧ (18 : Int) ≤ 1000000 ∧ (10 : Int).natAbs < 2 ^ 64 by decide +kernel)
      generalize hS : (cell * 39373 + 104723 * (k : Int) + 17) % 2147483629 = S at e3 q3
      refine_lift' st
      refine_lift' st [hix]
      have m3 : ∀ ρ : Cs, mVar 2 ρ = some (.int cell, ρ) → ∃ d : Int, mIf (mOr (mTst (mOp dLt (mVar 2) (mC (.int 0)))) (mTst (mOp dGe (mVar 2) (mOp dPow (mC (.int 10)) (mC (.int 18)))))) (mFn dAbs (aCons (mVar 2) aNil)) (mC (.int 0)) ρ = some (.int d, ρ) ∧ Builtin.Int.intBits d ≤ 1048576 := by
        intro ρ h
        cases hq : (decide (cell < 0) || decide ((1000000000000000000 : Int) ≤ cell)) with
        | true =>
          refine ⟨if cell < 0 then -cell else cell, e_if1 (by rw [← hq]; refine_lift' ev [p18]) (by refine_lift' ev), Nat.le_trans (bits_mono ?_) hc⟩
          split <;> omega
        | false => exact ⟨0, e_if0 (by rw [← hq]; refine_lift' ev [p18]) rfl, by decide⟩
      obtain ⟨d, hd, bd⟩ := m3 [.dat (.scr ns), .dat (.int k), .dat (.int cell), .no, .no] rfl
      refine_lift' st
      refine st_set (ρ := [.dat (.scr ns), .dat (.int k), .dat (.int cell), .no, .no]) hd ?_
      refine_lift' st [e1, e2, e3, i1 _]
      exact rn_rn ⟨⟨d, S, 0⟩, rfl, bd, by simp only; omega, by simp only; omega, by simp only; omega, by simp only; omega⟩
    · intro _
      have e1 : dMul (.int 86243) (.int k) = some (.int (86243 * (k : Int))) := mul_ok (Nat.le_trans (by decide) c31) (Nat.le_trans (by omega) c31)
      have hc4 := cut4 ns
      refine_lift' st
      refine_lift' st [e1]
      refine st_for (α := Int) (enc := D.int) (xs := ns.take 4) (ρ1 := [.dat (.scr ns), .dat (.int k), .no, .no, .dat (.int (86243 * (k : Int) + 131))]) ?_ (fun ys ρ => ∃ (y : Cell) (s : Int), ρ = [.dat (.scr ns), .dat (.int k), y, .no, .dat (.int s)] ∧ 0 ≤ s ∧ s < 2147483648) ⟨_, _, rfl, by omega, by omega⟩ ?_ ?_
      · have h1 : mSl dSl (mVar 0) mNo (mPart (mC (.int 4))) [.dat (.scr ns), .dat (.int k), .no, .no, .dat (.int (86243 * (k : Int) + 131))] = some (.lst ((ns.take 4).map .int), [.dat (.scr ns), .dat (.int k), .no, .no, .dat (.int (86243 * (k : Int) + 131))]) := by refine_lift' ev [hc4]
        exact e_bd h1 (e_l rfl)
      · rintro ys x zs ρ e ⟨y, s, rfl, s0, s1⟩
        have e2 : dMul (.int s) (.int 48271) = some (.int (s * 48271)) := mul_ok (Nat.le_trans (by omega) c31) (Nat.le_trans (by decide) c31)
        have e3 := mod_ok (i := s * 48271 + x) (j := 2147483587) (by decide)
        have q3 : 0 ≤ (s * 48271 + x) % 2147483587 ∧ (s * 48271 + x) % 2147483587 < 2147483587 := ⟨Int.emod_nonneg _ (by decide), Int.emod_lt_of_pos _ (by decide)⟩
        refine ⟨(), [.dat (.scr ns), .dat (.int k), .dat (.int x), .no, .dat (.int s)], rfl, ?_⟩
        refine_lift' st [e2, e3, i1 _]
        refine_lift' st
        exact ⟨.dat (.int x), _, rfl, q3.1, by omega⟩
      · rintro ρ ⟨y, s, rfl, s0, s1⟩
        refine_lift' st
        exact rn_rn ⟨⟨0, s, 0⟩, rfl, by show Builtin.Int.intBits 0 ≤ 1048576; decide, s0, s1, by show (0 : Int) ≤ 0; decide, by show (0 : Int) + 1000000000 ≤ 1000000000; decide⟩
  obtain ⟨d, e, u, rfl, h⟩ := this
  exact ⟨u, e, h⟩
end
end My
set_option exponentiation.threshold 20000
namespace My
open PySem PySem.Spec PyProof.Rows L2 DL
structure Gd (n : Nat) (d : D) : Prop where
  p : DL.plain d = true
  l : (toP d).canLay0 = true
  dp : (toP d).depth ≤ n
  e : PyData.eqv (toP d) (toP d) = true
theorem gd_int (n : Nat) (i : Int) : Gd n (.int i) := ⟨rfl, by simp [toP, PyData.canLay0], by simp [toP, PyData.depth], by simp [toP, PyData.eqv]⟩
theorem gd_str (n : Nat) {x : Str} (h : PyData.strOk x = true) : Gd n (.str x) := ⟨rfl, by simp [toP, PyData.canLay0, h], by simp [toP, PyData.depth], by simp [toP, PyData.eqv]⟩
theorem gds {n : Nat} : ∀ {ds : List D}, (∀ d ∈ ds, Gd n d) → plains ds = true ∧ PyData.canLayAll0 (toPs ds) = true ∧ PyData.depthAll (toPs ds) ≤ n ∧ PyData.eqvAll (toPs ds) (toPs ds) = true
  | [], _ => by simp [plains, toPs, PyData.canLayAll0, PyData.depthAll, PyData.eqvAll]
  | d :: ds, h => by
    obtain ⟨a, b, c, e⟩ := gds fun x hx => h x (List.mem_cons_of_mem _ hx)
    have g := h d List.mem_cons_self
    refine ⟨by simp only [plains, g.p, a, Bool.and_self], by simp only [toPs, PyData.canLayAll0, g.l, b, Bool.and_self], ?_, by simp only [toPs, PyData.eqvAll, g.e, e, Bool.and_self]⟩
    simp only [toPs, PyData.depthAll]
    exact Nat.max_le.mpr ⟨g.dp, c⟩
theorem gd_tup {n : Nat} {ds : List D} (h : ∀ d ∈ ds, Gd n d) : Gd (n + 1) (.tup ds) := by
  obtain ⟨a, b, c, e⟩ := gds h
  exact ⟨by simpa [DL.plain] using a, by simpa [toP, PyData.canLay0] using b, by simp only [toP, PyData.depth]; omega, by simpa [toP, PyData.eqv] using e⟩
theorem gd_lst {n : Nat} {ds : List D} (h : ∀ d ∈ ds, Gd n d) : Gd (n + 1) (.lst ds) := by
  obtain ⟨a, b, c, e⟩ := gds h
  exact ⟨by simpa [DL.plain] using a, by simpa [toP, PyData.canLay0] using b, by simp only [toP, PyData.depth]; omega, by simpa [toP, PyData.eqv] using e⟩
theorem eqs_same {n : Nat} {d : D} (h : Gd n d) (hn : n ≤ 64) : eqs d d = some true := by
  unfold eqs
  have s : SeqAt.shaped (toP d) = true := by
    unfold SeqAt.shaped
    rw [h.l, decide_eq_true (Nat.le_trans h.dp hn)]
    rfl
  rw [if_pos ⟨h.p, h.p, s, s⟩, h.e]
theorem ne_tup {n : Nat} {ds : List D} (h : Gd n (.tup ds)) (hn : n ≤ 64) : dNe (.tup ds) (.tup ds) = some (.bl false) := by
  show (eqs _ _).map _ = _
  rw [eqs_same h hn]; rfl
end My
set_option exponentiation.threshold 20000
set_option exponentiation.threshold 20000
namespace My
open PySem PySem.Spec PyProof.Rows L2 DL
structure BodyOk (L : Int) (p : Ps) : Prop where
  mode : modes.contains p.mode = true
  tail : tails.contains p.tail = true
  rng : 0 ≤ p.first ∧ p.first + 1 ≤ p.last ∧ p.last ≤ L
  tl : p.touches.length ≤ 6
  tok : touchesOk p.last p.touches p.first = true
  gl : 0 ≤ p.glide ∧ p.glide ≤ 100
theorem modes_strOk {x : Str} (h : modes.contains x = true) : PyData.strOk x = true := by
  have h := List.contains_iff_mem.mp h
  simp only [modes, List.mem_cons, List.not_mem_nil, or_false] at h
  rcases h with rfl | rfl | rfl | rfl <;> decide +kernel
theorem tails_strOk {x : Str} (h : tails.contains x = true) : PyData.strOk x = true := by
  have h := List.contains_iff_mem.mp h
  simp only [tails, List.mem_cons, List.not_mem_nil, or_false] at h
  rcases h with rfl | rfl <;> decide +kernel
theorem passOk_of {L : Int} {p : Ps} (h : BodyOk L p) (a : nameOk p.name = true) (b : p.name ≠ "old") : passOk L p = true := by
  have r := h.rng
  unfold passOk
  rw [a, h.mode, h.tail, h.tok, decide_eq_false b, decide_eq_true r.1, decide_eq_true (show p.first ≤ L by omega), decide_eq_true r.2.1, decide_eq_true r.2.2, decide_eq_true h.tl, decide_eq_true h.gl.1, decide_eq_true h.gl.2]
  rfl
theorem sane_of {L : Int} {p : Ps} (h : BodyOk L p) (a : PyData.strOk p.name = true) (b : p.name.length ≤ 1000) : p.sane := ⟨a, modes_strOk h.mode, tails_strOk h.tail, len_le b⟩
theorem b_of_pass {L : Int} {p : Ps} (h : passOk L p = true) : BodyOk L p ∧ nameOk p.name = true ∧ p.name ≠ "old" := by
  unfold passOk at h
  simp only [Bool.and_eq_true, decide_eq_true_eq, Bool.not_eq_true', decide_eq_false_iff_not] at h
  obtain ⟨⟨⟨⟨⟨⟨⟨⟨a, b⟩, c⟩, d⟩, e⟩, f⟩, g⟩, i⟩, j⟩ := h
  exact ⟨⟨c, d, ⟨e.1.1, e.2.1, e.2.2⟩, f, g, i, j⟩, a, b⟩
theorem it_rng1 {ρ ρ1 : Cs} {l : Mo (List D)} {n : Nat} (h : l ρ = some ([.int n], ρ1)) (hn : n ≤ 1000000) : iFn rng1? l ρ = some ((List.range n).map fun k : Nat => D.int (0 + (k : Int)), ρ1) := by
  refine e_bd h ?_
  show mL (rng1? [.int n]) ρ1 = _
  rw [rng_ok hn]
  rfl
section
variable (C : Addr)
theorem v_law_pickI {m : Nat} {u : Pur} (hu : PurOk (m + 1) u) (is : List Int) (h0 : 0 < is.length := by simp) (h1 : is.length ≤ 1000 := by simp) : ∃ (i : Int) (u' : Pur), F_law_pick C (encPu u) [.lst (is.map .int)] = some (.int i, encPu u') ∧ i ∈ is ∧ PurOk m u' := by
  obtain ⟨x, u', e, hx, hu'⟩ := v_law_pick C hu (ds := is.map .int) (by simpa using h0) (by simpa using h1)
  obtain ⟨i, hi, rfl⟩ := List.mem_map.mp hx
  exact ⟨i, u', e, hi, hu'⟩
theorem v_law_pickS {m : Nat} {u : Pur} (hu : PurOk (m + 1) u) (is : List Str) (h0 : 0 < is.length := by simp) (h1 : is.length ≤ 1000 := by simp) : ∃ (i : Str) (u' : Pur), F_law_pick C (encPu u) [.lst (is.map .str)] = some (.str i, encPu u') ∧ i ∈ is ∧ PurOk m u' := by
  obtain ⟨x, u', e, hx, hu'⟩ := v_law_pick C hu (ds := is.map .str) (by simpa using h0) (by simpa using h1)
  obtain ⟨i, hi, rfl⟩ := List.mem_map.mp hx
  exact ⟨i, u', e, hi, hu'⟩
theorem mul_s {i j : Int} (h : i.natAbs ≤ 2 ^ 200) (h' : j.natAbs ≤ 2 ^ 200) : dMul (.int i) (.int j) = some (.int (i * j)) := mul_ok (Nat.le_trans h (Nat.pow_le_pow_right (by omega) (by omega))) (Nat.le_trans h' (Nat.pow_le_pow_right (by omega) (by omega)))
theorem v_law_touches {m n : Nat} {u : Pur} {first last wide : Int} (hu : PurOk (m + 4 * n) u) (hf : 0 ≤ first) (hf1 : first ≤ 1000000000000) (hl : last ≤ 1000000000000) (hn : n ≤ 100) (hw : 0 ≤ wide) (hw' : wide ≤ 1000000000000) :
    ∃ (ts : List (Int × Int)) (u' : Pur), F_law_touches C (encPu u) [.int first, .int last, .int n, .int wide] = some (.tup (ts.map encT), encPu u') ∧ touchesOk last ts first = true ∧ ts.length ≤ n ∧ PurOk m u' := by
  have : ∃ r e, runO 5 5 (B_law_touches C) (encPu u) [.int first, .int last, .int n, .int wide] = some (r, e) ∧ ∃ (ts : List (Int × Int)) (u' : Pur), r = .tup (ts.map encT) ∧ e = encPu u' ∧ touchesOk last ts first = true ∧ ts.length ≤ n ∧ PurOk m u' := by
    refine retOE ?_
    unfold B_law_touches
    refine_lift' st
    refine st_for (α := Nat) (enc := fun k : Nat => D.int (0 + (k : Int))) (xs := List.range n) (ρ1 := [.own true (encPu u), .dat (.int first), .dat (.int last), .dat (.int n), .dat (.int wide), .own false (.lst []), .dat (.int first), .no, .no, .no]) ?_
      (fun ys ρ => ∃ (u' : Pur) (ts : List (Int × Int)) (a : Int) (x y z : Cell), ρ = [.own true (encPu u'), .dat (.int first), .dat (.int last), .dat (.int n), .dat (.int wide), .own false (.lst (ts.map encT)), .dat (.int a), x, y, z] ∧ PurOk (m + 4 * (n - ys.length)) u' ∧ ts.length ≤ ys.length ∧ 0 ≤ a ∧ a ≤ 1000000000001 ∧ ∀ zs, touchesOk last (ts ++ zs) first = touchesOk last zs a)
      ⟨u, [], first, _, _, _, rfl, by simpa using hu, Nat.le_refl _, hf, by omega, fun _ => rfl⟩ ?_ ?_
    · refine it_rng1 (n := n) (ρ1 := [.own true (encPu u), .dat (.int first), .dat (.int last), .dat (.int n), .dat (.int wide), .own false (.lst []), .dat (.int first), .no, .no, .no]) ?_ (by omega)
      refine_lift' eva
    · rintro ys k zs ρ e ⟨u0, ts, a, x, y, z, rfl, hu0, htl, ha0, ha1, q⟩
      have hyn : ys.length < n := by
        have := congrArg List.length e
        rw [List.length_range, List.length_append, List.length_cons] at this
        omega
      have hu0 : PurOk (m + 4 * (n - (ys.length + 1)) + 1 + 1 + 1 + 1) u0 := hu0.mono (by omega)
      obtain ⟨i1, u1, e1, i10, i11, hu1⟩ := v_law_draw C hu0 (n := 4) (by decide) (by decide)
      obtain ⟨w1, u2, e2, hw1, hu2⟩ := v_law_pickI C hu1 [1, 1, wide]
      obtain ⟨i3, u3, e3, i30, i31, hu3⟩ := v_law_draw C hu2 (n := 3) (by decide) (by decide)
      obtain ⟨w4, u4, e4, hw4, hu4⟩ := v_law_pickI C hu3 [1, 1, wide]
      have hw1 : 0 ≤ w1 ∧ w1 ≤ 1000000000000 := by simp at hw1; omega
      have hw4 : 0 ≤ w4 ∧ w4 ≤ 1000000000000 := by simp at hw4; omega
      have m1 : dMul (.int i1) (.int w1) = some (.int (i1 * w1)) := mul_s (Nat.le_trans (by omega : i1.natAbs ≤ 2 ^ 60) (by decide)) (Nat.le_trans (by omega : w1.natAbs ≤ 2 ^ 60) (by decide))
      have m2 : dMul (.int i3) (.int w4) = some (.int (i3 * w4)) := mul_s (Nat.le_trans (by omega : i3.natAbs ≤ 2 ^ 60) (by decide)) (Nat.le_trans (by omega : w4.natAbs ≤ 2 ^ 60) (by decide))
      have p1 : 0 ≤ i1 * w1 := Int.mul_nonneg i10 hw1.1
      have p2 : 0 ≤ i3 * w4 := Int.mul_nonneg i30 hw4.1
      have hl1 : (ts.map encT).length < sizeLine := by rw [List.length_map]; exact Nat.lt_of_lt_of_le (by omega : ts.length < 200) (len_le (by omega))
      refine ⟨(), [.own true (encPu u0), .dat (.int first), .dat (.int last), .dat (.int n), .dat (.int wide), .own false (.lst (ts.map encT)), .dat (.int a), .dat (.int (0 + (k : Int))), y, z], rfl, ?_⟩
      refine st_one ?_
      refine_lift' st
      refine_lift' st [e1, e2, m1]
      refine_lift' st
      refine_lift' st [e3, e4, m2]
      refine_lift' st
      · intro h
        have h := of_decide_eq_true h
        refine_lift' st
        refine_lift' st [hl1]
        refine_lift' st
        refine ⟨u4, ts ++ [(a + i1 * w1, a + i1 * w1 + 1 + i3 * w4)], a + i1 * w1 + 1 + i3 * w4 + 1, .dat (.int (0 + (k : Int))), .dat (.int (a + i1 * w1)), .dat (.int (a + i1 * w1 + 1 + i3 * w4)), by rw [List.map_append]; rfl, ?_, ?_, by omega, by omega, fun zs' => ?_⟩
        · rw [List.length_append]; exact hu4
        · rw [List.length_append, List.length_append, List.length_singleton, List.length_singleton]; omega
        · rw [List.append_assoc, q]
          show touchesOk last ((a + i1 * w1, a + i1 * w1 + 1 + i3 * w4) :: zs') a = _
          rw [touchesOk]
          simp only
          rw [decide_eq_true (by omega), decide_eq_true (by omega), decide_eq_true (by omega), decide_eq_true (by omega)]
          rfl
      · intro h
        refine_lift' st
        refine ⟨u4, ts, a, .dat (.int (0 + (k : Int))), .dat (.int (a + i1 * w1)), .dat (.int (a + i1 * w1 + 1 + i3 * w4)), rfl, ?_, ?_, ha0, ha1, q⟩
        · rw [List.length_append]; exact hu4
        · rw [List.length_append]; omega
    · rintro ρ ⟨u', ts, a, x, y, z, rfl, hu', htl, _, _, q⟩
      refine_lift' st
      rw [List.length_range] at htl hu'
      refine ro_rt ⟨ts, u', rfl, rfl, ?_, htl, hu'.mono (by omega)⟩
      have := q []
      rw [List.append_nil] at this
      rw [this]
      rfl
  obtain ⟨r, e, h, ts, u', rfl, rfl, h2⟩ := this
  exact ⟨ts, u', h, h2⟩
end
end My
set_option exponentiation.threshold 20000
namespace My
open PySem PySem.Spec PyProof.Rows L2 DL
theorem max_eq (a b : Int) : dMax [.int a, .int b] = some (.int (if b > a then b else a)) := rfl
theorem div_s {i j : Int} (h : 0 < j) (h' : j ≤ 1000000000000) : dDiv (.int i) (.int j) = some (.int (i / j)) := div_ok h (Nat.le_trans (by omega : j.natAbs ≤ 2 ^ 60) (Nat.pow_le_pow_right (by decide) (by decide)))
theorem drawn_modes {x : Str} (h : x ∈ (["write", "latch", "touch", "touch", "trim"] : List Str)) : modes.contains x = true := by
  simp only [List.mem_cons, List.not_mem_nil, or_false] at h
  rcases h with rfl | rfl | rfl | rfl | rfl <;> decide +kernel
theorem drawn_tails {x : Str} (h : x ∈ (["stop", "stop", "on"] : List Str)) : tails.contains x = true := by
  simp only [List.mem_cons, List.not_mem_nil, or_false] at h
  rcases h with rfl | rfl | rfl <;> decide +kernel
end My
set_option exponentiation.threshold 20000
namespace My
open PySem PySem.Spec PyProof.Rows L2 DL
theorem cut_drop {α : Type} (xs : List α) (n : Nat) : DL.cutD xs (some (n : Int)) none = xs.drop n := by
  unfold DL.cutD
  rw [HT.sIx_none, HT.sIx_nat]
  by_cases h : n ≤ xs.length
  · rw [Nat.min_eq_left h, List.take_of_length_le (by rw [List.length_drop]; omega)]
  · rw [Nat.min_eq_right (by omega), List.drop_length, List.drop_of_length_le (by omega)]
    simp
theorem cut_take {α : Type} (xs : List α) (n : Nat) : DL.cutD xs none (some (n : Int)) = xs.take n := by
  unfold DL.cutD
  rw [HT.sIx_none, HT.sIx_nat, List.drop_zero, Nat.sub_zero]
  by_cases h : n ≤ xs.length
  · rw [Nat.min_eq_left h]
  · rw [Nat.min_eq_right (by omega), List.take_length, List.take_of_length_le (by omega)]
theorem sl_drop (ds : List D) (n : Nat) : dSl (.lst ds) (some (n : Int)) none = some (.lst (ds.drop n)) := by
  show some (D.lst (DL.cutD ds _ _)) = _
  rw [cut_drop]
theorem sl_take (ds : List D) (n : Nat) : dSl (.lst ds) none (some (n : Int)) = some (.lst (ds.take n)) := by
  show some (D.lst (DL.cutD ds _ _)) = _
  rw [cut_take]
theorem add_lst {a b : List D} (h : a.length + b.length ≤ 1000) : dAdd (.lst a) (.lst b) = some (.lst (a ++ b)) := if_pos (len_le h)
theorem ix_lst {ds : List D} {k : Nat} (h : k < ds.length) : dIx (.lst ds) (.int (0 + (k : Int))) = some ds[k] := by
  rw [Int.zero_add]
  exact atI_nat (by rw [List.getElem?_eq_getElem h])
theorem pow_ok {j : Nat} (h : j ≤ 100) : dPow (.int 10) (.int j) = some (.int (10 ^ j)) := by
  have : ((10 : Int) ^ (j : Int).toNat) = 10 ^ j := by rw [Int.toNat_natCast]
  rw [← this]
  exact if_pos (e := none) ⟨by omega, by omega, by decide⟩
theorem pow6 : dPow (.int 10) (.int 6) = some (.int 1000000) := pow_ok (j := 6) (by decide)
theorem pow12 : dPow (.int 10) (.int 12) = some (.int 1000000000000) := pow_ok (j := 12) (by decide)
theorem lc_nil {vs : List Nat} {g : D → Mo Unit} {t : Mo Bool} {e : Mo D} {acc : List D} {ρ : Cs} : goLc vs g t e [] acc ρ = some (acc, ρ) := rfl
theorem lc_cons {vs : List Nat} {g : D → Mo Unit} {e : Mo D} {acc xs : List D} {x y : D} {u : Unit} {ρ ρ1 ρ2 : Cs} {r : Option (List D × Cs)} (hg : g x (clr vs ρ) = some (u, ρ1)) (he : e ρ1 = some (y, ρ2)) (hl : acc.length < 1000) (hr : goLc vs g (mC true) e xs (acc ++ [y]) ρ2 = r) : goLc vs g (mC true) e (x :: xs) acc ρ = r := by
  unfold goLc
  simp only [hg, e_c, he]
  rw [if_pos (Nat.lt_of_lt_of_le hl (len_le (Nat.le_refl _)))]
  exact hr
theorem lc_of {vs : List Nat} {it : Mo (List D)} {g : D → Mo Unit} {t : Mo Bool} {e : Mo D} {ds acc : List D} {ρ ρ1 ρ' : Cs} (hi : it ρ = some (ds, ρ1)) (hf : free vs ρ1 = true) (h : goLc vs g t e ds [] (clr vs ρ1) = some (acc, ρ')) : mLc vs it g t e ρ = some (.lst acc, back vs ρ1 (clr vs ρ')) := by
  refine e_bd hi ?_
  rw [if_pos hf, h]
def rot {α : Type} (xs : List α) (n : Nat) : List α := xs.drop n ++ xs.take n
theorem rot_len {α : Type} (xs : List α) (n : Nat) : (rot xs n).length = xs.length := by
  unfold rot
  rw [List.length_append, List.length_drop, List.length_take]
  omega
theorem rot_map {α β : Type} (f : α → β) (xs : List α) (n : Nat) : rot (xs.map f) n = (rot xs n).map f := by
  unfold rot
  rw [List.map_append, List.map_drop, List.map_take]
theorem rot_perm {α : Type} (xs : List α) (n : Nat) : (rot xs n).Perm xs := by
  unfold rot
  refine List.perm_append_comm.trans ?_
  rw [List.take_append_drop]
/-- passes of a row: their names are the first of some -/
structure RowOk (L : Int) (ns : List Str) (ps : List Ps) : Prop where
  names : ps.map Ps.name = ns.take ps.length
  body : ∀ p ∈ ps, BodyOk L p
structure NmsOk (ns : List Str) : Prop where
  nd : ns.Nodup
  ok : ∀ x ∈ ns, nameOk x = true ∧ x ≠ "old" ∧ PyData.strOk x = true ∧ x.length ≤ 1000
theorem NmsOk.perm {ns ms : List Str} (h : NmsOk ns) (p : ms.Perm ns) : NmsOk ms := ⟨p.nodup_iff.mpr h.nd, fun x hx => h.ok x (p.mem_iff.mp hx)⟩
theorem RowOk.pss {L : Int} {ns : List Str} {ps : List Ps} (h : RowOk L ns ps) (hn : NmsOk ns) (hl : ps.length ≤ 8) : PssOk L ps := by
  have hm : ∀ p ∈ ps, p.name ∈ ns := fun p hp => List.mem_of_mem_take (by rw [← h.names]; exact List.mem_map.mpr ⟨p, hp, rfl⟩)
  refine ⟨fun p hp => ?_, fun p hp => ?_, ?_, hl⟩
  · obtain ⟨_, _, c, d⟩ := hn.ok _ (hm p hp)
    exact sane_of (h.body p hp) c d
  · obtain ⟨a, b, _, _⟩ := hn.ok _ (hm p hp)
    exact passOk_of (h.body p hp) a b
  · rw [h.names]
    exact hn.nd.sublist (List.take_sublist _ _)
theorem RowOk.snoc {L : Int} {ns : List Str} {ps : List Ps} {p : Ps} (h : RowOk L ns ps) (hb : BodyOk L p) (hl : ps.length < ns.length) (hn : p.name = ns[ps.length]) : RowOk L ns (ps ++ [p]) := by
  refine ⟨?_, fun q hq => ?_⟩
  · rw [List.map_append, h.names, List.length_append, List.length_singleton, List.take_add_one, List.getElem?_eq_getElem hl]
    simp [hn]
  · rcases List.mem_append.mp hq with hq | hq
    · exact h.body q hq
    · rw [List.mem_singleton.mp hq]; exact hb
end My
set_option exponentiation.threshold 20000
namespace My
open PySem PySem.Spec PyProof.Rows L2 DL
def allWords : List Str := ["a", "b", "olds", "z9", "write", "c", "on", "pass", "abcdefgh", "t0000001", "ol", "track", "ab", "aa"]
theorem allWords_ok : NmsOk allWords := ⟨by decide +kernel, by decide +kernel⟩
theorem NmsOk.take {ns : List Str} (h : NmsOk ns) (k : Nat) : NmsOk (ns.take k) := ⟨h.nd.sublist (List.take_sublist _ _), fun x hx => h.ok x (List.mem_of_mem_take hx)⟩
section
variable (C : Addr)
theorem v_law_words {m : Nat} {u : Pur} (hu : PurOk (m + 1) u) : ∃ (n : Nat) (u' : Pur), F_law_words C (encPu u) [] = some (.lst (((rot allWords n).take 8).map .str), encPu u') ∧ PurOk m u' := by
  obtain ⟨i1, u1, e1, i10, i11, hu1⟩ := v_law_draw C hu (n := 14) (by decide) (by decide)
  obtain ⟨n, rfl⟩ : ∃ n : Nat, i1 = n := ⟨i1.toNat, by omega⟩
  have hl : dLen [.lst (allWords.map D.str)] = some (.int 14) := rfl
  have s1 := sl_drop (allWords.map D.str) n
  have s2 := sl_take (allWords.map D.str) n
  have s3 : dAdd (.lst ((allWords.map D.str).drop n)) (.lst ((allWords.map D.str).take n)) = some (.lst ((rot allWords n).map D.str)) := by
    rw [add_lst, ← rot_map]
    · rfl
    · rw [List.length_drop, List.length_take, List.length_map]
      have : allWords.length = 14 := rfl
      omega
  have s4 := sl_take ((rot allWords n).map D.str) 8
  have : ∃ r e, runO 1 2 (B_law_words C) (encPu u) [] = some (r, e) ∧ r = .lst (((rot allWords n).take 8).map .str) ∧ e = encPu u1 := by
    refine retOE ?_
    unfold B_law_words
    refine_lift' st
    refine_lift' st [hl, e1]
    refine_lift' st [s1, s2, s3, s4]
    exact ro_rt ⟨by rw [List.map_take], rfl⟩
  obtain ⟨r, e, h, rfl, rfl⟩ := this
  exact ⟨n, u1, h, hu1⟩
theorem v_law_wide {m : Nat} {u : Pur} (hu : PurOk (m + 2) u) {n : Int} (h0 : 0 < n) : ∃ (i : Int) (u' : Pur), F_law_wide C (encPu u) [.int n] = some (.int i, encPu u') ∧ 0 ≤ i ∧ i < n ∧ PurOk m u' := by
  have hu : PurOk (m + 1 + 1) u := hu
  obtain ⟨i1, u1, e1, i10, i11, hu1⟩ := v_law_draw C hu (n := 1000000) (by decide) (by decide)
  obtain ⟨i2, u2, e2, i20, i21, hu2⟩ := v_law_draw C hu1 (n := 1000000) (by decide) (by decide)
  have ml := mul_s (i := i1) (j := 1000000) (Nat.le_trans (by omega : i1.natAbs ≤ 2 ^ 60) (by decide)) (by decide)
  have md := mod_ok (i := i1 * 1000000 + i2) (j := n) h0
  have ii : ∀ i : Int, dInt [.int i] = some (.int i) := fun i => rfl
  have : ∃ r e, runO 2 0 (B_law_wide C) (encPu u) [.int n] = some (r, e) ∧ r = .int ((i1 * 1000000 + i2) % n) ∧ e = encPu u2 := by
    refine retOE ?_
    unfold B_law_wide
    refine_lift' st [pow6, e1, e2, ml, ii _, md]
    exact ro_rt ⟨rfl, rfl⟩
  obtain ⟨r, e, h, rfl, rfl⟩ := this
  exact ⟨_, u2, h, Int.emod_nonneg _ (by omega), Int.emod_lt_of_pos _ h0, hu2⟩
set_option maxHeartbeats 4000000 in
theorem v_law_fader {m : Nat} {u : Pur} {L : Int} (x : Str) (hu : PurOk (m + 50) u) (hL : 1 ≤ L) (hL1 : L ≤ 1000000000000) :
    ∃ (p : Ps) (u' : Pur), F_law_fader C (encPu u) [.str x, .int L] = some (encP p, encPu u') ∧ p.name = x ∧ BodyOk L p ∧ PurOk m u' := by
  have : ∃ r e, runO 3 9 (B_law_fader C) (encPu u) [.str x, .int L] = some (r, e) ∧ ∃ (p : Ps) (u' : Pur), r = encP p ∧ e = encPu u' ∧ p.name = x ∧ BodyOk L p ∧ PurOk m u' := by
    refine retOE ?_
    unfold B_law_fader
    have hu : PurOk (m + 41 + 2 + 2 + 1 + 2 + 2) u := hu
    obtain ⟨w1, u1, e1, w10, w11, hu1⟩ := v_law_wide C hu (n := L) (by omega)
    obtain ⟨w2, u2, e2, w20, w21, hu2⟩ := v_law_wide C hu1 (n := L) (by omega)
    obtain ⟨f, u3, e3, hf, hu3⟩ := v_law_pickI C hu2 [0, w1, w2]
    have hf : 0 ≤ f ∧ f < L := by simp at hf; omega
    refine_lift' st [e1, e2, e3]
    obtain ⟨w4, u4, e4, w40, w41, hu4⟩ := v_law_wide C hu3 (n := L - f) (by omega)
    obtain ⟨w5, u5, e5, w50, w51, hu5⟩ := v_law_wide C hu4 (n := L - f) (by omega)
    have hlc : mLc [5] (iFn rng1? (aCons (mC (.int 2)) aNil)) (gNm 5) (mC true) (mOp dAdd (mOp dAdd (mVar 3) (mC (.int 1))) (mCallO (F_law_wide C) 0 (aCons (mOp dSub (mVar 2) (mVar 3)) aNil))) [.own true (encPu u3), .dat (.str x), .dat (.int L), .dat (.int f), .no, .no, .no, .no, .no, .no, .no, .no]
        = some (.lst [.int (f + 1 + w4), .int (f + 1 + w5)], [.own true (encPu u5), .dat (.str x), .dat (.int L), .dat (.int f), .no, .no, .no, .no, .no, .no, .no, .no]) := by
      have s1 : mOp dAdd (mOp dAdd (mVar 3) (mC (.int 1))) (mCallO (F_law_wide C) 0 (aCons (mOp dSub (mVar 2) (mVar 3)) aNil)) [.own true (encPu u3), .dat (.str x), .dat (.int L), .dat (.int f), .no, .dat (.int 0), .no, .no, .no, .no, .no, .no] = some (.int (f + 1 + w4), [.own true (encPu u4), .dat (.str x), .dat (.int L), .dat (.int f), .no, .dat (.int 0), .no, .no, .no, .no, .no, .no]) := by refine_lift' eva [e4]
      have s2 : mOp dAdd (mOp dAdd (mVar 3) (mC (.int 1))) (mCallO (F_law_wide C) 0 (aCons (mOp dSub (mVar 2) (mVar 3)) aNil)) [.own true (encPu u4), .dat (.str x), .dat (.int L), .dat (.int f), .no, .dat (.int 1), .no, .no, .no, .no, .no, .no] = some (.int (f + 1 + w5), [.own true (encPu u5), .dat (.str x), .dat (.int L), .dat (.int f), .no, .dat (.int 1), .no, .no, .no, .no, .no, .no]) := by refine_lift' eva [e5]
      exact lc_of (it_rng1 (n := 2) (ρ1 := [.own true (encPu u3), .dat (.str x), .dat (.int L), .dat (.int f), .no, .no, .no, .no, .no, .no, .no, .no]) rfl (by decide)) rfl (lc_cons rfl s1 (by simp) (lc_cons rfl s2 (by simp) lc_nil))
    have ad : dAdd (.lst [.int L]) (.lst [.int (f + 1 + w4), .int (f + 1 + w5)]) = some (.lst [.int L, .int (f + 1 + w4), .int (f + 1 + w5)]) := add_lst (by simp)
    refine st_set (e_op (a := mLst (aCons (mVar 2) aNil)) (x := .lst [.int L]) (ρ1 := [.own true (encPu u3), .dat (.str x), .dat (.int L), .dat (.int f), .no, .no, .no, .no, .no, .no, .no, .no]) (by refine_lift' eva) hlc ad) ?_
    obtain ⟨l, u6, e6, hl, hu6⟩ := v_law_pickI C hu5 [L, f + 1 + w4, f + 1 + w5]
    have hl : f + 1 ≤ l ∧ l ≤ L := by simp at hl; omega
    refine_lift' st [e6]
    have d1 := div_s (i := l - f) (j := 20) (by omega) (by omega)
    have mx := max_eq 1 ((l - f) / 20)
    have hq : (l - f) / 20 ≤ l - f := Int.ediv_le_self _ (by omega)
    generalize hn : (if (l - f) / 20 > 1 then (l - f) / 20 else 1) = n at mx
    have hn0 : 1 ≤ n ∧ n ≤ 1000000000000 := by split at hn <;> omega
    have hu6 : PurOk (m + 27 + 11 + 1 + 1) u6 := hu6.mono (by omega)
    obtain ⟨w, u7, e7, hw, hu7⟩ := v_law_pickI C hu6 [1, 1, n]
    have hw : 1 ≤ w ∧ w ≤ 1000000000000 := by simp at hw; omega
    refine_lift' st [d1, mx, e7]
    obtain ⟨i8, u8, e8, i80, i81, hu8⟩ := v_law_draw C hu7 (n := 7) (by decide) (by decide)
    obtain ⟨n8, rfl⟩ : ∃ n : Nat, i8 = n := ⟨i8.toNat, by omega⟩
    obtain ⟨ts, u9, e9, ht, htl, hu9⟩ := v_law_touches C (m := m + 1 + 1 + 1) (n := n8) (first := f) (last := l) (wide := w) (hu8.mono (by omega)) hf.1 (by omega) (by omega) (by omega) (by omega) hw.2
    refine_lift' st [e8, e9]
    obtain ⟨md, ua, ea, hmd, hua⟩ := v_law_pickS C hu9 ["write", "latch", "touch", "touch", "trim"]
    refine_lift' st [ea]
    obtain ⟨gl, ub, eb, hgl, hub⟩ := v_law_pickI C hua [0, 1, 2, 3, 7, 99, 100]
    obtain ⟨tl, uc, ec, htl9, huc⟩ := v_law_pickS C hub ["stop", "stop", "on"]
    have hgl : 0 ≤ gl ∧ gl ≤ 100 := by simp at hgl; omega
    refine_lift' st [eb, ec]
    refine_lift' st
    exact ro_rt ⟨⟨x, md, f, l, ts, gl, tl⟩, uc, rfl, rfl, rfl, ⟨drawn_modes hmd, drawn_tails htl9, ⟨hf.1, hl.1, hl.2⟩, by simp only; omega, ht, by simp only; omega⟩, huc⟩
  obtain ⟨r, e, h, p, u', rfl, rfl, h2⟩ := this
  exact ⟨p, u', h, h2⟩
end
end My
set_option exponentiation.threshold 20000
namespace My
open PySem PySem.Spec PyProof.Rows L2 DL
theorem range_at {n : Nat} {ys zs : List Nat} {k : Nat} (e : List.range n = ys ++ k :: zs) : k = ys.length ∧ ys.length < n := by
  have h1 := congrArg List.length e
  have h2 := congrArg (fun l => l[ys.length]?) e
  simp only [List.length_range, List.length_append, List.length_cons] at h1
  simp only [List.getElem?_append_right (Nat.le_refl _), Nat.sub_self, List.getElem?_cons_zero] at h2
  rw [List.getElem?_range (by omega)] at h2
  exact ⟨(Option.some.inj h2).symm, by omega⟩
theorem e_lcN {vs : List Nat} {it : Mo (List D)} {g : D → Mo Unit} {e : Mo D} {n : Nat} {ρ ρ1 : Cs} (hi : it ρ = some ((List.range n).map fun k : Nat => D.int (0 + (k : Int)), ρ1)) (hf : free vs ρ1 = true) (hn : n ≤ 1000) (I : Nat → List D → Cs → Prop) (h0 : I 0 [] (clr vs ρ1)) (hln : ∀ j acc ρ, I j acc ρ → acc.length = j)
    (hs : ∀ j acc ρ, j < n → I j acc ρ → ∃ u ρ1 y ρ3, g (.int (0 + (j : Int))) (clr vs ρ) = some (u, ρ1) ∧ e ρ1 = some (y, ρ3) ∧ I (j + 1) (acc ++ [y]) ρ3) : ∃ acc ρ', mLc vs it g (mC true) e ρ = some (.lst acc, back vs ρ1 (clr vs ρ')) ∧ I n acc ρ' := by
  obtain ⟨acc, ρ', h1, h2⟩ := e_lc (α := Nat) (vs := vs) (it := it) (g := g) (t := mC true) (e := e) (enc := fun k : Nat => D.int (0 + (k : Int))) (xs := List.range n) hi hf (fun ys acc ρ => I ys.length acc ρ) h0 (fun done acc ρ h => Nat.le_of_eq (hln _ _ _ h)) (by rw [List.length_range]; exact len_le hn) (by
    intro ys j zs acc ρ q h
    obtain ⟨rfl, hj⟩ := range_at q
    obtain ⟨u, ρ1, y, ρ3, a, b, c⟩ := hs ys.length acc ρ hj h
    exact ⟨u, ρ1, true, ρ1, a, rfl, (fun z => by cases z), fun _ => ⟨y, ρ3, b, by rw [List.length_append]; exact c⟩⟩)
  rw [List.length_range] at h2
  exact ⟨acc, ρ', h1, h2⟩
theorem st_forN {it : Mo (List D)} {g : D → Mo Unit} {n : Nat} {ρ ρ1 : Cs} {m k : Mo Fl} {P : Option (Fl × Cs) → Prop} (hi : it ρ = some ((List.range n).map fun k : Nat => D.int (0 + (k : Int)), ρ1)) (I : Nat → Cs → Prop) (h0 : I 0 ρ1)
    (hs : ∀ j ρ, j < n → I j ρ → ∃ u ρ1, g (.int (0 + (j : Int))) ρ = some (u, ρ1) ∧ BodyQ (I (j + 1)) (fun ρ' => P (k ρ')) P (m ρ1)) (hd : ∀ ρ, I n ρ → P (k ρ)) : P (sSeq (sFor it g m) k ρ) := by
  refine st_for (α := Nat) (enc := fun k : Nat => D.int (0 + (k : Int))) (xs := List.range n) hi (fun ys ρ => I ys.length ρ) h0 ?_ ?_
  · intro ys j zs ρ q h
    obtain ⟨rfl, hj⟩ := range_at q
    obtain ⟨u, ρ1, a, b⟩ := hs ys.length ρ hj h
    exact ⟨u, ρ1, a, by rw [List.length_append]; exact b⟩
  · intro ρ h
    rw [List.length_range] at h
    exact hd ρ h
section
variable (C : Addr)
set_option maxHeartbeats 2000000 in
theorem v_law_faders {m many : Nat} {u : Pur} {L : Int} (hu : PurOk (m + 50 * many + 2) u) (hm : many ≤ 8) (hL : 1 ≤ L) (hL1 : L ≤ 1000000000000) :
    ∃ (ps : List Ps) (u' : Pur), F_law_faders C (encPu u) [.int L, .int many] = some (.tup (ps.map encP), encPu u') ∧ (∃ n, RowOk L ((rot allWords n).take 8) ps) ∧ ps.length ≤ many ∧ PurOk m u' := by
  have : ∃ r e, runO 3 2 (B_law_faders C) (encPu u) [.int L, .int many] = some (r, e) ∧ ∃ (ps : List Ps) (u' : Pur), r = .tup (ps.map encP) ∧ e = encPu u' ∧ (∃ n, RowOk L ((rot allWords n).take 8) ps) ∧ ps.length ≤ many ∧ PurOk m u' := by
    refine retOE ?_
    unfold B_law_faders
    have hu : PurOk (m + 50 * many + 1 + 1) u := hu
    obtain ⟨n, u1, e1, hu1⟩ := v_law_words C hu
    refine_lift' st [e1]
    generalize hw : (rot allWords n).take 8 = ws
    have hwl : ws.length = 8 := by rw [← hw, List.length_take, rot_len]; rfl
    obtain ⟨i2, u2, e2, i20, i21, hu2⟩ := v_law_draw C hu1 (n := (many : Int) + 1) (by omega) (by omega)
    obtain ⟨k, rfl⟩ : ∃ n : Nat, i2 = n := ⟨i2.toNat, by omega⟩
    have hk : k ≤ many := by omega
    obtain ⟨acc, ρ', hlc, u3, ps, x, rfl, rfl, hps, hrow, hu3⟩ := e_lcN (vs := [4]) (it := iFn rng1? (aCons (mCallO (F_law_draw C) 0 (aCons (mOp dAdd (mVar 2) (mC (.int 1))) aNil)) aNil)) (g := gNm 4) (e := mCallO (F_law_fader C) 0 (aCons (mOp dIx (mVar 3) (mVar 4)) (aCons (mVar 1) aNil))) (n := k)
      (ρ := [.own true (encPu u1), .dat (.int L), .dat (.int many), .dat (.lst (ws.map D.str)), .no]) (ρ1 := [.own true (encPu u2), .dat (.int L), .dat (.int many), .dat (.lst (ws.map D.str)), .no])
      (by refine it_rng1 (n := k) ?_ (by omega); refine_lift' eva [e2]) rfl (by omega)
      (fun j acc ρ => ∃ (u3 : Pur) (ps : List Ps) (x : Cell), ρ = [.own true (encPu u3), .dat (.int L), .dat (.int many), .dat (.lst (ws.map D.str)), x] ∧ acc = ps.map encP ∧ ps.length = j ∧ RowOk L ws ps ∧ PurOk (m + 50 * (many - j)) u3)
      ⟨u2, [], .no, rfl, rfl, rfl, ⟨rfl, fun p h => by cases h⟩, by simpa using hu2⟩
      (fun j acc ρ ⟨_, ps, _, _, h, h1, _⟩ => by rw [h, List.length_map, h1])
      (by
        rintro j acc ρ hj ⟨u3, ps, x, rfl, rfl, hps, hrow, hu3⟩
        have hix : dIx (.lst (ws.map D.str)) (.int (0 + (j : Int))) = some (.str (ws[j]'(by omega))) := by
          rw [ix_lst (by rw [List.length_map]; omega), List.getElem_map]
        obtain ⟨p, u4, e4, hn, hb, hu4⟩ := v_law_fader C (m := m + 50 * (many - (j + 1))) (ws[j]'(by omega)) (hu3.mono (by omega)) hL hL1
        exact ⟨(), [.own true (encPu u3), .dat (.int L), .dat (.int many), .dat (.lst (ws.map D.str)), .dat (.int (0 + (j : Int)))], encP p, [.own true (encPu u4), .dat (.int L), .dat (.int many), .dat (.lst (ws.map D.str)), .dat (.int (0 + (j : Int)))], rfl, by refine_lift' eva [hix, e4], u4, ps ++ [p], _, rfl, by rw [List.map_append]; rfl, by rw [List.length_append, hps]; rfl, hrow.snoc hb (by omega) (by rw [hn]; simp only [hps]), hu4⟩)
    refine st_one ?_
    have hlc' : mLc [4] (iFn rng1? (aCons (mCallO (F_law_draw C) 0 (aCons (mOp dAdd (mVar 2) (mC (.int 1))) aNil)) aNil)) (gNm 4) (mC true) (mCallO (F_law_fader C) 0 (aCons (mOp dIx (mVar 3) (mVar 4)) (aCons (mVar 1) aNil))) [.own true (encPu u1), .dat (.int L), .dat (.int many), .dat (.lst (ws.map D.str)), .no] = some (.lst (ps.map encP), [.own true (encPu u3), .dat (.int L), .dat (.int many), .dat (.lst (ws.map D.str)), .no]) := hlc
    refine st_ret (e_fn (f := dTuple) (z := .tup (ps.map encP)) (e_acons hlc' e_anil) rfl) ?_
    exact ro_rt ⟨ps, u3, rfl, rfl, ⟨n, by rw [hw]; exact hrow⟩, by omega, hu3.mono (by omega)⟩
  obtain ⟨r, e, h, ps, u', rfl, rfl, h2⟩ := this
  exact ⟨ps, u', h, h2⟩
theorem BodyOk.glide {L : Int} {p : Ps} (h : BodyOk L p) {g : Int} (h0 : 0 ≤ g) (h1 : g ≤ 100) : BodyOk L { p with glide := g } := ⟨h.mode, h.tail, h.rng, h.tl, h.tok, h0, h1⟩
end
end My
set_option exponentiation.threshold 20000
set_option exponentiation.threshold 20000
namespace My
open PySem PySem.Spec PyProof.Rows L2 DL
theorem PssOk.sub {L : Int} {ps qs : List Ps} (h : PssOk L ps) (s : qs.Sublist ps) : PssOk L qs := ⟨fun p hp => h.sane p (s.subset hp), fun p hp => h.ok p (s.subset hp), h.nd.sublist (s.map _), Nat.le_trans s.length_le h.len⟩
end My
set_option exponentiation.threshold 20000
namespace My
open PySem PySem.Spec PyProof.Rows L2 DL
theorem gd_t (p : Int × Int) : Gd 1 (encT p) := gd_tup (n := 0) fun d hd => by
  simp at hd
  rcases hd with rfl | rfl
  · exact gd_int _ _
  · exact gd_int _ _
theorem gd_p {p : Ps} (h : p.sane) : Gd 3 (encP p) := gd_tup (n := 2) fun d hd => by
  simp only [List.mem_cons, List.not_mem_nil, or_false] at hd
  rcases hd with rfl | rfl | rfl | rfl | rfl | rfl | rfl
  · exact gd_str _ h.name
  · exact gd_str _ h.mode
  · exact gd_int _ _
  · exact gd_int _ _
  · exact gd_tup (n := 1) fun d hd => by
      obtain ⟨t, _, rfl⟩ := List.mem_map.mp hd
      exact gd_t t
  · exact gd_int _ _
  · exact gd_str _ h.tail
theorem gd_ps {ps : List Ps} (h : ∀ p ∈ ps, p.sane) : Gd 4 (.tup (ps.map encP)) := gd_tup (n := 3) fun d hd => by
  obtain ⟨p, hp, rfl⟩ := List.mem_map.mp hd
  exact gd_p (h p hp)
theorem eqs_of {n : Nat} {d e : D} (h : Gd n d) (h' : Gd n e) (hn : n ≤ 64) : eqs d e = some (PyData.eqv (toP d) (toP e)) := by
  unfold eqs
  have s : SeqAt.shaped (toP d) = true := by
    unfold SeqAt.shaped
    rw [h.l, decide_eq_true (Nat.le_trans h.dp hn)]
    rfl
  have s' : SeqAt.shaped (toP e) = true := by
    unfold SeqAt.shaped
    rw [h'.l, decide_eq_true (Nat.le_trans h'.dp hn)]
    rfl
  rw [if_pos ⟨h.p, h'.p, s, s'⟩]
end My
set_option exponentiation.threshold 20000
namespace My
open PySem PySem.Spec PyProof.Rows L2 DL
theorem repr_lst {n k m : Nat} {ds : List D} (g : Gd m (.lst ds)) (s : L2.Sh n k (toP (.lst ds))) (hn : n ≤ 700000) (hk : k ≤ 60) : dRepr [.lst ds] = some (.str (toP (.lst ds)).shown) := by
  have h := s.shown hn
  have hs := s.sh
  have hp := g.p
  refine if_pos ⟨by simpa [DL.plain] using hp, by simpa [toP, PyData.showable] using hs, Nat.le_trans s.dp hk, h⟩
theorem ne_str (x : Str) : dNe (.str x) (.str x) = some (.bl false) := by
  show some (D.bl (!decide (x = x))) = _
  rw [decide_eq_true rfl]; rfl
end My
set_option exponentiation.threshold 20000
namespace My
open PySem PySem.Spec PyProof.Rows L2 DL
theorem pass_text {L : Int} {p : Ps} (h : passOk L p = true) : L2.isPass L (toP (encP p)) = true := by
  obtain ⟨b, hn, ho⟩ := b_of_pass h
  have r := b.rng
  have ht : ∀ (ts : List (Int × Int)) (lo : Int), L2.touchesFrom p.last (toPs (ts.map encT)) lo = touchesOk p.last ts lo := by
    intro ts
    induction ts with
    | nil => intro lo; rfl
    | cons t r ih =>
      intro lo
      show (L2.isStretch (toP (encT t)) lo p.last && L2.touchesFrom p.last (toPs (r.map encT)) (t.2 + 1)) = _
      rw [ih, touchesOk]
      congr 1
      show (decide (lo ≤ t.1 ∧ t.1 ≤ p.last) && decide (t.1 + 1 ≤ t.2 ∧ t.2 ≤ p.last)) = _
      rw [Bool.eq_iff_iff]
      simp
  have e1 : L2.nameOk p.name = true := by
    rw [← hn]
    unfold L2.nameOk nameOk
    rw [Bool.and_assoc (decide (1 ≤ p.name.length) && decide (p.name.length ≤ 8))]
    rfl
  have e2 : L2.touchesOk (.tuple (toPs (p.touches.map encT))) p.first p.last = true := by
    show (decide ((toPs (p.touches.map encT)).length ≤ 6) && L2.touchesFrom p.last (toPs (p.touches.map encT)) p.first) = true
    rw [ht, b.tok, toPs_map, List.length_map, List.length_map, decide_eq_true b.tl]
    rfl
  show ((L2.nameOk p.name && !decide (p.name = "old")) && ((L2.modes.contains p.mode && L2.tails.contains p.tail) && ((decide (0 ≤ p.first ∧ p.first ≤ L) && decide (p.first + 1 ≤ p.last ∧ p.last ≤ L)) && (L2.touchesOk (.tuple (toPs (p.touches.map encT))) p.first p.last && decide (0 ≤ p.glide ∧ p.glide ≤ 100))))) = true
  have m1 : L2.modes.contains p.mode = true := b.mode
  have m2 : L2.tails.contains p.tail = true := b.tail
  rw [e1, e2, m1, m2, decide_eq_false ho, decide_eq_true (show 0 ≤ p.first ∧ p.first ≤ L by omega), decide_eq_true (show p.first + 1 ≤ p.last ∧ p.last ≤ L by omega), decide_eq_true b.gl]
  rfl
def rowD (p : Ps) : Str := L2.rowT (toP (encP p))
def wordsD (p : Ps) : List Str := [("pass" : Str), p.name, p.mode, L2.numT p.first.toNat, L2.numT p.last.toNat, L2.numT p.glide.toNat, p.tail] ++ p.touches.map fun t => L2.stT t.1.toNat t.2.toNat
theorem wordsD_eq (p : Ps) : L2.rowW (toP (encP p)) = wordsD p := by
  show [("pass" : Str), p.name, p.mode, L2.numT p.first.toNat, L2.numT p.last.toNat, L2.numT p.glide.toNat, p.tail] ++ (toPs (p.touches.map encT)).map L2.stW = _
  unfold wordsD
  rw [toPs_map, List.map_map, List.map_map]
  rfl
theorem rowD_eq (p : Ps) : Txt.join " " (wordsD p) = rowD p := by
  rw [← wordsD_eq]; rfl
/-- numbers within what is read -/
structure NumOk (i : Int) : Prop where
  lo : 0 ≤ i
  hi : i < 10000000000000
theorem NumOk.nat {i : Int} (h : NumOk i) : i.toNat < 10 ^ 13 := by
  have := h.lo; have := h.hi
  omega
theorem str_num {i : Int} (h : NumOk i) : dStr [.int i] = some (.str (L2.numT i.toNat)) := by
  have h0 := h.lo
  have := L2.log_small h.nat
  have e : ((i.toNat : Nat) : Int) = i := by omega
  rw [e] at this
  have : dStr [.int i] = some (.str (toString i)) := if_pos this
  rw [this]
  unfold L2.numT
  rw [e]
theorem fmt_num {i : Int} (h : NumOk i) : dFmt (.int i) = some (.str (L2.numT i.toNat)) := by
  have h0 := h.lo
  have := L2.log_small h.nat
  have e : ((i.toNat : Nat) : Int) = i := by omega
  rw [e] at this
  have : dFmt (.int i) = some (.str (toString i)) := if_pos this
  rw [this]
  unfold L2.numT
  rw [e]
theorem e_jcons {ρ : Cs} {m : Mo D} {ms : List (Mo D)} {acc y : Str} {r : Option (Str × Cs)} (h : m ρ = some (.str y, ρ)) (hl : (acc ++ y).length ≤ 1000) (hr : mJs ms (acc ++ y) ρ = r) : mJs (m :: ms) acc ρ = r := by
  unfold mJs
  refine e_bd h (e_bd (e_l (v := y) rfl) ?_)
  rw [if_pos (len_le hl)]
  exact hr
theorem touch_num {L : Int} {p : Ps} (h : passOk L p = true) (hL : L ≤ 1000000000000) : ∀ t ∈ p.touches, NumOk t.1 ∧ NumOk t.2 := by
  obtain ⟨b, _, _⟩ := b_of_pass h
  have r := b.rng
  have : ∀ (ts : List (Int × Int)) (lo : Int), 0 ≤ lo → touchesOk p.last ts lo = true → ∀ t ∈ ts, NumOk t.1 ∧ NumOk t.2 := by
    intro ts
    induction ts with
    | nil => intro lo _ _ t ht; cases ht
    | cons a s ih =>
      intro lo h0 h1 t ht
      rw [touchesOk] at h1
      simp only [Bool.and_eq_true, decide_eq_true_eq] at h1
      obtain ⟨⟨⟨c1, c2⟩, c3, c4⟩, h1⟩ := h1
      rcases List.mem_cons.mp ht with rfl | ht
      · exact ⟨⟨by omega, by omega⟩, ⟨by omega, by omega⟩⟩
      · exact ih (a.2 + 1) (by omega) h1 t ht
  exact this p.touches p.first r.1 b.tok
section
variable (C : Addr)
theorem strs_map : ∀ ws : List Str, DL.strs? (ws.map D.str) = some ws
  | [] => rfl
  | w :: ws => by
    rw [List.map_cons, DL.strs?, strs_map ws]
    rfl
theorem join_ok {y : Str} {ws : List Str} (h : (ws.map (·.length)).sum + ws.length * y.length ≤ 16777216) : dJoin (.str y) (.lst (ws.map D.str)) = some (.str (Txt.join y ws)) := by
  show (DL.strs? (ws.map D.str)).bind _ = _
  rw [strs_map]
  exact if_pos h
theorem e_str {ρ ρ1 ρ2 : Cs} {a b : Mo D} {x : Str} {y z : D} {g : D → D → Option D} (ha : a ρ = some (.str x, ρ1)) (hb : b ρ1 = some (y, ρ2)) (hg : g (.str x) y = some z) : mStr g a b ρ = some (z, ρ2) := by
  refine e_bd ha ?_
  rw [if_pos (show (str? (D.str x)).isSome = true from rfl)]
  exact e_bd hb (e_l hg)
set_option maxHeartbeats 2000000 in
theorem v_row_of {L : Int} {p : Ps} (h : passOk L p = true) (hL : L ≤ 1000000000000) : F_row_of C [encP p] = some (.str (rowD p)) := by
  obtain ⟨b, _, _⟩ := b_of_pass h
  have r := b.rng
  have g := b.gl
  have n1 := str_num (i := p.first) ⟨by omega, by omega⟩
  have n2 := str_num (i := p.last) ⟨by omega, by omega⟩
  have n3 := str_num (i := p.glide) ⟨by omega, by omega⟩
  have rw := L2.row_words hL (pass_text h)
  rw [wordsD_eq] at rw
  have jo := join_ok (y := " ") (ws := wordsD p) (by
    have h2 := L2.sum_le (l := (wordsD p).map (·.length)) (n := 27) (fun x hx => by
      obtain ⟨w, hw, rfl⟩ := List.mem_map.mp hx
      exact rw.2 w hw)
    rw [List.length_map] at h2
    have h3 : (" " : Str).length = 1 := by decide +kernel
    rw [h3]
    have := rw.1
    omega)
  rw [rowD_eq] at jo
  have ad : dAdd (.lst [.str "pass", .str p.name, .str p.mode, .str (L2.numT p.first.toNat), .str (L2.numT p.last.toNat), .str (L2.numT p.glide.toNat), .str p.tail]) (.lst (p.touches.map fun t => D.str (L2.stT t.1.toNat t.2.toNat))) = some (.lst ((wordsD p).map D.str)) := by
    rw [add_lst (by rw [List.length_map]; have := b.tl; simp; omega)]
    unfold wordsD
    rw [List.map_append, List.map_map]
    rfl
  refine retF ?_
  unfold B_row_of
  refine st_asg (d := encP p) (ρ1 := [.dat (encP p), .no, .no, .no, .no, .no, .no, .no, .no, .no, .no]) (ρ2 := [.dat (encP p), .dat (.str p.name), .dat (.str p.mode), .dat (.int p.first), .dat (.int p.last), .dat (.tup (p.touches.map encT)), .dat (.int p.glide), .dat (.str p.tail), .no, .no, .no]) rfl rfl ?_
  refine_lift' st [n1, n2, n3]
  generalize hw0 : D.lst [.str "pass", .str p.name, .str p.mode, .str (L2.numT p.first.toNat), .str (L2.numT p.last.toNat), .str (L2.numT p.glide.toNat), .str p.tail] = w0 at ad ⊢
  have hl := e_lcm (α := Int × Int) (vs := [9, 10]) (it := iSeq seqT (mVar 5)) (g := gTp 2 (gsCons (gNm 9) (gsCons (gNm 10) gsNil))) (e := mFs [mUn dFmt (mVar 9), mC (.str "-"), mUn dFmt (mVar 10)]) (enc := encT) (f := fun t => .str (L2.stT t.1.toNat t.2.toNat)) (xs := p.touches) (ρ := [.dat (encP p), .dat (.str p.name), .dat (.str p.mode), .dat (.int p.first), .dat (.int p.last), .dat (.tup (p.touches.map encT)), .dat (.int p.glide), .dat (.str p.tail), .dat w0, .no, .no]) (ρ1 := [.dat (encP p), .dat (.str p.name), .dat (.str p.mode), .dat (.int p.first), .dat (.int p.last), .dat (.tup (p.touches.map encT)), .dat (.int p.glide), .dat (.str p.tail), .dat w0, .no, .no]) rfl rfl (len_le (by have := b.tl; omega)) (by
    intro t ht
    obtain ⟨t1, t2⟩ := touch_num h hL t ht
    have f1 := fmt_num t1
    have f2 := fmt_num t2
    have q1 := (L2.numT_len t1.nat).2
    have q2 := (L2.numT_len t2.nat).2
    have q0 : Str.empty.length = 0 := rfl
    have q3 : ("-" : Str).length = 1 := by decide +kernel
    refine ⟨(), [.dat (encP p), .dat (.str p.name), .dat (.str p.mode), .dat (.int p.first), .dat (.int p.last), .dat (.tup (p.touches.map encT)), .dat (.int p.glide), .dat (.str p.tail), .dat w0, .dat (.int t.1), .dat (.int t.2)], rfl, [.dat (encP p), .dat (.str p.name), .dat (.str p.mode), .dat (.int p.first), .dat (.int p.last), .dat (.tup (p.touches.map encT)), .dat (.int p.glide), .dat (.str p.tail), .dat w0, .dat (.int t.1), .dat (.int t.2)], ?_, rfl⟩
    rw [← L2.stT_eq]
    refine e_bd (v := Str.empty ++ L2.numT t.1.toNat ++ ("-" : Str) ++ L2.numT t.2.toNat) (ρ1 := [.dat (encP p), .dat (.str p.name), .dat (.str p.mode), .dat (.int p.first), .dat (.int p.last), .dat (.tup (p.touches.map encT)), .dat (.int p.glide), .dat (.str p.tail), .dat w0, .dat (.int t.1), .dat (.int t.2)]) ?_ rfl
    refine e_jcons (e_un (e_var rfl) f1) (by rw [L2.app_len]; omega) (e_jcons e_c (by rw [L2.app_len, L2.app_len]; omega) (e_jcons (e_un (e_var rfl) f2) (by rw [L2.app_len, L2.app_len, L2.app_len]; omega) rfl))) rfl
  refine st_one ?_
  refine st_ret (e_str e_c (e_op (e_var (i := 8) (d := w0) rfl) hl ad) jo) ?_
  exact rq_rt rfl
end
end My
set_option exponentiation.threshold 20000
namespace My
open PySem PySem.Spec PyProof.Rows L2 DL
section
variable (C : Addr)
theorem none_in {n : Nat} {ds : List D} (h : Gd n (.lst ds)) (hn : n ≤ 64) (hz : ∀ d ∈ ds, PyData.eqv (toP d) .none = false) : dIn .non (.lst ds) = some (.bl false) := by
  have hs : SeqAt.shaped (toP (.lst ds)) = true := by
    unfold SeqAt.shaped
    rw [h.l, decide_eq_true (Nat.le_trans h.dp hn)]
    rfl
  have hp : DL.plain (.lst ds) = true := h.p
  have h0 : SeqAt.shaped (toP .non) = true := by simp [SeqAt.shaped, toP, PyData.canLay0, PyData.depth]
  have ha : ((toPs ds).any fun e => PyData.eqv e (toP .non)) = false := by
    rw [toPs_map, List.any_map, List.any_eq_false]
    intro d hd
    have := hz d hd
    simp only [Function.comp]
    show ¬ PyData.eqv (toP d) .none = true
    rw [this]
    decide
  have : dInB .non (.lst ds) = some false := by
    rw [← ha]
    exact if_pos ⟨rfl, hp, h0, hs⟩
  unfold dIn
  rw [this]
  rfl
set_option maxHeartbeats 2000000 in
theorem v_number_in {i : Int} (h : NumOk i) : F_number_in C [.str (L2.numT i.toNat)] = some (.int i) := by
  have h0 := h.lo
  have hn := h.nat
  have lz := L2.numT_len hn
  have tz := L2.numT_tl i.toNat
  have iz : PySem.intText? (L2.numT i.toNat) = some ((i.toNat : Nat) : Int) := TL.int_num (Nat.le_trans (TL.numL_len (k := 13) (by decide) hn) (by decide))
  rw [show ((i.toNat : Nat) : Int) = i by omega] at iz
  have zz : ∀ r, TL.numL i.toNat = 48 :: r → L2.numT i.toNat = "0" := fun r h => by rw [L2.numL_head i.toNat r h]; exact L2.numT_zero
  have dz : ∀ c ∈ TL.numL i.toNat, 48 ≤ c ∧ c ≤ 57 := fun c hc => TL.numL_digits i.toNat c hc
  have nz := TL.numL_ne i.toNat
  generalize L2.numT i.toNat = z at *
  rw [← tz] at zz dz nz
  have hx : z.length ≤ sizeLine := len_le (by omega)
  have hl : dLen [.str z] = some (.int z.length) := if_pos hx
  obtain ⟨c, r, hc⟩ : ∃ c r, z.cps.toList = c :: r := by
    cases h : z.cps.toList with
    | nil => exact absurd h nz
    | cons c r => exact ⟨c, r, rfl⟩
  have hix : dIx (.str z) (.int 0) = some (.str ⟨#[c]⟩) := by
    have h : dIx (.str z) (.int 0) = (atI z.cps.toList 0).map fun c => D.str ⟨#[c]⟩ := if_pos hx
    rw [h, hc, show atI (c :: r) 0 = some c from atI_nat (j := 0) rfl]
    rfl
  have hlc : mLc [1] (iSeq seqS (mVar 0)) (gNm 1) (mC true) (mOp dIn (mVar 1) (mC (.str "0123456789"))) [.dat (.str z), .no] = some (.lst (z.cps.toList.map fun c => .bl (decide (c ∈ ("0123456789" : Str).cps.toList))), [.dat (.str z), .no]) := by
    refine e_lcm (α := Nat) (vs := [1]) (ρ1 := [.dat (.str z), .no]) (enc := fun c => D.str ⟨#[c]⟩) (xs := z.cps.toList) (f := fun c => .bl (decide (c ∈ ("0123456789" : Str).cps.toList))) rfl rfl (len_le ?_) ?_ rfl
    · show z.length ≤ 1000
      omega
    · intro c _
      exact ⟨(), [.dat (.str z), .dat (.str ⟨#[c]⟩)], rfl, [.dat (.str z), .dat (.str ⟨#[c]⟩)], by refine_lift' ev [in_str c "0123456789"], rfl⟩
  have hall := all_map (fun c => decide (c ∈ ("0123456789" : Str).cps.toList)) z.cps.toList
  have hat : (z.cps.toList.all fun c => decide (c ∈ ("0123456789" : Str).cps.toList)) = true := List.all_eq_true.mpr fun c hc => decide_eq_true (L2.digit_in c (dz c hc).1 (dz c hc).2)
  rw [hat] at hall
  have hi : dInt [.str z] = some (.int i) := by
    have : dInt [.str z] = (PySem.intText? z).map .int := if_pos (by omega)
    rw [this, iz]
    rfl
  have q1 : dEq (.str ⟨#[c]⟩) (.str "0") = some (.bl (decide ((⟨#[c]⟩ : Str) = "0"))) := rfl
  have q2 : dNe (.str z) (.str "0") = some (.bl (!decide (z = "0"))) := rfl
  have hboth : (decide ((⟨#[c]⟩ : Str) = "0") && !decide (z = "0")) = false := by
    by_cases e : (⟨#[c]⟩ : Str) = "0"
    · have : c = 48 := by
        have h1 := congrArg (fun s : Str => s.cps.toList) e
        have h2 : ("0" : Str).cps.toList = [48] := by decide +kernel
        simp only [h2] at h1
        simpa using h1
      subst this
      rw [decide_eq_true (zz r hc), Bool.and_comm]
      rfl
    · rw [decide_eq_false e]
      rfl
  refine retF ?_
  unfold B_number_in
  refine st_if (p := false) (ρ1 := [.dat (.str z), .no]) (e_not (p := true) (e_tst ?_)) (fun z => by cases z) (fun _ => ?_)
  · have : (decide ((1 : Int) ≤ z.length) && decide ((z.length : Int) ≤ 13)) = true := by
      rw [decide_eq_true (by omega), decide_eq_true (by omega)]
      rfl
    rw [← this]
    exact e_chain (e_as e_c rfl rfl) (by refine_lift' eva [hl]) rfl (by refine_lift' eva) rfl
  · refine_lift' st
    refine st_if (p := false) (ρ1 := [.dat (.str z), .no]) (e_not (p := true) (e_tst (e_fn (e_acons hlc e_anil) hall))) (fun z => by cases z) (fun _ => ?_)
    refine_lift' st
    refine st_if (p := false) (ρ1 := [.dat (.str z), .no]) ?_ (fun z => by cases z) (fun _ => ?_)
    · rw [← hboth]
      exact e_and (by refine_lift' eva [hix, q1]) (by refine_lift' eva [q2])
    · refine_lift' st
      refine_lift' st [hi]
      exact rq_rt rfl
end
end My
set_option exponentiation.threshold 20000
namespace My
open PySem PySem.Spec PyProof.Rows L2 DL
section
variable (C : Addr)
theorem split_ok {x y : Str} (h : x.length ≤ 990) (hy : (y.length == 0) = false) : dSplit (.str x) (.str y) = some (.lst ((Txt.split x y).map D.str)) := if_pos ⟨hy, len_le (by omega)⟩
theorem ints_none (is : List Int) : dIn .non (.lst (is.map D.int)) = some (.bl false) := none_in (n := 1) (gd_lst (n := 0) fun d hd => by
  obtain ⟨i, _, rfl⟩ := List.mem_map.mp hd
  exact gd_int 0 i) (by decide) fun d hd => by
  obtain ⟨i, _, rfl⟩ := List.mem_map.mp hd
  simp [toP, PyData.eqv]
theorem pairs_none (ts : List (Int × Int)) : dIn .non (.lst (ts.map encT)) = some (.bl false) := none_in (n := 2) (gd_lst (n := 1) fun d hd => by
  obtain ⟨i, _, rfl⟩ := List.mem_map.mp hd
  exact gd_t i) (by decide) fun d hd => by
  obtain ⟨i, _, rfl⟩ := List.mem_map.mp hd
  simp [encT, toP, PyData.eqv]
set_option maxHeartbeats 1000000 in
theorem v_stretch_in {a b : Int} (ha : NumOk a) (hb : NumOk b) : F_stretch_in C [.str (L2.stT a.toNat b.toNat)] = some (encT (a, b)) := by
  have sp := split_ok (x := L2.stT a.toNat b.toNat) (y := "-") (by have := L2.stT_len ha.nat hb.nat; omega) (by decide +kernel)
  rw [L2.stT_split] at sp
  have n1 := v_number_in C ha
  have n2 := v_number_in C hb
  generalize L2.stT a.toNat b.toNat = z at sp
  have hl := e_lcm (α := Int) (vs := [2]) (it := iSeq seqL (mStr dSplit (mVar 0) (mC (.str "-")))) (g := gNm 2) (e := mFn (F_number_in C) (aCons (mVar 2) aNil)) (enc := fun i => .str (L2.numT i.toNat)) (f := D.int) (xs := [a, b]) (ρ := [.dat (.str z), .no, .no]) (ρ1 := [.dat (.str z), .no, .no]) (e_bd (v := .lst [.str (L2.numT a.toNat), .str (L2.numT b.toNat)]) (ρ1 := [.dat (.str z), .no, .no]) (e_str (e_var rfl) e_c sp) rfl) rfl (len_le (by simp)) (by
    intro i hi
    have n0 : F_number_in C [.str (L2.numT i.toNat)] = some (.int i) := by
      simp only [List.mem_cons, List.not_mem_nil, or_false] at hi
      rcases hi with rfl | rfl
      · exact n1
      · exact n2
    exact ⟨(), [.dat (.str z), .no, .dat (.str (L2.numT i.toNat))], rfl, [.dat (.str z), .no, .dat (.str (L2.numT i.toNat))], by refine_lift' ev [n0], rfl⟩) rfl
  have no := ints_none [a, b]
  have ne2 : dNe (.int 2) (.int 2) = some (.bl false) := rfl
  have l2 : dLen [.lst [.int a, .int b]] = some (.int 2) := rfl
  have no : dIn .non (.lst [.int a, .int b]) = some (.bl false) := no
  have x0 : dIx (.lst [.int a, .int b]) (.int 0) = some (.int a) := rfl
  have x1 : dIx (.lst [.int a, .int b]) (.int 1) = some (.int b) := rfl
  refine retF ?_
  unfold B_stretch_in
  refine st_set (d := .lst [.int a, .int b]) (ρ1 := [.dat (.str z), .no, .no]) hl ?_
  refine st_if (p := false) (ρ1 := [.dat (.str z), .dat (.lst [.int a, .int b]), .no]) (e_or (p := false) (q := false) (by refine_lift' eva [l2, ne2]) (by refine_lift' eva [no])) (fun z => by cases z) (fun _ => ?_)
  refine_lift' st
  refine_lift' st [x0, x1]
  exact rq_rt rfl
set_option maxHeartbeats 2000000 in
theorem v_pass_in {L : Int} {p : Ps} (h : passOk L p = true) (hL : L ≤ 1000000000000) : F_pass_in C [.lst ((wordsD p).tail.map D.str)] = some (encP p) := by
  obtain ⟨b, _, _⟩ := b_of_pass h
  have r := b.rng
  have g := b.gl
  have n1 := v_number_in C (i := p.first) ⟨by omega, by omega⟩
  have n2 := v_number_in C (i := p.last) ⟨by omega, by omega⟩
  have n3 := v_number_in C (i := p.glide) ⟨by omega, by omega⟩
  have tn := touch_num h hL
  have ew : (wordsD p).tail.map D.str = [D.str p.name, D.str p.mode, D.str (L2.numT p.first.toNat), D.str (L2.numT p.last.toNat), D.str (L2.numT p.glide.toNat), D.str p.tail] ++ p.touches.map fun t => D.str (L2.stT t.1.toNat t.2.toNat) := by
    show ([p.name, p.mode, L2.numT p.first.toNat, L2.numT p.last.toNat, L2.numT p.glide.toNat, p.tail] ++ p.touches.map fun t => L2.stT t.1.toNat t.2.toNat).map D.str = _
    rw [List.map_append, List.map_map]
    rfl
  rw [ew]
  generalize htw : p.touches.map (fun t => D.str (L2.stT t.1.toNat t.2.toNat)) = tw
  generalize hW : D.lst ([D.str p.name, D.str p.mode, D.str (L2.numT p.first.toNat), D.str (L2.numT p.last.toNat), D.str (L2.numT p.glide.toNat), D.str p.tail] ++ tw) = W
  have hln : dLen [W] = some (.int (tw.length + 6 : Nat)) := by
    rw [← hW]; rfl
  have lt6 : dLt (.int (tw.length + 6 : Nat)) (.int 6) = some (.bl false) := by
    show some (D.bl (decide _)) = _
    rw [decide_eq_false (by omega)]
  have hun : gStarN [1, 2, 3, 4, 5, 6] 7 W [.dat W, .no, .no, .no, .no, .no, .no, .no, .no, .no, .no] = some ((), [.dat W, .dat (.str p.name), .dat (.str p.mode), .dat (.str (L2.numT p.first.toNat)), .dat (.str (L2.numT p.last.toNat)), .dat (.str (L2.numT p.glide.toNat)), .dat (.str p.tail), .own false (.lst tw), .no, .no, .no]) := by
    rw [← hW]
    simp only [gStarN]
    rw [if_pos (by rw [List.length_append]; exact Nat.le_add_right 6 _)]
    rfl
  have hl1 : mLc [9] (iSeq seqT (mTup (aCons (mVar 3) (aCons (mVar 4) (aCons (mVar 5) aNil))))) (gNm 9) (mC true) (mFn (F_number_in C) (aCons (mVar 9) aNil)) [.dat W, .dat (.str p.name), .dat (.str p.mode), .dat (.str (L2.numT p.first.toNat)), .dat (.str (L2.numT p.last.toNat)), .dat (.str (L2.numT p.glide.toNat)), .dat (.str p.tail), .own false (.lst tw), .no, .no, .no] = some (.lst [.int p.first, .int p.last, .int p.glide], [.dat W, .dat (.str p.name), .dat (.str p.mode), .dat (.str (L2.numT p.first.toNat)), .dat (.str (L2.numT p.last.toNat)), .dat (.str (L2.numT p.glide.toNat)), .dat (.str p.tail), .own false (.lst tw), .no, .no, .no]) := e_lcm (α := Int) (vs := [9]) (enc := fun i => .str (L2.numT i.toNat)) (f := D.int) (xs := [p.first, p.last, p.glide]) (ρ1 := [.dat W, .dat (.str p.name), .dat (.str p.mode), .dat (.str (L2.numT p.first.toNat)), .dat (.str (L2.numT p.last.toNat)), .dat (.str (L2.numT p.glide.toNat)), .dat (.str p.tail), .own false (.lst tw), .no, .no, .no]) (e_bd (v := .tup [.str (L2.numT p.first.toNat), .str (L2.numT p.last.toNat), .str (L2.numT p.glide.toNat)]) (ρ1 := [.dat W, .dat (.str p.name), .dat (.str p.mode), .dat (.str (L2.numT p.first.toNat)), .dat (.str (L2.numT p.last.toNat)), .dat (.str (L2.numT p.glide.toNat)), .dat (.str p.tail), .own false (.lst tw), .no, .no, .no]) (by refine_lift' eva) rfl) rfl (len_le (by simp)) (by
    intro i hi
    have n0 : F_number_in C [.str (L2.numT i.toNat)] = some (.int i) := by
      simp only [List.mem_cons, List.not_mem_nil, or_false] at hi
      rcases hi with rfl | rfl | rfl
      · exact n1
      · exact n2
      · exact n3
    exact ⟨(), [.dat W, .dat (.str p.name), .dat (.str p.mode), .dat (.str (L2.numT p.first.toNat)), .dat (.str (L2.numT p.last.toNat)), .dat (.str (L2.numT p.glide.toNat)), .dat (.str p.tail), .own false (.lst tw), .no, .dat (.str (L2.numT i.toNat)), .no], rfl, [.dat W, .dat (.str p.name), .dat (.str p.mode), .dat (.str (L2.numT p.first.toNat)), .dat (.str (L2.numT p.last.toNat)), .dat (.str (L2.numT p.glide.toNat)), .dat (.str p.tail), .own false (.lst tw), .no, .dat (.str (L2.numT i.toNat)), .no], by refine_lift' ev [n0], rfl⟩) rfl
  have hl2 : mLc [9] (iSeq seqL (mVar 7)) (gNm 9) (mC true) (mFn (F_stretch_in C) (aCons (mVar 9) aNil)) [.dat W, .dat (.str p.name), .dat (.str p.mode), .dat (.str (L2.numT p.first.toNat)), .dat (.str (L2.numT p.last.toNat)), .dat (.str (L2.numT p.glide.toNat)), .dat (.str p.tail), .own false (.lst tw), .dat (.lst [.int p.first, .int p.last, .int p.glide]), .no, .no] = some (.lst (p.touches.map encT), [.dat W, .dat (.str p.name), .dat (.str p.mode), .dat (.str (L2.numT p.first.toNat)), .dat (.str (L2.numT p.last.toNat)), .dat (.str (L2.numT p.glide.toNat)), .dat (.str p.tail), .dat (.lst tw), .dat (.lst [.int p.first, .int p.last, .int p.glide]), .no, .no]) := e_lcm (α := Int × Int) (vs := [9]) (enc := fun t => D.str (L2.stT t.1.toNat t.2.toNat)) (f := encT) (xs := p.touches) (ρ1 := [.dat W, .dat (.str p.name), .dat (.str p.mode), .dat (.str (L2.numT p.first.toNat)), .dat (.str (L2.numT p.last.toNat)), .dat (.str (L2.numT p.glide.toNat)), .dat (.str p.tail), .dat (.lst tw), .dat (.lst [.int p.first, .int p.last, .int p.glide]), .no, .no]) (by
      rw [htw]
      exact e_bd (v := .lst tw) (ρ1 := [.dat W, .dat (.str p.name), .dat (.str p.mode), .dat (.str (L2.numT p.first.toNat)), .dat (.str (L2.numT p.last.toNat)), .dat (.str (L2.numT p.glide.toNat)), .dat (.str p.tail), .dat (.lst tw), .dat (.lst [.int p.first, .int p.last, .int p.glide]), .no, .no]) (e_varO rfl) rfl) rfl (len_le (by have := b.tl; omega)) (by
    intro t ht
    obtain ⟨t1, t2⟩ := tn t ht
    have n0 := v_stretch_in C t1 t2
    exact ⟨(), [.dat W, .dat (.str p.name), .dat (.str p.mode), .dat (.str (L2.numT p.first.toNat)), .dat (.str (L2.numT p.last.toNat)), .dat (.str (L2.numT p.glide.toNat)), .dat (.str p.tail), .dat (.lst tw), .dat (.lst [.int p.first, .int p.last, .int p.glide]), .dat (.str (L2.stT t.1.toNat t.2.toNat)), .no], rfl, [.dat W, .dat (.str p.name), .dat (.str p.mode), .dat (.str (L2.numT p.first.toNat)), .dat (.str (L2.numT p.last.toNat)), .dat (.str (L2.numT p.glide.toNat)), .dat (.str p.tail), .dat (.lst tw), .dat (.lst [.int p.first, .int p.last, .int p.glide]), .dat (.str (L2.stT t.1.toNat t.2.toNat)), .no], by refine_lift' ev [n0], rfl⟩) rfl
  have no1 : dIn .non (.lst [.int p.first, .int p.last, .int p.glide]) = some (.bl false) := ints_none [p.first, p.last, p.glide]
  have no2 := pairs_none p.touches
  have x0 : dIx (.lst [.int p.first, .int p.last, .int p.glide]) (.int 0) = some (.int p.first) := rfl
  have x1 : dIx (.lst [.int p.first, .int p.last, .int p.glide]) (.int 1) = some (.int p.last) := rfl
  have x2 : dIx (.lst [.int p.first, .int p.last, .int p.glide]) (.int 2) = some (.int p.glide) := rfl
  refine retF ?_
  unfold B_pass_in
  refine st_if (p := false) (ρ1 := [.dat W, .no, .no, .no, .no, .no, .no, .no, .no, .no, .no]) (by refine_lift' eva [hln, lt6]) (fun z => by cases z) (fun _ => ?_)
  refine_lift' st
  refine st_asg (d := W) (ρ1 := [.dat W, .no, .no, .no, .no, .no, .no, .no, .no, .no, .no]) (e_var rfl) hun ?_
  refine st_set hl1 ?_
  refine st_set hl2 ?_
  refine st_if (p := false) (ρ1 := [.dat W, .dat (.str p.name), .dat (.str p.mode), .dat (.str (L2.numT p.first.toNat)), .dat (.str (L2.numT p.last.toNat)), .dat (.str (L2.numT p.glide.toNat)), .dat (.str p.tail), .dat (.lst tw), .dat (.lst [.int p.first, .int p.last, .int p.glide]), .no, .dat (.lst (p.touches.map encT))]) (e_or (p := false) (q := false) (by refine_lift' eva [no1]) (by refine_lift' eva [no2])) (fun z => by cases z) (fun _ => ?_)
  refine_lift' st
  refine_lift' st [x0, x1, x2]
  exact rq_rt rfl
end
end My
set_option exponentiation.threshold 20000
namespace My
open PySem PySem.Spec PyProof.Rows L2 DL
section
variable (C : Addr)
set_option maxHeartbeats 1000000 in
theorem v_pass_in_row {L : Int} {p : Ps} (h : passOk L p = true) (hL : L ≤ 1000000000000) : F_pass_in_row C [.str (rowD p)] = some (encP p) := by
  have hp := v_pass_in C h hL
  have sp := split_ok (x := rowD p) (y := " ") (by have := L2.rowT_len hL (pass_text h); unfold rowD; omega) (by decide +kernel)
  have e : Txt.split (rowD p) " " = wordsD p := by
    have := L2.rowT_split hL (pass_text h)
    rw [wordsD_eq] at this
    exact this
  rw [e] at sp
  generalize htl : (wordsD p).tail.map D.str = tl at hp
  have ew : (wordsD p).map D.str = D.str "pass" :: tl := by rw [← htl]; rfl
  rw [ew] at sp
  have hq : dEq (.str "pass") (.str "pass") = some (.bl true) := by
    show some (D.bl (decide _)) = _
    rw [decide_eq_true rfl]
  have hun : gStarN [1] 2 (.lst (D.str "pass" :: tl)) [.dat (.str (rowD p)), .no, .no] = some ((), [.dat (.str (rowD p)), .dat (.str "pass"), .own false (.lst tl)]) := by
    simp only [gStarN]
    rw [if_pos (by simp)]
    rfl
  refine retF ?_
  unfold B_pass_in_row
  refine st_asg (ρ1 := [.dat (.str (rowD p)), .no, .no]) (e_str (e_var rfl) e_c sp) hun ?_
  refine st_one ?_
  refine st_ret (e_if1 (ρ1 := [.dat (.str (rowD p)), .dat (.str "pass"), .own false (.lst tl)]) (by refine_lift' eva [hq]) (e_fn (e_acons (e_varO rfl) e_anil) hp)) ?_
  exact rq_rt rfl
set_option maxHeartbeats 1000000 in
theorem v_length_in_row {n : Nat} (h1 : 1 ≤ n) (h2 : (n : Int) ≤ 1000000000000) : F_length_in_row C [.str (L2.headT n)] = some (.int (n : Int)) := by
  have hn : NumOk (n : Int) := ⟨by omega, by omega⟩
  have ni := v_number_in C hn
  have hl := v_is_length C (n : Int)
  rw [decide_eq_true (by omega), decide_eq_true h2] at hl
  have sp := split_ok (x := L2.headT n) (y := " ") (by have := L2.headT_len (n := n) (by omega); omega) (by decide +kernel)
  rw [L2.headT_split] at sp
  rw [show ((n : Int)).toNat = n from rfl] at ni
  have q1 : dNe (.str "track") (.str "track") = some (.bl false) := ne_str "track"
  have q2 : dLen [.lst [.str (L2.numT n)]] = some (.int 1) := rfl
  have q3 : dNe (.int 1) (.int 1) = some (.bl false) := rfl
  refine retF ?_
  unfold B_length_in_row
  refine st_asg (d := .lst [.str "track", .str (L2.numT n)]) (ρ1 := [.dat (.str (L2.headT n)), .no, .no, .no]) (ρ2 := [.dat (.str (L2.headT n)), .dat (.str "track"), .own false (.lst [.str (L2.numT n)]), .no]) (e_str (e_var rfl) e_c sp) rfl ?_
  refine st_if (p := false) (ρ1 := [.dat (.str (L2.headT n)), .dat (.str "track"), .own false (.lst [.str (L2.numT n)]), .no]) (e_or (p := false) (q := false) (by refine_lift' eva [q1]) (e_tst (e_op (e_fnPo rfl q2 rfl) e_c q3))) (fun z => by cases z) (fun _ => ?_)
  refine_lift' st
  refine st_set (d := .int (n : Int)) (ρ1 := [.dat (.str (L2.headT n)), .dat (.str "track"), .own false (.lst [.str (L2.numT n)]), .no]) (e_fn (e_acons (e_ixO rfl e_c rfl rfl) e_anil) ni) ?_
  refine st_one ?_
  refine st_ret (e_if1 (ρ1 := [.dat (.str (L2.headT n)), .dat (.str "track"), .own false (.lst [.str (L2.numT n)]), .dat (.int (n : Int))]) (by refine_lift' eva [hl]) (e_var rfl)) ?_
  exact rq_rt rfl
def textD (n : Nat) (ps : List Ps) : Str := L2.textT n (ps.map fun p => toP (encP p))
theorem all_pass {n : Int} {ps : List Ps} (h : PssOk n ps) : ∀ d ∈ ps.map (fun p => toP (encP p)), L2.isPass n d = true := fun d hd => by
  obtain ⟨p, hp, rfl⟩ := List.mem_map.mp hd
  exact pass_text (h.ok p hp)
theorem rows_eq (n : Nat) (ps : List Ps) : L2.rowsW n (ps.map fun p => toP (encP p)) = L2.headT n :: ps.map rowD := by
  unfold L2.rowsW
  rw [List.map_map]
  rfl
set_option maxHeartbeats 1000000 in
theorem v_rows_of {n : Nat} {ps : List Ps} (h : PssOk n ps) (h2 : (n : Int) ≤ 1000000000000) : F_rows_of C [.int (n : Int), .tup (ps.map encP)] = some (.lst ((L2.headT n :: ps.map rowD).map D.str)) := by
  have hn : NumOk (n : Int) := ⟨by omega, by omega⟩
  have f1 := fmt_num hn
  rw [show ((n : Int)).toNat = n from rfl] at f1
  have q1 := (L2.numT_len (n := n) (by omega)).2
  have q0 : Str.empty.length = 0 := rfl
  have q3 : ("track " : Str).length = 6 := by decide +kernel
  have hl := e_lcm (α := Ps) (vs := [2]) (it := iSeq seqT (mVar 1)) (g := gNm 2) (e := mFn (F_row_of C) (aCons (mVar 2) aNil)) (enc := encP) (f := fun p => D.str (rowD p)) (xs := ps) (ρ := [.dat (.int (n : Int)), .dat (.tup (ps.map encP)), .no]) (ρ1 := [.dat (.int (n : Int)), .dat (.tup (ps.map encP)), .no]) rfl rfl (len_le (by have := h.len; omega)) (by
    intro p hp
    have r := v_row_of C (h.ok p hp) h2
    exact ⟨(), [.dat (.int (n : Int)), .dat (.tup (ps.map encP)), .dat (encP p)], rfl, [.dat (.int (n : Int)), .dat (.tup (ps.map encP)), .dat (encP p)], by refine_lift' ev [r], rfl⟩) rfl
  have ad : dAdd (.lst [.str (L2.headT n)]) (.lst (ps.map fun p => D.str (rowD p))) = some (.lst ((L2.headT n :: ps.map rowD).map D.str)) := by
    rw [add_lst (by rw [List.length_map]; have := h.len; simp; omega), List.map_cons, List.map_map]
    rfl
  have hh : mFs [mC (.str "track "), mUn dFmt (mVar 0)] [.dat (.int (n : Int)), .dat (.tup (ps.map encP)), .no] = some (.str (L2.headT n), [.dat (.int (n : Int)), .dat (.tup (ps.map encP)), .no]) := by
    rw [← L2.headT_eq]
    refine e_bd (v := Str.empty ++ ("track " : Str) ++ L2.numT n) (ρ1 := [.dat (.int (n : Int)), .dat (.tup (ps.map encP)), .no]) ?_ rfl
    exact e_jcons e_c (by rw [L2.app_len]; omega) (e_jcons (e_un (e_var rfl) f1) (by rw [L2.app_len, L2.app_len]; omega) rfl)
  refine retF ?_
  unfold B_rows_of
  refine st_one ?_
  refine st_ret (e_op (e_lst (e_acons hh e_anil) (len_le (by simp))) hl ad) ?_
  exact rq_rt rfl
theorem v_Track_str {n : Nat} {ps : List Ps} (h : PssOk n ps) (h2 : (n : Int) ≤ 1000000000000) : F_Track_str C [encTr C (n : Int) ps] = some (.str (textD n ps)) := by
  have r := v_rows_of C h h2
  have hs := L2.rowsW_len (L := (n : Int)) (n := n) (ds := ps.map fun p => toP (encP p)) h2 (by omega) (all_pass h) (by rw [List.length_map]; exact h.len)
  rw [rows_eq] at hs
  have jo := join_ok (y := "\n") (ws := L2.headT n :: ps.map rowD) (by
    have h3 : ("\n" : Str).length = 1 := by decide +kernel
    rw [h3]
    omega)
  have e : Txt.join "\n" (L2.headT n :: ps.map rowD) = textD n ps := by rw [← rows_eq]; rfl
  rw [e] at jo
  refine retF ?_
  unfold B_Track_str encTr
  refine st_one ?_
  refine st_ret (e_str e_c (by refine_lift' eva [r]) jo) ?_
  exact rq_rt rfl
end
end My
set_option exponentiation.threshold 20000
namespace My
open PySem PySem.Spec PyProof.Rows L2 DL
section
variable (C : Addr)
set_option maxHeartbeats 1000000 in
theorem v_track_in {n : Nat} {ps : List Ps} (h : PssOk n ps) (h1 : 1 ≤ n) (h2 : (n : Int) ≤ 1000000000000) : F_track_in C [.str (textD n ps)] = some (.tup [.int (n : Int), .tup (ps.map encP)]) := by
  have tl := L2.textT_len (L := (n : Int)) (n := n) (ds := ps.map fun p => toP (encP p)) h2 (by omega) (all_pass h) (by rw [List.length_map]; exact h.len)
  have sp : dSplit (.str (textD n ps)) (.str "\n") = some (.lst ((L2.headT n :: ps.map rowD).map D.str)) := by
    have e : Txt.split (textD n ps) "\n" = L2.headT n :: ps.map rowD := by
      rw [← rows_eq]
      exact L2.textT_split (n := n) h2 (all_pass h)
    rw [← e]
    refine if_pos ⟨by decide +kernel, ?_⟩
    unfold textD
    rw [sizeLine_eq]
    omega
  have li := v_length_in_row C h1 h2
  have fw := v_first_wrong C (n : Int) ps h
  generalize hr : (ps.map rowD).map D.str = rows
  rw [List.map_cons, hr] at sp
  generalize textD n ps = X at sp
  have is : dIs (.int (n : Int)) .non = some (.bl false) := rfl
  have hun : gStarN [1] 2 (.lst (D.str (L2.headT n) :: rows)) [.dat (.str X), .no, .no, .no, .no, .no] = some ((), [.dat (.str X), .dat (.str (L2.headT n)), .own false (.lst rows), .no, .no, .no]) := by
    simp only [gStarN]
    rw [if_pos (by simp)]
    rfl
  have hl := e_lcm (α := Ps) (vs := [5]) (it := iSeq seqL (mVar 2)) (g := gNm 5) (e := mFn (F_pass_in_row C) (aCons (mVar 5) aNil)) (enc := fun p => D.str (rowD p)) (f := encP) (xs := ps) (ρ := [.dat (.str X), .dat (.str (L2.headT n)), .own false (.lst rows), .dat (.int (n : Int)), .no, .no]) (ρ1 := [.dat (.str X), .dat (.str (L2.headT n)), .dat (.lst rows), .dat (.int (n : Int)), .no, .no]) (by
      have e : ps.map (fun p => D.str (rowD p)) = rows := by rw [← hr, List.map_map]; rfl
      rw [e]
      exact e_bd (v := .lst rows) (ρ1 := [.dat (.str X), .dat (.str (L2.headT n)), .dat (.lst rows), .dat (.int (n : Int)), .no, .no]) (e_varO rfl) rfl) rfl (len_le (by have := h.len; omega)) (by
    intro p hp
    have r := v_pass_in_row C (h.ok p hp) h2
    exact ⟨(), [.dat (.str X), .dat (.str (L2.headT n)), .dat (.lst rows), .dat (.int (n : Int)), .no, .dat (.str (rowD p))], rfl, [.dat (.str X), .dat (.str (L2.headT n)), .dat (.lst rows), .dat (.int (n : Int)), .no, .dat (.str (rowD p))], by refine_lift' ev [r], rfl⟩) rfl
  have tt : dIsT [.str X, .ty "str"] = some (.bl true) := rfl
  refine retF ?_
  unfold B_track_in
  refine st_if (p := false) (ρ1 := [.dat (.str X), .no, .no, .no, .no, .no]) (e_not (p := true) (by refine_lift' eva [tt])) (fun z => by cases z) (fun _ => ?_)
  refine_lift' st
  refine st_asg (ρ1 := [.dat (.str X), .no, .no, .no, .no, .no]) (e_str (e_var rfl) e_c sp) hun ?_
  refine st_set (d := .int (n : Int)) (ρ1 := [.dat (.str X), .dat (.str (L2.headT n)), .own false (.lst rows), .no, .no, .no]) (by refine_lift' ev [li]) ?_
  refine st_if (p := false) (ρ1 := [.dat (.str X), .dat (.str (L2.headT n)), .own false (.lst rows), .dat (.int (n : Int)), .no, .no]) (by refine_lift' eva [is]) (fun z => by cases z) (fun _ => ?_)
  refine_lift' st
  refine st_set (d := .tup (ps.map encP)) (ρ1 := [.dat (.str X), .dat (.str (L2.headT n)), .dat (.lst rows), .dat (.int (n : Int)), .no, .no]) (e_fn (e_acons hl e_anil) rfl) ?_
  have i2 : dIs .non .non = some (.bl true) := rfl
  refine st_one ?_
  refine st_ret (e_if1 (ρ1 := [.dat (.str X), .dat (.str (L2.headT n)), .dat (.lst rows), .dat (.int (n : Int)), .dat (.tup (ps.map encP)), .no]) (by refine_lift' eva [fw, i2]) (e_tup (e_acons (e_var rfl) (e_acons (e_var rfl) e_anil)) (len_le (by simp)))) ?_
  exact rq_rt rfl
theorem v_Track_read {n : Nat} {ps : List Ps} (h : PssOk n ps) (h1 : 1 ≤ n) (h2 : (n : Int) ≤ 1000000000000) : F_Track_read C [.cls C, .str (textD n ps)] = some (encTr C (n : Int) ps) := by
  have ti := v_track_in C h h1 h2
  have ini := v_Track_init C (n : Int) ps h (by omega) h2
  have is : dIs (.tup [.int (n : Int), .tup (ps.map encP)]) .non = some (.bl false) := rfl
  generalize textD n ps = X at ti
  refine retF ?_
  unfold B_Track_read
  refine st_set (d := .tup [.int (n : Int), .tup (ps.map encP)]) (ρ1 := [.dat (.cls C), .dat (.str X), .no, .no, .no]) (by refine_lift' eva [ti]) ?_
  refine st_if (p := false) (ρ1 := [.dat (.cls C), .dat (.str X), .dat (.tup [.int (n : Int), .tup (ps.map encP)]), .no, .no]) (by refine_lift' eva [is]) (fun z => by cases z) (fun _ => ?_)
  refine_lift' st
  refine st_asg (d := .tup [.int (n : Int), .tup (ps.map encP)]) (ρ1 := [.dat (.cls C), .dat (.str X), .dat (.tup [.int (n : Int), .tup (ps.map encP)]), .no, .no]) (ρ2 := [.dat (.cls C), .dat (.str X), .dat (.tup [.int (n : Int), .tup (ps.map encP)]), .dat (.int (n : Int)), .dat (.tup (ps.map encP))]) (e_var rfl) rfl ?_
  have mk : mMakeL 0 C (F_Track_init C) [] (aCons (mVar 3) (aCons (mVar 4) aNil)) [.dat (.cls C), .dat (.str X), .dat (.tup [.int (n : Int), .tup (ps.map encP)]), .dat (.int (n : Int)), .dat (.tup (ps.map encP))] = some (encTr C (n : Int) ps, [.dat (.cls C), .dat (.str X), .dat (.tup [.int (n : Int), .tup (ps.map encP)]), .dat (.int (n : Int)), .dat (.tup (ps.map encP))]) := by
    show (if C = C then mMake C (F_Track_init C) [] (aCons (mVar 3) (aCons (mVar 4) aNil)) _ else none) = _
    rw [if_pos rfl]
    exact e_make (e_acons (e_var rfl) (e_acons (e_var rfl) e_anil)) ini
  refine st_one ?_
  refine st_ret mk ?_
  exact rq_rt rfl
end
end My
set_option exponentiation.threshold 20000
namespace My
open PySem PySem.Spec PyProof.Rows L2 DL
structure ShB (n k : Nat) (d : PyData) : Prop where
  nd : d.hasDict = false
  sh : d.showable = true
  lv : d.leavesShort 300 = true
  bk : d.bulk ≤ n
  dp : d.depth ≤ k
structure ShBA (n k : Nat) (ds : List PyData) : Prop where
  nd : PyData.hasDictAll ds = false
  sh : PyData.showableAll ds = true
  lv : PyData.leavesShortAll 300 ds = true
  bk : PyData.bulkAll ds ≤ n
  dp : PyData.depthAll ds ≤ k
theorem ShB.int {i : Int} (h : i.natAbs < 10 ^ 250) : ShB 0 0 (.int i) := by
  refine ⟨by simp [PyData.hasDict], ?_, ?_, by simp [PyData.bulk], by simp [PyData.depth]⟩
  · simp only [PyData.showable]
    refine decide_eq_true ?_
    by_cases z : i.natAbs = 0
    · rw [z]; decide
    · have : i.natAbs < 2 ^ 840 := Nat.lt_trans h (by decide)
      have := (Nat.log2_lt z).mpr this
      omega
  · simp only [PyData.leavesShort]
    refine decide_eq_true ?_
    show (Str.ofString (toString i)).length ≤ 300
    rw [PySem.ofString_length]
    exact Nat.le_trans (int_text_length_le10 (k := 250) (by decide) h) (by decide)
theorem ShBA.nil : ShBA 0 0 [] := ⟨by simp [PyData.hasDictAll], by simp [PyData.showableAll], by simp [PyData.leavesShortAll], by simp [PyData.bulkAll], by simp [PyData.depthAll]⟩
theorem ShBA.cons {n m k l : Nat} {d : PyData} {ds : List PyData} (h : ShB n k d) (t : ShBA m l ds) : ShBA (n + 1 + m) (max k l) (d :: ds) := by
  refine ⟨?_, ?_, ?_, ?_, ?_⟩
  · simp only [PyData.hasDictAll, h.nd, t.nd]; rfl
  · simp only [PyData.showableAll, h.sh, t.sh]; rfl
  · simp only [PyData.leavesShortAll, h.lv, t.lv]; rfl
  · simp only [PyData.bulkAll]; have := h.bk; have := t.bk; omega
  · simp only [PyData.depthAll]; have := h.dp; have := t.dp; omega
theorem ShBA.tup {n k : Nat} {ds : List PyData} (h : ShBA n k ds) : ShB n (k + 1) (.tuple ds) := ⟨by simp only [PyData.hasDict]; exact h.nd, by simp only [PyData.showable]; exact h.sh, by simp only [PyData.leavesShort]; exact h.lv, by simp only [PyData.bulk]; exact h.bk, by simp only [PyData.depth]; have := h.dp; omega⟩
theorem ShBA.lst {n k : Nat} {ds : List PyData} (h : ShBA n k ds) : ShB n (k + 1) (.list ds) := ⟨by simp only [PyData.hasDict]; exact h.nd, by simp only [PyData.showable]; exact h.sh, by simp only [PyData.leavesShort]; exact h.lv, by simp only [PyData.bulk]; exact h.bk, by simp only [PyData.depth]; have := h.dp; omega⟩
theorem ShB.mono {n m k l : Nat} {d : PyData} (h : ShB n k d) (a : n ≤ m) (b : k ≤ l) : ShB m l d := ⟨h.nd, h.sh, h.lv, Nat.le_trans h.bk a, Nat.le_trans h.dp b⟩
theorem ShBA.mono {n m k l : Nat} {ds : List PyData} (h : ShBA n k ds) (a : n ≤ m) (b : k ≤ l) : ShBA m l ds := ⟨h.nd, h.sh, h.lv, Nat.le_trans h.bk a, Nat.le_trans h.dp b⟩
theorem ShBA.all {n k : Nat} : ∀ {ds : List PyData}, (∀ d ∈ ds, ShB n k d) → ShBA (ds.length * (n + 1)) k ds
  | [], _ => ShBA.nil.mono (Nat.zero_le _) (Nat.zero_le _)
  | d :: r, h => by
    have a := ShBA.cons (h d List.mem_cons_self) (ShBA.all (ds := r) fun e he => h e (List.mem_cons_of_mem _ he))
    refine a.mono ?_ (by omega)
    rw [List.length_cons, Nat.succ_mul]
    omega
theorem ShB.shown {n k : Nat} {d : PyData} (h : ShB n k d) (hn : n ≤ 50000) : d.shown.length ≤ sizeLine := by
  have a := PyData.shown_le_bulk 300 (by decide) d h.lv
  have b := h.bk
  rw [sizeLine_eq]
  omega
end My
set_option exponentiation.threshold 20000
namespace My
open PySem PySem.Spec PyProof.Rows L2 DL
def Chr (x : Str) : Prop := ∀ c ∈ x.cps.toList, c < 16 ^ 8
theorem chr_join {y : Str} (hy : Chr y) {ws : List Str} (h : ∀ w ∈ ws, Chr w) : Chr (Txt.join y ws) := by
  have go : ∀ (S : List Nat) (l : List (List Nat)), (∀ c ∈ S, c < 16 ^ 8) → (∀ w ∈ l, ∀ c ∈ w, c < 16 ^ 8) → ∀ c ∈ TL.joinL S l, c < 16 ^ 8 := by
    intro S l hS
    induction l with
    | nil => intro _ c hc; cases hc
    | cons p r ih =>
      intro hl c hc
      cases r with
      | nil => exact hl p List.mem_cons_self c hc
      | cons q r =>
        rw [TL.joinL] at hc
        rcases List.mem_append.mp hc with hc | hc
        · exact hl p List.mem_cons_self c hc
        · rcases List.mem_append.mp hc with hc | hc
          · exact hS c hc
          · exact ih (fun w hw => hl w (List.mem_cons_of_mem _ hw)) c hc
  intro c hc
  rw [TL.join_eq, show (Str.join y ws).cps.toList = TL.tl (Str.join y ws) from rfl, TL.tl_join] at hc
  refine go _ _ hy (fun w hw => ?_) c hc
  obtain ⟨x, hx, rfl⟩ := List.mem_map.mp hw
  exact h x hx
theorem chr_num (n : Nat) : Chr (L2.numT n) := fun c hc => by
  rw [L2.numT_tl] at hc
  have r := TL.numL_digits n c hc
  have : (57 : Nat) < 16 ^ 8 := by decide
  omega
theorem chr_ok {x : Str} (h : PyData.strOk x = true) : Chr x := fun c hc => by
  have := Array.all_eq_true'.mp h c (Array.mem_toList_iff.mp hc)
  have h2 : (0x110000 : Nat) < 16 ^ 8 := by decide
  simp only [decide_eq_true_eq] at this
  omega
theorem chr_row {p : Ps} (h : p.sane) : Chr (rowD p) := by
  rw [← rowD_eq]
  refine chr_join (chr_ok (by decide +kernel)) fun w hw => ?_
  unfold wordsD at hw
  rcases List.mem_append.mp hw with hw | hw
  · simp only [List.mem_cons, List.not_mem_nil, or_false] at hw
    rcases hw with rfl | rfl | rfl | rfl | rfl | rfl | rfl
    · exact chr_ok (by decide +kernel)
    · exact chr_ok h.name
    · exact chr_ok h.mode
    · exact chr_num _
    · exact chr_num _
    · exact chr_num _
    · exact chr_ok h.tail
  · obtain ⟨t, _, rfl⟩ := List.mem_map.mp hw
    refine chr_join (chr_ok (by decide +kernel)) fun w hw => ?_
    simp only [List.mem_cons, List.not_mem_nil, or_false] at hw
    rcases hw with rfl | rfl <;> exact chr_num _
theorem textD_eq (n : Nat) (ps : List Ps) : Txt.join "\n" (L2.headT n :: ps.map rowD) = textD n ps := by rw [← rows_eq]; rfl
theorem chr_text {n : Nat} {ps : List Ps} (h : ∀ p ∈ ps, p.sane) : Chr (textD n ps) := by
  rw [← textD_eq]
  refine chr_join (chr_ok (by decide +kernel)) fun w hw => ?_
  rcases List.mem_cons.mp hw with rfl | hw
  · refine chr_join (chr_ok (by decide +kernel)) fun w hw => ?_
    simp only [List.mem_cons, List.not_mem_nil, or_false] at hw
    rcases hw with rfl | rfl
    · exact chr_ok (by decide +kernel)
    · exact chr_num _
  · obtain ⟨p, hp, rfl⟩ := List.mem_map.mp hw
    exact chr_row (h p hp)
theorem eqv_ts : ∀ (ts us : List (Int × Int)), PyData.eqvAll (toPs (ts.map encT)) (toPs (us.map encT)) = decide (ts = us)
  | [], [] => by simp [toPs, PyData.eqvAll]
  | [], _ :: _ => by simp [toPs, PyData.eqvAll]
  | _ :: _, [] => by simp [toPs, PyData.eqvAll]
  | (a, b) :: ts, (c, d) :: us => by
    have ih := eqv_ts ts us
    rw [List.map_cons, List.map_cons]
    simp only [toPs, PyData.eqvAll, ih]
    simp only [encT, toP, toPs, PyData.eqv, PyData.eqvAll]
    rw [Bool.eq_iff_iff]
    simp [Prod.ext_iff, and_assoc]
theorem eqv_pass (p q : Ps) : PyData.eqv (toP (encP p)) (toP (encP q)) = true ↔ p = q := by
  obtain ⟨n, m, f, l, ts, g, e⟩ := p
  obtain ⟨n', m', f', l', ts', g', e'⟩ := q
  have h := eqv_ts ts ts'
  simp only [encP, toP, toPs, PyData.eqv, PyData.eqvAll, h]
  simp [and_assoc]
theorem eqv_passes : ∀ ps qs : List Ps, PyData.eqvAll (toPs (ps.map encP)) (toPs (qs.map encP)) = true ↔ ps = qs
  | [], [] => by simp [toPs, PyData.eqvAll]
  | [], _ :: _ => by simp [toPs, PyData.eqvAll]
  | _ :: _, [] => by simp [toPs, PyData.eqvAll]
  | p :: ps, q :: qs => by
    have ih := eqv_passes ps qs
    have h := eqv_pass p q
    rw [List.map_cons, List.map_cons]
    simp only [toPs, PyData.eqvAll, Bool.and_eq_true, ih, h, List.cons.injEq]
theorem eq_passes {ps qs : List Ps} (h : ∀ p ∈ ps, p.sane) (h' : ∀ p ∈ qs, p.sane) : ∃ b, dEq (.tup (ps.map encP)) (.tup (qs.map encP)) = some (.bl b) ∧ (b = true ↔ ps = qs) := by
  refine ⟨PyData.eqv (toP (.tup (ps.map encP))) (toP (.tup (qs.map encP))), ?_, ?_⟩
  · show (eqs _ _).map _ = _
    rw [eqs_of (gd_ps h) (gd_ps h') (by decide)]
    rfl
  · simp only [toP, PyData.eqv, eqv_passes]
section
variable (C : Addr)
theorem v_Track_eq {L L' : Int} {ps qs : List Ps} (h : ∀ p ∈ ps, p.sane) (h' : ∀ p ∈ qs, p.sane) : ∃ b, F_Track_eq C [encTr C L ps, encTr C L' qs] = some (.bl b) ∧ (b = true ↔ L = L' ∧ ps = qs) := by
  obtain ⟨b, e, hb⟩ := eq_passes h h'
  have e1 : dEq (.int L) (.int L') = some (.bl (L == L')) := rfl
  have ic : dIsCT C [encTr C L' qs, .cls C] = some (.bl true) := by
    show (if _ then _ else _) = _
    simp
  refine ⟨true && ((L == L') && b), ?_, ?_⟩
  · refine retF ?_
    unfold B_Track_eq
    refine sw_ret ?_
    refine st_ret (d := .bl (true && ((L == L') && b))) (ρ1 := [.dat (encTr C L ps), .dat (encTr C L' qs)]) (e_andV (e_fn (e_acons (e_var rfl) (e_acons e_c e_anil)) ic) (e_andV (e_op (e_fld (e_var rfl) rfl) (e_fld (e_var rfl) rfl) e1) (e_op (e_fld (e_var rfl) rfl) (e_fld (e_var rfl) rfl) e))) ?_
    exact rq_rt rfl
  · simp [hb]
theorem eqI_tr {L L' : Int} {ps qs : List Ps} {b : Bool} (h : F_Track_eq C [encTr C L ps, encTr C L' qs] = some (.bl b)) : dEqI C (F_Track_eq C) (encTr C L ps) (encTr C L' qs) = some (.bl b) ∧ dNeI C (F_Track_eq C) (encTr C L ps) (encTr C L' qs) = some (.bl (!b)) := by
  have e : eqI C (F_Track_eq C) (encTr C L ps) (encTr C L' qs) = some b := by
    unfold eqI encTr
    simp only [and_self, if_true]
    unfold encTr at h
    rw [h]
  unfold dEqI dNeI
  rw [e]
  exact ⟨rfl, rfl⟩
theorem v_law_long {m : Nat} {u : Pur} (hu : PurOk (m + 2) u) : ∃ (n : Nat) (u' : Pur), F_law_long C (encPu u) [] = some (.int (n : Int), encPu u') ∧ 1 ≤ n ∧ n ≤ 1000000000000 ∧ PurOk m u' := by
  have : ∃ r e, runO 1 0 (B_law_long C) (encPu u) [] = some (r, e) ∧ ∃ (n : Nat) (u' : Pur), r = .int (n : Int) ∧ e = encPu u' ∧ 1 ≤ n ∧ n ≤ 1000000000000 ∧ PurOk m u' := by
    refine retOE ?_
    unfold B_law_long
    obtain ⟨i, u1, e1, i0, i1, hu1⟩ := v_law_draw C hu (n := 40) (by decide) (by decide)
    obtain ⟨j, u2, e2, hj, hu2⟩ := v_law_pickI C hu1 [1, 2, 12, 30, 1 + i, 5000, 1000000000000, 1000000000000 - 1]
    have hj : 1 ≤ j ∧ j ≤ 1000000000000 := by simp at hj; omega
    refine sw_ret ?_
    refine st_ret (d := .int j) (ρ1 := [.own true (encPu u2)]) (e_callO (ρ1 := [.own true (encPu u1)]) (d1 := encPu u1) (d0 := encPu u) (p := true) (q := true) rfl (e_acons (e_lst (e_acons e_c (e_acons e_c (e_acons e_c (e_acons e_c (e_acons (e_op e_c (e_callO (ρ1 := [.own true (encPu u)]) (d1 := encPu u) (p := true) (q := true) rfl (e_acons e_c e_anil) rfl e1) rfl) (e_acons e_c (e_acons (e_op e_c e_c pow12) (e_acons (e_op (e_op e_c e_c pow12) e_c rfl) e_anil)))))))) (len_le (by simp))) e_anil) rfl e2) ?_
    exact ro_rt ⟨j.toNat, u2, by rw [show ((j.toNat : Nat) : Int) = j by omega], rfl, by omega, by omega, hu2⟩
  obtain ⟨r, e, h, n, u', rfl, rfl, h1, h2, h3⟩ := this
  exact ⟨n, u', h, h1, h2, h3⟩
theorem dash (a b : Nat) : L2.numT a ++ ("-" : Str) ++ L2.numT b = L2.stT a b := by
  rw [← L2.stT_eq]
  refine TL.ext_tl ?_
  rw [TL.tl_append, TL.tl_append, TL.tl_append, TL.tl_append, TL.tl_append, show TL.tl Str.empty = [] from rfl, List.nil_append]
theorem headW (n : Nat) : ("track " : Str) ++ L2.numT n = L2.headT n := by
  rw [← L2.headT_eq]
  refine TL.ext_tl ?_
  rw [TL.tl_append, TL.tl_append, TL.tl_append, show TL.tl Str.empty = [] from rfl, List.nil_append]
theorem add_str {x y : Str} (h : x.length + y.length ≤ 1000) : dAdd (.str x) (.str y) = some (.str (x ++ y)) := if_pos (len_le h)
set_option maxHeartbeats 2000000 in
theorem v_law_said {L : Int} {ps : List Ps} (h : PssOk L ps) (hL : L ≤ 1000000000000) : F_law_said C [.tup (ps.map encP)] = some (.lst (ps.map fun p => D.str (rowD p))) := by
  have hl8 := h.len
  generalize hA : D.tup (ps.map encP) = A
  refine retF ?_
  unfold B_law_said
  refine st_setN (d := .lst []) (ρ1 := [.dat A, .no, .no, .no, .no, .no, .no, .no, .no, .no, .no, .no]) (e_lst e_anil (len_le (by simp))) ?_
  refine st_for (α := Ps) (enc := encP) (xs := ps) (ρ1 := [.dat A, .own false (.lst []), .no, .no, .no, .no, .no, .no, .no, .no, .no, .no]) (e_bd (v := A) (ρ1 := [.dat A, .own false (.lst []), .no, .no, .no, .no, .no, .no, .no, .no, .no, .no]) (e_var rfl) (e_l (by rw [← hA]; rfl))) (fun ys ρ => ∃ a b c d e f g i, ρ = [.dat A, .own false (.lst (ys.map fun p => D.str (rowD p))), a, b, c, d, e, f, g, i, .no, .no]) ⟨_, _, _, _, _, _, _, _, rfl⟩ ?_ ?_
  · rintro ys p zs ρ ee ⟨x2, x3, x4, x5, x6, x7, x8, x9, rfl⟩
    have hp : p ∈ ps := by rw [ee]; exact List.mem_append_right _ List.mem_cons_self
    have hyl : ys.length + 1 ≤ 8 := by
      have := congrArg List.length ee
      rw [List.length_append, List.length_cons] at this
      omega
    have hpo := h.ok p hp
    obtain ⟨b, _, _⟩ := b_of_pass hpo
    have r := b.rng
    have g := b.gl
    have n1 := str_num (i := p.first) ⟨by omega, by omega⟩
    have n2 := str_num (i := p.last) ⟨by omega, by omega⟩
    have n3 := str_num (i := p.glide) ⟨by omega, by omega⟩
    have rw' := L2.row_words hL (pass_text hpo)
    rw [wordsD_eq] at rw'
    have jo := join_ok (y := " ") (ws := wordsD p) (by
      have h2 := L2.sum_le (l := (wordsD p).map (·.length)) (n := 27) (fun x hx => by
        obtain ⟨w, hw, rfl⟩ := List.mem_map.mp hx
        exact rw'.2 w hw)
      rw [List.length_map] at h2
      have h3 : (" " : Str).length = 1 := by decide +kernel
      rw [h3]
      have := rw'.1
      omega)
    rw [rowD_eq] at jo
    have ad : dAdd (.lst [.str "pass", .str p.name, .str p.mode, .str (L2.numT p.first.toNat), .str (L2.numT p.last.toNat), .str (L2.numT p.glide.toNat), .str p.tail]) (.lst (p.touches.map fun t => D.str (L2.stT t.1.toNat t.2.toNat))) = some (.lst ((wordsD p).map D.str)) := by
      rw [add_lst (by rw [List.length_map]; have := b.tl; simp; omega)]
      unfold wordsD
      rw [List.map_append, List.map_map]
      rfl
    generalize hw0 : D.lst [.str "pass", .str p.name, .str p.mode, .str (L2.numT p.first.toNat), .str (L2.numT p.last.toNat), .str (L2.numT p.glide.toNat), .str p.tail] = w0 at ad
    generalize hF : D.lst (ys.map fun p => D.str (rowD p)) = FD
    refine ⟨(), [.dat A, .own false FD, .dat (.str p.name), .dat (.str p.mode), .dat (.int p.first), .dat (.int p.last), .dat (.tup (p.touches.map encT)), .dat (.int p.glide), .dat (.str p.tail), x9, .no, .no], rfl, ?_⟩
    refine st_set (d := w0) (ρ1 := [.dat A, .own false FD, .dat (.str p.name), .dat (.str p.mode), .dat (.int p.first), .dat (.int p.last), .dat (.tup (p.touches.map encT)), .dat (.int p.glide), .dat (.str p.tail), x9, .no, .no]) (e_as (e_lst (e_acons e_c (e_acons (e_var rfl) (e_acons (e_var rfl) (e_acons (e_fn (e_acons (e_var rfl) e_anil) n1) (e_acons (e_fn (e_acons (e_var rfl) e_anil) n2) (e_acons (e_fn (e_acons (e_var rfl) e_anil) n3) (e_acons (e_var rfl) e_anil))))))) (len_le (by simp))) rfl hw0) ?_
    have hm := e_lcm (α := Int × Int) (vs := [10, 11]) (it := iSeq seqT (mVar 6)) (g := gTp 2 (gsCons (gNm 10) (gsCons (gNm 11) gsNil))) (e := mOp dAdd (mOp dAdd (mFn dStr (aCons (mVar 10) aNil)) (mC (.str "-"))) (mFn dStr (aCons (mVar 11) aNil))) (enc := encT) (f := fun t => .str (L2.stT t.1.toNat t.2.toNat)) (xs := p.touches) (ρ := [.dat A, .own false FD, .dat (.str p.name), .dat (.str p.mode), .dat (.int p.first), .dat (.int p.last), .dat (.tup (p.touches.map encT)), .dat (.int p.glide), .dat (.str p.tail), .dat w0, .no, .no]) (ρ1 := [.dat A, .own false FD, .dat (.str p.name), .dat (.str p.mode), .dat (.int p.first), .dat (.int p.last), .dat (.tup (p.touches.map encT)), .dat (.int p.glide), .dat (.str p.tail), .dat w0, .no, .no]) (e_bd (e_var rfl) (e_l rfl)) rfl (len_le (by have := b.tl; omega)) (by
      intro t ht
      obtain ⟨t1, t2⟩ := touch_num hpo hL t ht
      have f1 := str_num t1
      have f2 := str_num t2
      have q1 := (L2.numT_len t1.nat).2
      have q2 := (L2.numT_len t2.nat).2
      have q3 : ("-" : Str).length = 1 := by decide +kernel
      have a1 : dAdd (.str (L2.numT t.1.toNat)) (.str "-") = some (.str (L2.numT t.1.toNat ++ ("-" : Str))) := add_str (by omega)
      have a2 : dAdd (.str (L2.numT t.1.toNat ++ ("-" : Str))) (.str (L2.numT t.2.toNat)) = some (.str (L2.stT t.1.toNat t.2.toNat)) := by
        rw [add_str (by rw [L2.app_len]; omega), dash]
      refine ⟨(), [.dat A, .own false FD, .dat (.str p.name), .dat (.str p.mode), .dat (.int p.first), .dat (.int p.last), .dat (.tup (p.touches.map encT)), .dat (.int p.glide), .dat (.str p.tail), .dat w0, .dat (.int t.1), .dat (.int t.2)], rfl, [.dat A, .own false FD, .dat (.str p.name), .dat (.str p.mode), .dat (.int p.first), .dat (.int p.last), .dat (.tup (p.touches.map encT)), .dat (.int p.glide), .dat (.str p.tail), .dat w0, .dat (.int t.1), .dat (.int t.2)], ?_, rfl⟩
      exact e_op (e_op (e_fn (e_acons (e_var rfl) e_anil) f1) e_c a1) (e_fn (e_acons (e_var rfl) e_anil) f2) a2) rfl
    refine sw_app (st_app (p := false) (q := false) (ds := ys.map fun p => D.str (rowD p)) (es := ys.map fun p => D.str (rowD p)) (d := .str (rowD p)) (ρ1 := [.dat A, .own false FD, .dat (.str p.name), .dat (.str p.mode), .dat (.int p.first), .dat (.int p.last), .dat (.tup (p.touches.map encT)), .dat (.int p.glide), .dat (.str p.tail), .dat w0, .no, .no]) (by rw [hF]; rfl) (e_str e_c (e_as (e_op (e_var rfl) hm ad) rfl rfl) jo) (by rw [hF]; rfl) (Nat.lt_of_lt_of_le (by rw [List.length_map]; omega : _ < 100) (len_le (by decide))) ?_)
    rw [List.map_append]
    exact ⟨_, _, _, _, _, _, _, _, rfl⟩
  · rintro ρ ⟨x2, x3, x4, x5, x6, x7, x8, x9, rfl⟩
    refine sw_ret ?_
    refine st_ret (d := .lst (ps.map fun p => D.str (rowD p))) (ρ1 := [.dat A, .dat (.lst (ps.map fun p => D.str (rowD p))), x2, x3, x4, x5, x6, x7, x8, x9, .no, .no]) (e_varO rfl) ?_
    exact rq_rt rfl
theorem v_law_text {n : Nat} {ps : List Ps} (h : PssOk n ps) (h2 : (n : Int) ≤ 1000000000000) : F_law_text C [.int (n : Int), .tup (ps.map encP)] = some (.str (textD n ps)) := by
  have sd := v_law_said C h h2
  have hn : NumOk (n : Int) := ⟨by omega, by omega⟩
  have f1 := str_num hn
  rw [show ((n : Int)).toNat = n from rfl] at f1
  have q1 := (L2.numT_len (n := n) (by omega)).2
  have q3 : ("track " : Str).length = 6 := by decide +kernel
  have a1 : dAdd (.str "track ") (.str (L2.numT n)) = some (.str (L2.headT n)) := by rw [add_str (by omega), headW]
  have ad : dAdd (.lst [.str (L2.headT n)]) (.lst (ps.map fun p => D.str (rowD p))) = some (.lst ((L2.headT n :: ps.map rowD).map D.str)) := by
    rw [add_lst (by rw [List.length_map]; have := h.len; simp; omega), List.map_cons, List.map_map]
    rfl
  have hs := L2.rowsW_len (L := (n : Int)) (n := n) (ds := ps.map fun p => toP (encP p)) h2 (by omega) (all_pass h) (by rw [List.length_map]; exact h.len)
  rw [rows_eq] at hs
  have jo := join_ok (y := "\n") (ws := L2.headT n :: ps.map rowD) (by
    have h3 : ("\n" : Str).length = 1 := by decide +kernel
    rw [h3]
    omega)
  rw [textD_eq] at jo
  refine retF ?_
  unfold B_law_text
  refine sw_ret ?_
  refine st_ret (d := .str (textD n ps)) (ρ1 := [.dat (.int (n : Int)), .dat (.tup (ps.map encP))]) (e_str e_c (e_op (e_lst (e_acons (e_op e_c (e_fn (e_acons (e_var rfl) e_anil) f1) a1) e_anil) (len_le (by simp))) (e_fn (e_acons (e_var rfl) e_anil) sd) ad) jo) ?_
  exact rq_rt rfl
theorem text_len {n : Nat} {ps : List Ps} (h : PssOk n ps) (h2 : (n : Int) ≤ 1000000000000) : (textD n ps).length ≤ 5000 := by
  have hs := L2.rowsW_len (L := (n : Int)) (n := n) (ds := ps.map fun p => toP (encP p)) h2 (by omega) (all_pass h) (by rw [List.length_map]; exact h.len)
  rw [rows_eq] at hs
  have h1 := L2.join_length "\n" (L2.headT n :: ps.map rowD)
  rw [textD_eq, show ("\n" : Str).length = 1 from by decide +kernel] at h1
  omega
end
end My
set_option exponentiation.threshold 20000
namespace My
open PySem PySem.Spec PyProof.Rows L2 DL
abbrev TrX := Nat × List Ps
structure TrOk (x : TrX) : Prop where
  ps : PssOk (x.1 : Int) x.2
  n1 : 1 ≤ x.1
  n2 : (x.1 : Int) ≤ 1000000000000
def trE (C : Addr) (x : TrX) : D := encTr C (x.1 : Int) x.2
theorem eq_nilX : dEq (.lst []) (.lst []) = some (.bl true) := by
  show (eqs (.lst []) (.lst [])).map D.bl = _
  rw [eqs_same (gd_lst (n := 0) (ds := []) fun d hd => by cases hd) (by decide)]; rfl
theorem dne_bl (b : Bool) : dNe (.bl b) (.bl b) = some (.bl false) := by cases b <;> rfl
theorem deq_str (x y : Str) : dEq (.str x) (.str y) = some (.bl (decide (x = y))) := rfl
theorem reprS_text {n : Nat} {ps : List Ps} (h : PssOk n ps) (h2 : (n : Int) ≤ 1000000000000) : dReprS [.str (textD n ps)] = some (.str (reprText (textD n ps))) := by
  have c := chr_text (n := n) (ps := ps) fun p hp => h.sane p hp
  have l1 := PySem.StrLaws.reprText_len (textD n ps) c
  have l2 := text_len h h2
  have : (reprText (textD n ps)).length ≤ sizeLine := by rw [sizeLine_eq]; omega
  exact if_pos this
section
variable (C : Addr)
theorem strI_tr {n : Nat} {ps : List Ps} (h : PssOk n ps) (h2 : (n : Int) ≤ 1000000000000) : dStrI C (F_Track_str C) [encTr C (n : Int) ps] = some (.str (textD n ps)) := by
  have s := v_Track_str C h h2
  unfold dStrI
  unfold encTr at s ⊢
  simp only [s]
  rw [if_pos (by simp [isIns])]
theorem text_inj (B : Addr) {x y : TrX} (h : TrOk x) (h' : TrOk y) (e : textD x.1 x.2 = textD y.1 y.2) : x = y := by
  have r1 := v_track_in B h.ps h.n1 h.n2
  have r2 := v_track_in B h'.ps h'.n1 h'.n2
  rw [e, r2] at r1
  injection r1 with r1
  injection r1 with r1
  injection r1 with e1 e2
  injection e1 with e1
  injection e2 with e2 _
  injection e2 with e2
  have g := (gd_ps (ps := x.2) fun p hp => h.ps.sane p hp).e
  simp only [toP, PyData.eqv] at g
  rw [← e2] at g
  have g2 := (eqv_passes y.2 x.2).mp (by rw [e2] at g ⊢; exact g)
  exact Prod.ext (by omega) g2.symm
theorem repr_tr {x : TrX} (h : TrOk x) : dRepr [.lst [.int (x.1 : Int), .tup (x.2.map encP)]] = some (.str (toP (.lst [.int (x.1 : Int), .tup (x.2.map encP)])).shown) := by
  have e : toP (.lst [.int (x.1 : Int), .tup (x.2.map encP)]) = .list [.int (x.1 : Int), .tuple (toPs (x.2.map encP))] := rfl
  have s := L2.track_sh (L := (x.1 : Int)) (ds := toPs (x.2.map encP)) (by omega) h.n2 (by rw [toPs_map, List.length_map, List.length_map]; exact h.ps.len) (fun d hd => by
    rw [toPs_map, List.map_map] at hd
    obtain ⟨p, hp, rfl⟩ := List.mem_map.mp hd
    exact pass_text (h.ps.ok p hp))
  refine repr_lst (m := 5) (gd_lst fun d hd => ?_) (by rw [e]; exact s) (by decide) (by decide)
  simp only [List.mem_cons, List.not_mem_nil, or_false] at hd
  rcases hd with rfl | rfl
  · exact gd_int _ _
  · exact gd_ps fun p hp => h.ps.sane p hp
set_option maxHeartbeats 4000000 in
theorem v_law_right {m : Nat} {u : Pur} (hu : PurOk (m + 1300) u) : ∃ u' : Pur, F_law_right C (encPu u) [] = some (.bl true, encPu u') ∧ PurOk m u' := by
  have : ∃ r e, runO 1 8 (B_law_right C) (encPu u) [] = some (r, e) ∧ ∃ u' : Pur, r = .bl true ∧ e = encPu u' ∧ PurOk m u' := by
    refine retOE ?_
    unfold B_law_right
    refine st_setN (d := .lst []) (ρ1 := [.own true (encPu u), .no, .no, .no, .no, .no, .no, .no, .no]) (e_lst e_anil (len_le (by simp))) ?_
    refine st_forN (n := 3) (ρ1 := [.own true (encPu u), .own false (.lst []), .no, .no, .no, .no, .no, .no, .no]) (it_rng1 (e_acons e_c e_anil) (by decide)) (fun j ρ => ∃ (v : Pur) (l : List TrX) (a b c d e f : Cell), ρ = [.own true (encPu v), .own false (.lst (l.map (trE C))), a, b, c, d, e, f, .no] ∧ l.length = j ∧ (∀ x ∈ l, TrOk x) ∧ PurOk (m + 420 * (3 - j)) v) ⟨u, [], _, _, _, _, _, _, rfl, rfl, (fun x h => by cases h), hu.mono (by omega)⟩ ?_ ?_
    · rintro j ρ hj ⟨v, l, x2, x3, x4, x5, x6, x7, rfl, hl, hok, hv⟩
      obtain ⟨n, v1, e1, n1, n2, hv1⟩ := v_law_long C (m := m + 420 * (3 - (j + 1)) + 50 * 8 + 2) (hv.mono (by omega))
      obtain ⟨ps, v2, e2, ⟨nn, hrow⟩, hpl, hv2⟩ := v_law_faders C (m := m + 420 * (3 - (j + 1))) (many := 8) (L := (n : Int)) (hv1.mono (by omega)) (by decide) (by omega) (by omega)
      have hps : PssOk (n : Int) ps := hrow.pss ((allWords_ok.perm (rot_perm _ _)).take 8) (by omega)
      have ht : TrOk (n, ps) := ⟨hps, n1, by show (n : Int) ≤ _; omega⟩
      have hn2 : (n : Int) ≤ 1000000000000 := by omega
      have mk := v_Track_init C n ps hps (by omega) hn2
      have tx := v_law_text C hps hn2
      have si := strI_tr C hps hn2
      have rs := reprS_text hps hn2
      have rd := v_Track_read C hps n1 hn2
      have rp := repr_tr ht
      obtain ⟨b, teq, hb⟩ := v_Track_eq C (L := (n : Int)) (L' := (n : Int)) (ps := ps) (qs := ps) (fun p hp => hps.sane p hp) (fun p hp => hps.sane p hp)
      have hbt : b = true := hb.mpr ⟨rfl, rfl⟩
      subst hbt
      have ne := (eqI_tr C teq).2
      have tl := v_Track_length C (n : Int) ps
      have tp := v_Track_passes C (n : Int) ps
      have ns := ne_str (reprText (textD n ps))
      have ns2 := ne_str (toP (.lst [.int (n : Int), .tup (ps.map encP)])).shown
      have ns3 := ne_str (textD n ps)
      generalize (toP (.lst [.int (n : Int), .tup (ps.map encP)])).shown = S2 at rp ns2
      have rp : dRepr [.lst [.int (n : Int), .tup (ps.map encP)]] = some (.str S2) := rp
      have hT : ∃ dsT, encTr C (n : Int) ps = .ins C ["_length", "_passes"] dsT := ⟨_, rfl⟩
      have htr : trE C (n, ps) = encTr C (n : Int) ps := rfl
      generalize reprText (textD n ps) = S1 at rs ns
      generalize textD n ps = S at *
      generalize D.tup (ps.map encP) = P at *
      obtain ⟨dsT, hT⟩ := hT
      rw [hT] at tl tp
      have plen : ∀ (i : Nat) (ρ : Cs), ρ[i]? = some (.dat (encTr C (n : Int) ps)) → mProp C (F_Track_length C) (mVar i) ρ = some (.int n, ρ) := fun i ρ hr => e_prop (ns := ["_length", "_passes"]) (ds := dsT) (by rw [← hT]; exact e_var hr) tl
      have ppas : ∀ (i : Nat) (ρ : Cs), ρ[i]? = some (.dat (encTr C (n : Int) ps)) → mProp C (F_Track_passes C) (mVar i) ρ = some (P, ρ) := fun i ρ hr => e_prop (ns := ["_length", "_passes"]) (ds := dsT) (by rw [← hT]; exact e_var hr) tp
      generalize encTr C (n : Int) ps = M at *
      generalize hLD : D.lst (l.map (trE C)) = LD
      refine ⟨(), [.own true (encPu v), .own false LD, .dat (.int (0 + (j : Int))), x3, x4, x5, x6, x7, .no], rfl, ?_⟩
      refine st_set (d := .int n) (ρ1 := [.own true (encPu v1), .own false LD, .dat (.int (0 + (j : Int))), x3, x4, x5, x6, x7, .no]) (e_callO (ρ1 := [.own true (encPu v), .own false LD, .dat (.int (0 + (j : Int))), x3, x4, x5, x6, x7, .no]) (d1 := encPu v) (p := true) (q := true) rfl e_anil rfl e1) ?_
      refine st_set (d := P) (ρ1 := [.own true (encPu v2), .own false LD, .dat (.int (0 + (j : Int))), .dat (.int n), x4, x5, x6, x7, .no]) (e_callO (ρ1 := [.own true (encPu v1), .own false LD, .dat (.int (0 + (j : Int))), .dat (.int n), x4, x5, x6, x7, .no]) (d1 := encPu v1) (p := true) (q := true) rfl (e_acons (e_var rfl) (e_acons e_c e_anil)) rfl e2) ?_
      refine st_par (ds := [M, .str S]) (ρ1 := [.own true (encPu v2), .own false LD, .dat (.int (0 + (j : Int))), .dat (.int n), .dat P, x5, x6, x7, .no]) (ρ2 := [.own true (encPu v2), .own false LD, .dat (.int (0 + (j : Int))), .dat (.int n), .dat P, .dat M, .dat (.str S), x7, .no]) (e_acons (e_make (e_acons (e_var rfl) (e_acons (e_var rfl) e_anil)) mk) (e_acons (e_fn (e_acons (e_var rfl) (e_acons (e_var rfl) e_anil)) tx) e_anil)) rfl ?_
      refine st_if (p := false) (ρ1 := [.own true (encPu v2), .own false LD, .dat (.int (0 + (j : Int))), .dat (.int n), .dat P, .dat M, .dat (.str S), x7, .no]) (e_tst (e_op (e_fn (e_acons (e_fn (e_acons (e_var rfl) e_anil) si) e_anil) rs) (e_fn (e_acons (e_var rfl) e_anil) rs) ns)) (fun z => by cases z) fun _ => ?_
      refine st_nx ?_
      have cm : ∀ ρ : Cs, ρ[6]? = some (.dat (.str S)) → mCMeth C (F_Track_read C) (mC (.cls C)) (aCons (mVar 6) aNil) ρ = some (M, ρ) := fun ρ hr => by
        refine e_bd (v := .cls C) (ρ1 := ρ) rfl ?_
        simp only [if_true]
        exact e_bd (e_acons (e_var hr) e_anil) (e_l rd)
      have ck : ∀ ρ : Cs, ρ[6]? = some (.dat (.str S)) → mCMethK C [0, 1] 1 (F_Track_read C) (mC (.cls C)) (aCons (mVar 6) aNil) ρ = some (M, ρ) := fun ρ hr => by
        refine e_bd (v := .cls C) (ρ1 := ρ) rfl ?_
        simp only [if_true]
        exact e_bd (e_acons (e_var hr) e_anil) (e_l rd)
      refine st_for (α := Unit) (enc := fun _ => M) (xs := [(), ()]) (ρ1 := [.own true (encPu v2), .own false LD, .dat (.int (0 + (j : Int))), .dat (.int n), .dat P, .dat M, .dat (.str S), x7, .no]) (e_bd (v := .lst [M, M]) (ρ1 := [.own true (encPu v2), .own false LD, .dat (.int (0 + (j : Int))), .dat (.int n), .dat P, .dat M, .dat (.str S), x7, .no]) (e_lst (e_acons (cm _ rfl) (e_acons (ck _ rfl) e_anil)) (len_le (by simp))) (e_l rfl)) (fun _ ρ => ∃ x, ρ = [.own true (encPu v2), .own false LD, .dat (.int (0 + (j : Int))), .dat (.int n), .dat P, .dat M, .dat (.str S), x, .no]) ⟨_, rfl⟩ ?_ ?_
      · rintro ys _ zs ρ _ ⟨x, rfl⟩
        refine ⟨(), [.own true (encPu v2), .own false LD, .dat (.int (0 + (j : Int))), .dat (.int n), .dat P, .dat M, .dat (.str S), .dat M, .no], rfl, ?_⟩
        refine sw_if (st_if (p := false || (false || false)) (ρ1 := [.own true (encPu v2), .own false LD, .dat (.int (0 + (j : Int))), .dat (.int n), .dat P, .dat M, .dat (.str S), .dat M, .no]) (e_or (e_tst (e_op (e_var rfl) (e_var rfl) ne)) (e_or (e_tst (e_op (e_fn (e_acons (e_lst (e_acons (plen 7 _ rfl) (e_acons (ppas 7 _ rfl) e_anil)) (len_le (by simp))) e_anil) rp) (e_fn (e_acons (e_lst (e_acons (e_var rfl) (e_acons (e_var rfl) e_anil)) (len_le (by simp))) e_anil) rp) ns2)) (e_tst (e_op (e_fn (e_acons (e_var rfl) e_anil) si) (e_var rfl) ns3)))) (fun z => by cases z) fun _ => ?_)
        refine st_nx ?_
        exact ⟨_, rfl⟩
      · rintro ρ ⟨x, rfl⟩
        refine st_one ?_
        refine st_app (p := false) (q := false) (ds := l.map (trE C)) (es := l.map (trE C)) (d := M) (ρ1 := [.own true (encPu v2), .own false LD, .dat (.int (0 + (j : Int))), .dat (.int n), .dat P, .dat M, .dat (.str S), x, .no]) (by rw [hLD]; rfl) (e_var rfl) (by rw [hLD]; rfl) (Nat.lt_of_lt_of_le (by rw [List.length_map]; omega : _ < 100) (len_le (by decide))) ?_
        refine ⟨v2, l ++ [(n, ps)], .dat (.int (0 + (j : Int))), .dat (.int n), .dat P, .dat M, .dat (.str S), x, ?_, by rw [List.length_append, hl]; rfl, fun y hy => ?_, hv2⟩
        · rw [List.map_append, List.map_cons, List.map_nil, htr]; rfl
        · rcases List.mem_append.mp hy with hy | hy
          · exact hok y hy
          · rw [List.mem_singleton.mp hy]; exact ht
    · rintro ρ ⟨v, l, x2, x3, x4, x5, x6, x7, rfl, hl, hok, hv⟩
      obtain ⟨x0, r0, hx0⟩ : ∃ x r, l = x :: r := by
        cases l with
        | nil => cases hl
        | cons a r => exact ⟨a, r, rfl⟩
      have h0 : TrOk x0 := hok x0 (by rw [hx0]; exact List.mem_cons_self)
      have i0 : dIx (.lst (l.map (trE C))) (.int 0) = some (trE C x0) := by
        rw [hx0]
        show dIx _ (.int ((0 : Nat) : Int)) = _
        exact atI_nat rfl
      have s0 := strI_tr C h0.ps h0.n2
      have key : ∀ x ∈ l, ∃ b, dStrI C (F_Track_str C) [trE C x] = some (.str (textD x.1 x.2)) ∧ dEq (.str (textD x.1 x.2)) (.str (textD x0.1 x0.2)) = some (.bl b) ∧ dEqI C (F_Track_eq C) (trE C x) (trE C x0) = some (.bl b) := fun x hx => by
        have hxk := hok x hx
        obtain ⟨b, teq, hb⟩ := v_Track_eq C (L := (x.1 : Int)) (L' := (x0.1 : Int)) (ps := x.2) (qs := x0.2) (fun p hp => hxk.ps.sane p hp) (fun p hp => h0.ps.sane p hp)
        refine ⟨b, strI_tr C hxk.ps hxk.n2, ?_, (eqI_tr C teq).1⟩
        rw [deq_str]
        have : decide (textD x.1 x.2 = textD x0.1 x0.2) = b := by
          rw [Bool.eq_iff_iff, decide_eq_true_eq, hb]
          constructor
          · intro e
            have := text_inj C hxk h0 e
            rw [this]
            exact ⟨rfl, rfl⟩
          · rintro ⟨e1, e2⟩
            rw [show x.1 = x0.1 by omega, e2]
        rw [this]
      have s0 : dStrI C (F_Track_str C) [trE C x0] = some (.str (textD x0.1 x0.2)) := s0
      generalize hLD : D.lst (l.map (trE C)) = LD at i0
      have hm := e_lcf (α := TrX) (vs := [8]) (it := iSeq seqL (mVar 1)) (g := gNm 8) (t := mTst (mOp dNe (mOp dEq (mFn (dStrI C (F_Track_str C)) (aCons (mVar 8) aNil)) (mFn (dStrI C (F_Track_str C)) (aCons (mIxV 1 (mC (.int 0))) aNil))) (mOp (dEqI C (F_Track_eq C)) (mVar 8) (mIxV 1 (mC (.int 0)))))) (e := mVar 8) (enc := trE C) (f := trE C) (xs := l) (p := fun _ => false) (ρ := [.own true (encPu v), .own false LD, x2, x3, x4, x5, x6, x7, .no]) (ρ1 := [.own true (encPu v), .dat LD, x2, x3, x4, x5, x6, x7, .no]) (e_bd (v := LD) (ρ1 := [.own true (encPu v), .dat LD, x2, x3, x4, x5, x6, x7, .no]) (e_varO rfl) (e_l (by rw [← hLD]; rfl))) rfl (len_le (by omega)) (fun x hx => by
        obtain ⟨b, k1, k2, k3⟩ := key x hx
        have nb := dne_bl b
        exact ⟨(), [.own true (encPu v), .dat LD, x2, x3, x4, x5, x6, x7, .dat (trE C x)], rfl, [.own true (encPu v), .dat LD, x2, x3, x4, x5, x6, x7, .dat (trE C x)], e_tst (e_op (e_op (e_fn (e_acons (e_var rfl) e_anil) k1) (e_fn (e_acons (e_ixD rfl e_c i0) e_anil) s0) k2) (e_op (e_var rfl) (e_ixD rfl e_c i0) k3) nb), fun _ => rfl, fun z => (by cases z)⟩) rfl
      have ef : (l.filter fun _ => false).map (trE C) = [] := by simp
      rw [ef] at hm
      refine sw_ret ?_
      refine st_ret (d := .bl true) (ρ1 := [.own true (encPu v), .dat LD, x2, x3, x4, x5, x6, x7, .no]) (e_op (e_as hm rfl rfl) (e_lst e_anil (len_le (by simp))) eq_nilX) ?_
      exact ro_rt ⟨v, rfl, rfl, hv.mono (by omega)⟩
  obtain ⟨r, e, h1, u', rfl, rfl, h2⟩ := this
  exact ⟨u', h1, h2⟩
end
end My
set_option exponentiation.threshold 20000
namespace My
open PySem PySem.Spec PyProof.Rows L2 DL
def fB : Ps := ⟨"b", "latch", 4, 10, [(6, 7), (8, 10)], 0, "on"⟩
def fA : Ps := ⟨"a", "trim", 0, 12, [], 100, "stop"⟩
theorem fB_ok : PssOk ((12 : Nat) : Int) [fB] := ⟨fun p hp => by
  rw [List.mem_singleton.mp hp]
  exact ⟨by decide +kernel, by decide +kernel, by decide +kernel, by decide +kernel⟩, fun p hp => by
  rw [List.mem_singleton.mp hp]
  decide +kernel, by simp, by decide⟩
theorem fA_ok : PssOk ((12 : Nat) : Int) [fA] := ⟨fun p hp => by
  rw [List.mem_singleton.mp hp]
  exact ⟨by decide +kernel, by decide +kernel, by decide +kernel, by decide +kernel⟩, fun p hp => by
  rw [List.mem_singleton.mp hp]
  decide +kernel, by simp, by decide⟩
theorem no_ok (n : Nat) : PssOk (n : Int) [] := ⟨fun p hp => (by cases hp), fun p hp => (by cases hp), by simp, by decide⟩
theorem text_B : textD 12 [fB] = "track 12\npass b latch 4 10 0 on 6-7 8-10" := by decide +kernel
theorem text_1 : textD 1 [] = "track 1" := by decide +kernel
theorem text_M : textD 1000000000000 [] = "track 1000000000000" := by decide +kernel
theorem text_A : textD 12 [fA] = "track 12\npass a trim 0 12 100 stop" := by decide +kernel
section
variable (C : Addr)
theorem v_law {ns : List Int} (hb : ∀ z ∈ ns, Builtin.Int.intBits z ≤ 1048576) : F_law C [.scr ns] = some (.bl true) := by
  obtain ⟨n, hn, n5⟩ : ∃ n : Nat, (if (if (5 : Int) < (ns.length : Int) then 5 else (ns.length : Int)) > 2 then (if (5 : Int) < (ns.length : Int) then 5 else (ns.length : Int)) else 2) = (n : Int) ∧ n ≤ 5 := by
    refine ⟨(if (if (5 : Int) < (ns.length : Int) then 5 else (ns.length : Int)) > 2 then (if (5 : Int) < (ns.length : Int) then 5 else (ns.length : Int)) else 2).toNat, ?_, ?_⟩ <;> split <;> (try split) <;> omega
  have m1 : dMin [.int ns.length, .int 5] = some (.int (if (5 : Int) < (ns.length : Int) then 5 else (ns.length : Int))) := rfl
  have m2 : dMax [.int 2, .int (if (5 : Int) < (ns.length : Int) then 5 else (ns.length : Int))] = some (.int n) := by
    rw [← hn]; rfl
  have hl : dLen [.scr ns] = some (.int ns.length) := rfl
  have mB := v_Track_init C ((12 : Nat) : Int) [fB] fB_ok (by decide) (by decide)
  have sB := strI_tr C fB_ok (by decide)
  have m0 := v_Track_init C ((1 : Nat) : Int) [] (no_ok 1) (by decide) (by decide)
  have s0 := strI_tr C (no_ok 1) (by decide)
  have rM := v_Track_read C (n := 1000000000000) (no_ok _) (by decide) (by decide)
  have rA := v_Track_read C (n := 12) fA_ok (by decide) (by decide)
  have lM := v_Track_length C ((1000000000000 : Nat) : Int) []
  have pA := v_Track_passes C ((12 : Nat) : Int) [fA]
  have nA := ne_tup (gd_ps (ps := [fA]) fun p hp => fA_ok.sane p hp) (by decide)
  rw [text_B] at sB
  rw [text_1] at s0
  rw [text_M] at rM
  rw [text_A] at rA
  have e1 : D.tup ([fB].map encP) = .tup [.tup [.str "b", .str "latch", .int 4, .int 10, .tup [.tup [.int 6, .int 7], .tup [.int 8, .int 10]], .int 0, .str "on"]] := rfl
  have e2 : D.tup ([fA].map encP) = .tup [.tup [.str "a", .str "trim", .int 0, .int 12, .tup [], .int 100, .str "stop"]] := rfl
  have nB := ne_str "track 12\npass b latch 4 10 0 on 6-7 8-10"
  have n0 := ne_str "track 1"
  have nM : dNe (.int 1000000000000) (.int 1000000000000) = some (.bl false) := rfl
  rw [e1] at mB
  rw [e2] at pA nA
  have hM : ∃ dsT, encTr C ((1000000000000 : Nat) : Int) [] = .ins C ["_length", "_passes"] dsT := ⟨_, rfl⟩
  have hA : ∃ dsT, encTr C ((12 : Nat) : Int) [fA] = .ins C ["_length", "_passes"] dsT := ⟨_, rfl⟩
  obtain ⟨dM, hM⟩ := hM
  obtain ⟨dA, hA⟩ := hA
  rw [hM] at rM lM
  rw [hA] at rA pA
  generalize encTr C ((12 : Nat) : Int) [fB] = MB at mB sB
  generalize encTr C ((1 : Nat) : Int) [] = M0 at m0 s0
  have cm : ∀ (x : Str) (r : D) (ρ : Cs), F_Track_read C [.cls C, .str x] = some r → mCMeth C (F_Track_read C) (mC (.cls C)) (aCons (mC (.str x)) aNil) ρ = some (r, ρ) := fun x r ρ hr => by
    refine e_bd (v := .cls C) (ρ1 := ρ) rfl ?_
    simp only [if_true]
    exact e_bd (e_acons e_c e_anil) (e_l hr)
  refine retF ?_
  unfold B_law
  refine st_set (d := .tup [.str "b", .str "latch", .int 4, .int 10, .tup [.tup [.int 6, .int 7], .tup [.int 8, .int 10]], .int 0, .str "on"]) (ρ1 := [.dat (.scr ns), .no, .no]) (e_tup (e_acons e_c (e_acons e_c (e_acons e_c (e_acons e_c (e_acons (e_tup (e_acons (e_tup (e_acons e_c (e_acons e_c e_anil)) (len_le (by simp))) (e_acons (e_tup (e_acons e_c (e_acons e_c e_anil)) (len_le (by simp))) e_anil)) (len_le (by simp))) (e_acons e_c (e_acons e_c e_anil))))))) (len_le (by simp))) ?_
  refine st_if (p := false || false) (ρ1 := [.dat (.scr ns), .dat (.tup [.str "b", .str "latch", .int 4, .int 10, .tup [.tup [.int 6, .int 7], .tup [.int 8, .int 10]], .int 0, .str "on"]), .no]) (e_or (e_tst (e_op (e_fn (e_acons (e_make (e_acons e_c (e_acons (e_tup (e_acons (e_var rfl) e_anil) (len_le (by simp))) e_anil)) mB) e_anil) sB) e_c nB)) (e_tst (e_op (e_fn (e_acons (e_make (e_acons e_c e_anil) m0) e_anil) s0) e_c n0))) (fun z => by cases z) fun _ => ?_
  refine st_nx ?_
  generalize D.tup [.str "b", .str "latch", .int 4, .int 10, .tup [.tup [.int 6, .int 7], .tup [.int 8, .int 10]], .int 0, .str "on"] = FB
  refine st_if (p := false) (ρ1 := [.dat (.scr ns), .dat FB, .no]) (e_tst (e_op (e_prop (cm _ _ _ rM) lM) (e_op e_c e_c pow12) nM)) (fun z => by cases z) fun _ => ?_
  refine st_nx ?_
  refine st_if (p := false) (ρ1 := [.dat (.scr ns), .dat FB, .no]) (e_tst (e_op (e_prop (cm _ _ _ rA) pA) (e_tup (e_acons (e_tup (e_acons e_c (e_acons e_c (e_acons e_c (e_acons e_c (e_acons (e_tup e_anil (len_le (by simp))) (e_acons e_c (e_acons e_c e_anil))))))) (len_le (by simp))) e_anil) (len_le (by simp))) nA)) (fun z => by cases z) fun _ => ?_
  refine st_nx ?_
  refine st_forN (n := n) (ρ1 := [.dat (.scr ns), .dat FB, .no]) ?_ (fun j ρ => ∃ x, ρ = [.dat (.scr ns), .dat FB, x]) ⟨_, rfl⟩ ?_ ?_
  · refine it_rng1 ?_ (by omega)
    refine_lift' eva [hl, m1, m2]
  · rintro j ρ hj ⟨x, rfl⟩
    obtain ⟨u, hp, hu⟩ := v_law_purse C hb (k := j) (by omega)
    obtain ⟨e1, hr, _⟩ := v_law_right C (m := 100) (u := u) (hu.mono (by omega))
    refine ⟨(), [.dat (.scr ns), .dat FB, .dat (.int (j : Int))], by rw [show (0 : Int) + (j : Int) = (j : Int) by omega]; rfl, ?_⟩
    refine_lift' st [hp, hr]
    · intro h; cases h
    · intro _
      refine_lift' st
      exact ⟨_, rfl⟩
  · rintro ρ ⟨x, rfl⟩
    refine_lift' st
    exact rq_rt rfl
end
end My
namespace My
open PySem PySem.Spec PyProof.Rows L2 DL
theorem sqL_fz {K : PySem.W.Frag} {H : Hp} {a : Addr} {xs : List V} (o : Only H) (h : SqL K H a xs) : SqL K (fz H) a xs := by
  rcases h with (h | ⟨ob, h⟩) | h
  · rcases o a with z | ⟨_, _, z⟩
    · rw [h] at z; cases z
    · rw [h] at z; cases z
  · exact .inl (.inr ⟨_, fz_of h⟩)
  · exact .inr h
def spEnd (K : PySem.W.Frag) : Sp := fun vs H Q _ => ∃ (s : Addr) (ns : List Int), vs = [.ref s] ∧ SqL K (fz H) s (ns.map V.int) ∧ ns.length ≤ 63 ∧ (∀ z ∈ ns, Builtin.Int.intBits z ≤ 1048576) ∧ ∀ H', Q (.bl true) H'
theorem spEnd_of {P : Program} {w : World} {K : PySem.W.Frag} {mg : Str → Option Value} {base : Heap} {k : Nat} {f : Addr} {fd : FuncData} {F : List D → Option D} (h : FnG P w K mg base CX0 k f fd ["script"] (spF K 1 F))
    (t : ∀ ns : List Int, ns.length ≤ 63 → (∀ z ∈ ns, Builtin.Int.intBits z ≤ 1048576) → F [.scr ns] = some (.bl true)) : FnG P w K mg base CX0 k f fd ["script"] (spEnd K) := by
  have go : ∀ vs H Q E, spEnd K vs H Q E → spF K 1 F vs H Q E := by
    rintro vs H Q E ⟨s, ns, rfl, hS, hl, hb, q⟩
    exact ⟨fun _ => False, [.scr ns], .bl true, fun _ z => z.elim, .cons (.scr hS) .nil, rfl, t ns hl hb, fun u H' _ hd => by cases hd; exact q H'⟩
  exact ⟨fun vs H Q E q => h.size vs H Q E (go _ _ _ _ q), fun A outer s H args us vs Q E hg hr he hb hv hs => h.runs A outer s H args us vs Q E hg hr he hb hv (go _ _ _ _ hs)⟩
theorem fin_mk {P : Program} {w : World} {K : PySem.W.Frag} {mg : Str → Option Value} {fa fl : Addr} (hfa : mg "law" = some (.ref fa)) (h : ∃ T : Txt w.params K mg, T.law.f = fl) :
    ∃ fd : FuncData, (∀ (s : Shared) (u : Value), BindsTo s fd ⟨[u], []⟩ [("script", u)]) ∧ ∀ base : Heap, K.In base → base.Ns mainGlobals mg → FnG P w K mg base CX0 11 fa fd ["script"] (spEnd K) := by
  obtain ⟨T, _⟩ := h
  have e := hfa.symm.trans T.law.g
  obtain ⟨oc, od, kV, doc, pm, an, cdv, ct, osl, e2, lk, hcd⟩ := T.law.F.ex
  injection e with e
  injection e with e
  subst e
  refine ⟨T.law.fd, fun s u => ?_, fun base _ _ => spEnd_of (ok_law T) fun ns hl hb => v_law T.C hb⟩
  rw [e2]
  exact .of_eq rfl
end My
def PySem.W.Fast.tw2559967275680674980 : Nat := 0
def PySem.W.Fast.tw12249864506954861709 : Nat := 0
def PySem.W.Fast.tw18045914022947700304 : Nat := 0
def PySem.W.Fast.tw5369755160134555593 : Nat := 0
def PySem.W.Fast.tw13911043786068832308 : Nat := 0
def PySem.W.Fast.tw16080627189164895645 : Nat := 0
def PySem.W.Fast.tw15613831254834490265 : Nat := 0
def PySem.W.Fast.tw7565826468511976375 : Nat := 0
def PySem.W.Fast.tw118979118868639621 : Nat := 0
def PySem.W.Fast.tw10639329856311907174 : Nat := 0
def PySem.W.Fast.tw8604031147902079960 : Nat := 0
def PySem.W.Fast.tw13936336095120757461 : Nat := 0
def PySem.W.Fast.tw2004347706569586315 : Nat := 0
def PySem.W.Fast.tw895885799558674475 : Nat := 0
def PySem.W.Fast.tw4884787255618211556 : Nat := 0
def PySem.W.Fast.tw6821268761600584790 : Nat := 0
def PySem.W.Fast.tw17223876501185203672 : Nat := 0
def PySem.W.Fast.tw9381318554676499998 : Nat := 0
def PySem.W.Fast.tw17294051371704104296 : Nat := 0
def PySem.W.Fast.tw525821003806223513 : Nat := 0
def PySem.W.Fast.tw15238745117304930566 : Nat := 0
def PySem.W.Fast.tw8227151580476081575 : Nat := 0
def PySem.W.Fast.tw13947994462924481360 : Nat := 0
def PySem.W.Fast.tw498247641705912664 : Nat := 0
def PySem.W.Fast.tw14624966867639570780 : Nat := 0
def PySem.W.Fast.tw18103089050208035970 : Nat := 0
def PySem.W.Fast.tw14305602135700984221 : Nat := 0
def PySem.W.Fast.tw8071064852677322912 : Nat := 0
def PySem.W.Fast.tw18369766668208838501 : Nat := 0
def PySem.W.Fast.tw7325201072283913145 : Nat := 0
def PySem.W.Fast.tw4054488434578727109 : Nat := 0
def PySem.W.Fast.tw16400683350242416403 : Nat := 0
def PySem.W.Fast.tw13085991077730236382 : Nat := 0
def PySem.W.Fast.tw11519115856420862924 : Nat := 0
def PySem.W.Fast.tw2332574096839550017 : Nat := 0
def PySem.W.Fast.tw3408684073445311088 : Nat := 0
def PySem.W.Fast.tw10530990199343799997 : Nat := 0
def PySem.W.Fast.tw13247535617297084382 : Nat := 0
def PySem.W.Fast.tw582859834132970331 : Nat := 0
def PySem.W.Fast.tw17356978629620101762 : Nat := 0
def PySem.W.Fast.tw18416394068983233183 : Nat := 0
def PySem.W.Fast.tw5741590388886921559 : Nat := 0
def PySem.W.Fast.tw6554814102190937935 : Nat := 0
def PySem.W.Fast.tw10568548477401149661 : Nat := 0
def PySem.W.Fast.tw2841566063700840081 : Nat := 0
def PySem.W.Fast.tw5278510257554874438 : Nat := 0
def PySem.W.Fast.tw10706427664147720150 : Nat := 0
def PySem.W.Fast.tw16491745653748813825 : Nat := 0
def PySem.W.Fast.tw17156699143785555677 : Nat := 0
def PySem.W.Fast.tw12942626072222750024 : Nat := 0
def PySem.W.Fast.tw9557215927014293677 : Nat := 0
def PySem.W.Fast.tw13904804578887486959 : Nat := 0
def PySem.W.Fast.tw8864615063538589986 : Nat := 0
def PySem.W.Fast.tw18083721683388285020 : Nat := 0
def PySem.W.Fast.tw13526607863930343840 : Nat := 0
def PySem.W.Fast.tw15469671285836527382 : Nat := 0
def PySem.W.Fast.tw16774617992227160060 : Nat := 0
def PySem.W.Fast.tw4673934013521673170 : Nat := 0
def PySem.W.Fast.tw8253364739331863900 : Nat := 0
def PySem.W.Fast.tw7712386612018805815 : Nat := 0
def PySem.W.Fast.tw9236928161992496025 : Nat := 0
def PySem.W.Fast.tw10176856281787785165 : Nat := 0
def PySem.W.Fast.tw7715691731005006276 : Nat := 0
def PySem.W.Fast.tw4078081566618231868 : Nat := 0
def PySem.W.Fast.tw28545886657609928 : Nat := 0
def PySem.W.Fast.tw14433941053329640365 : Nat := 0
def PySem.W.Fast.tw14404736855657427130 : Nat := 0
def PySem.W.Fast.tw3830572916044628948 : Nat := 0
def PySem.W.Fast.tw3552319112919153281 : Nat := 0
def PySem.W.Fast.tw17308740738586156412 : Nat := 0
def PySem.W.Fast.tw11314484183278631158 : Nat := 0
def PySem.W.Fast.tw12768929061331399294 : Nat := 0
def PySem.W.Fast.tw10204684287130244962 : Nat := 0
def PySem.W.Fast.tw14480293868288366124 : Nat := 0
def PySem.W.Fast.tw8952532230308693849 : Nat := 0
def PySem.W.Fast.tw15048918100591046407 : Nat := 0
def PySem.W.Fast.tw15216830859116650645 : Nat := 0
def PySem.W.Fast.tw5460361125763362132 : Nat := 0
def PySem.W.Fast.tw13405887852465322605 : Nat := 0
def PySem.W.Fast.tw10094542188949805022 : Nat := 0
def PySem.W.Fast.tw7749344735054509105 : Nat := 0
def PySem.W.Fast.tw5333774311514726189 : Nat := 0
def PySem.W.Fast.tw8020687154674969584 : Nat := 0
def PySem.W.Fast.tw9500065243938191831 : Nat := 0
def PySem.W.Fast.tw7355146429913745239 : Nat := 0
def PySem.W.Fast.tw8068303170419430833 : Nat := 0
def PySem.W.Fast.tw2989330001750530472 : Nat := 0
def PySem.W.Fast.tw16541660945432166035 : Nat := 0
def PySem.W.Fast.tw1714611624029665579 : Nat := 0
def PySem.W.Fast.tw4017345124159818476 : Nat := 0
def PySem.W.Fast.tw88824750347685716 : Nat := 0
def PySem.W.Fast.tw17136449158636190348 : Nat := 0
def PySem.W.Fast.tw18412063999833306389 : Nat := 0
def PySem.W.Fast.tw17237630759523021207 : Nat := 0
def PySem.W.Fast.tw8024279587306903606 : Nat := 0
def PySem.W.Fast.tw16829241455523637004 : Nat := 0
def PySem.W.Fast.tw13758024231905180112 : Nat := 0
def PySem.W.Fast.tw1578237411066929114 : Nat := 0
def PySem.W.Fast.tw6459741743213237562 : Nat := 0
def PySem.W.Fast.tw1556731522379287625 : Nat := 0
def PySem.W.Fast.tw2102684691389403804 : Nat := 0
def PySem.W.Fast.tw8731168781449968019 : Nat := 0
def PySem.W.Fast.tw11052188658152577721 : Nat := 0
def PySem.W.Fast.tw747613208155060065 : Nat := 0
def PySem.W.Fast.tw12788481767299657344 : Nat := 0
def PySem.W.Fast.tw13553164322151174559 : Nat := 0
def PySem.W.Fast.tw13796935075567641039 : Nat := 0
def PySem.W.Fast.tw4359029833005976051 : Nat := 0
def PySem.W.Fast.tw11058400040632779324 : Nat := 0
def PySem.W.Fast.tw17262535933116232163 : Nat := 0
def PySem.W.Fast.tw8463055618021395755 : Nat := 0
def PySem.W.Fast.tw13936819952195367094 : Nat := 0
def PySem.W.Fast.tw9099273743760135329 : Nat := 0
def PySem.W.Fast.tw16932686368976835250 : Nat := 0
def PySem.W.Fast.tw16919111846000207572 : Nat := 0
def PySem.W.Fast.tw4988400245986716181 : Nat := 0
def PySem.W.Fast.tw7803007470874779729 : Nat := 0
def PySem.W.Fast.tw1311018825575820767 : Nat := 0
def PySem.W.Fast.tw2789922975657672191 : Nat := 0
def PySem.W.Fast.tw10273332901452329427 : Nat := 0
def PySem.W.Fast.tw6261591564075543572 : Nat := 0
def PySem.W.Fast.tw6323572803709379315 : Nat := 0
def PySem.W.Fast.tw13164945081196324102 : Nat := 0
def PySem.W.Fast.tw17488464779296405972 : Nat := 0
def PySem.W.Fast.tw4781046001296999310 : Nat := 0
def PySem.W.Fast.tw16326135219299561071 : Nat := 0
def PySem.W.Fast.tw11430288228909080527 : Nat := 0
def PySem.W.Fast.tw9452469134229363777 : Nat := 0
def PySem.W.Fast.tw2034548030051582541 : Nat := 0
def PySem.W.Fast.tw17364538336495247023 : Nat := 0
def PySem.W.Fast.tw3784190972851290169 : Nat := 0
def PySem.W.Fast.tw14179614612855384141 : Nat := 0
def PySem.W.Fast.tw3145718224992552032 : Nat := 0
def PySem.W.Fast.tw5013516720589717806 : Nat := 0
def PySem.W.Fast.tw6680693565989547346 : Nat := 0
def PySem.W.Fast.tw13232918246485157972 : Nat := 0
def PySem.W.Fast.tw5006390615486764130 : Nat := 0
def PySem.W.Fast.tw15199456328052529797 : Nat := 0
def PySem.W.Fast.tw12673895621106680440 : Nat := 0
def PySem.W.Fast.tw5206411482865570957 : Nat := 0
def PySem.W.Fast.tw13136130262580139497 : Nat := 0
def PySem.W.Fast.tw16426243333900559167 : Nat := 0
def PySem.W.Fast.tw17955011538013975323 : Nat := 0
def PySem.W.Fast.tw15638956345673464191 : Nat := 0
def PySem.W.Fast.tw5702758364514293094 : Nat := 0
def PySem.W.Fast.tw782836961359512101 : Nat := 0
def PySem.W.Fast.tw4163128361739630529 : Nat := 0
def PySem.W.Fast.tw15073428393920072816 : Nat := 0
def PySem.W.Fast.tw5099884202816131407 : Nat := 0
def PySem.W.Fast.tw17628225719662725884 : Nat := 0
def PySem.W.Fast.tw3294478556751318757 : Nat := 0
def PySem.W.Fast.tw11267508374314719440 : Nat := 0
def PySem.W.Fast.tw877945772342016986 : Nat := 0
def PySem.W.Fast.tw12340144122892180045 : Nat := 0
def PySem.W.Fast.tw12228621397366480340 : Nat := 0
def PySem.W.Fast.tw18186305073404292103 : Nat := 0
def PySem.W.Fast.tw62320532126773327 : Nat := 0
def PySem.W.Fast.tw10676377817047475539 : Nat := 0
def PySem.W.Fast.tw4056717830900286568 : Nat := 0
def PySem.W.Fast.tw6533520381963850965 : Nat := 0
def PySem.W.Fast.tw15331396213758803149 : Nat := 0
def PySem.W.Fast.tw5212517554869057995 : Nat := 0
def PySem.W.Fast.tw9554049122187640671 : Nat := 0
def PySem.W.Fast.tw13334373425837113844 : Nat := 0
def PySem.W.Fast.tw3385121884137105114 : Nat := 0
def PySem.W.Fast.tw4947036236255202026 : Nat := 0
def PySem.W.Fast.tw15086422122920840380 : Nat := 0
def PySem.W.Fast.tw10655105907293391721 : Nat := 0
def PySem.W.Fast.tw1661413165475335141 : Nat := 0
def PySem.W.Fast.tw7431501983555407698 : Nat := 0
def PySem.W.Fast.tw9942833827137910976 : Nat := 0
def PySem.W.Fast.tw1780813775361104412 : Nat := 0
def PySem.W.Fast.tw6528302138777252609 : Nat := 0
def PySem.W.Fast.tw14290003960282447455 : Nat := 0
def PySem.W.Fast.tw8679070197938867497 : Nat := 0
def PySem.W.Fast.tw10918573918732652789 : Nat := 0
def PySem.W.Fast.tw3952254867998886799 : Nat := 0
def PySem.W.Fast.tw7315282486948109589 : Nat := 0
def PySem.W.Fast.tw17688441223522428968 : Nat := 0
def PySem.W.Fast.tw17623543097954227056 : Nat := 0
def PySem.W.Fast.tw3207263432551412072 : Nat := 0
def PySem.W.Fast.tw8995169597346116157 : Nat := 0
def PySem.W.Fast.tw12361962558584954250 : Nat := 0
def PySem.W.Fast.tw297754514860920314 : Nat := 0
def PySem.W.Fast.tw16687620208791129312 : Nat := 0
def PySem.W.Fast.tw3387348483949647025 : Nat := 0
def PySem.W.Fast.tw15418891716797941009 : Nat := 0
def PySem.W.Fast.tw4048081609565980180 : Nat := 0
def PySem.W.Fast.tw4789508375975783695 : Nat := 0
def PySem.W.Fast.tw10605919687194131702 : Nat := 0
def PySem.W.Fast.tw11098018001618785213 : Nat := 0
def PySem.W.Fast.tw16187897925291606470 : Nat := 0
def PySem.W.Fast.tw15878097685932943393 : Nat := 0
def PySem.W.Fast.tw703660635408848005 : Nat := 0
def PySem.W.Fast.tw6610863937219118048 : Nat := 0
def PySem.W.Fast.tw11323254372726984335 : Nat := 0
def PySem.W.Fast.tw18120479511033561476 : Nat := 0
def PySem.W.Fast.tw8498941776160894713 : Nat := 0
def PySem.W.Fast.tw6793506166690215925 : Nat := 0
def PySem.W.Fast.tw5777570784528020399 : Nat := 0
def PySem.W.Fast.tw17281032223283409426 : Nat := 0
def PySem.W.Fast.tw15868270730533205819 : Nat := 0
def PySem.W.Fast.tw4170327387252199624 : Nat := 0
def PySem.W.Fast.tw11479043026262184381 : Nat := 0
def PySem.W.Fast.tw14691362873839357879 : Nat := 0
def PySem.W.Fast.tw17377064039750441799 : Nat := 0
def PySem.W.Fast.tw15400827942257094166 : Nat := 0
def PySem.W.Fast.tw10141466002527108643 : Nat := 0
def PySem.W.Fast.tw15234948186155820175 : Nat := 0
def PySem.W.Fast.tw3401598737107961519 : Nat := 0
def PySem.W.Fast.tw9451700744003530788 : Nat := 0
def PySem.W.Fast.tw4654994467239813478 : Nat := 0
def PySem.W.Fast.tw16929864108383817752 : Nat := 0
def PySem.W.Fast.tw10314681955541048402 : Nat := 0
def PySem.W.Fast.tw9230130792626326025 : Nat := 0
def PySem.W.Fast.tw5947299282614236862 : Nat := 0
def PySem.W.Fast.tw15141507502419969291 : Nat := 0
def PySem.W.Fast.tw9150959025477167214 : Nat := 0
def PySem.W.Fast.tw8490585013842237240 : Nat := 0
def PySem.W.Fast.tw11961058133216831135 : Nat := 0
def PySem.W.Fast.tw14517245220063753546 : Nat := 0
def PySem.W.Fast.tw11066691017159841546 : Nat := 0
def PySem.W.Fast.tw7865730435690084647 : Nat := 0
def PySem.W.Fast.tw4963365620017315934 : Nat := 0
def PySem.W.Fast.tw6085640522028026112 : Nat := 0
def PySem.W.Fast.tw1728801291203196510 : Nat := 0
def PySem.W.Fast.tw3011976949376771312 : Nat := 0
def PySem.W.Fast.tw1604472106537890241 : Nat := 0
def PySem.W.Fast.tw18294092110764849092 : Nat := 0
def PySem.W.Fast.tw14233482766917614711 : Nat := 0
def PySem.W.Fast.tw1315424266503454571 : Nat := 0
def PySem.W.Fast.tw4707184718928252918 : Nat := 0
def PySem.W.Fast.tw16669653381866261554 : Nat := 0
def PySem.W.Fast.tw15421303772544452934 : Nat := 0
def PySem.W.Fast.tw14417737572764209212 : Nat := 0
def PySem.W.Fast.tw3137840121603591460 : Nat := 0
def PySem.W.Fast.tw17671991213958827313 : Nat := 0
def PySem.W.Fast.tw8911956096433864274 : Nat := 0
def PySem.W.Fast.tw4704214844831381352 : Nat := 0
def PySem.W.Fast.tw1806278282329660333 : Nat := 0
def PySem.W.Fast.tw5041157510927933321 : Nat := 0
def PySem.W.Fast.tw15296176462493520485 : Nat := 0
def PySem.W.Fast.tw2790657570101700161 : Nat := 0
def PySem.W.Fast.tw4606167645709058830 : Nat := 0
def PySem.W.Fast.tw6272330471868209311 : Nat := 0
def PySem.W.Fast.tw5800748125514697 : Nat := 0
def PySem.W.Fast.tw7665875565971913185 : Nat := 0
def PySem.W.Fast.tw7352530039513940607 : Nat := 0
def PySem.W.Fast.tw1751978093138344812 : Nat := 0
def PySem.W.Fast.tw6576886557907392819 : Nat := 0
def PySem.W.Fast.tw5137909496043732559 : Nat := 0
def PySem.W.Fast.tw16893607754239152875 : Nat := 0
def PySem.W.Fast.tw638714593210273745 : Nat := 0
def PySem.W.Fast.tw9938547766130137149 : Nat := 0
def PySem.W.Fast.tw15730958542710031366 : Nat := 0
def PySem.W.Fast.tw15356957475427588157 : Nat := 0
def PySem.W.Fast.tw13745563128547733994 : Nat := 0
def PySem.W.Fast.tw17592227701504828146 : Nat := 0
def PySem.W.Fast.tw894094329137808713 : Nat := 0
def PySem.W.Fast.tw15562929614567506696 : Nat := 0
def PySem.W.Fast.tw16624242017771132827 : Nat := 0
def PySem.W.Fast.tw8659323246873752396 : Nat := 0
def PySem.W.Fast.tw4840640698586017700 : Nat := 0
def PySem.W.Fast.tw18186748522913995193 : Nat := 0
def PySem.W.Fast.tw16190260655639110610 : Nat := 0
def PySem.W.Fast.tw10381889381226018328 : Nat := 0
def PySem.W.Fast.tw15709126300571445521 : Nat := 0
def PySem.W.Fast.tw4879422112419364805 : Nat := 0
def PySem.W.Fast.tw6383150378384888900 : Nat := 0
def PySem.W.Fast.tw11870212581741866322 : Nat := 0
def PySem.W.Fast.tw6142403888449230793 : Nat := 0
def PySem.W.Fast.tw1674736453932784565 : Nat := 0
def PySem.W.Fast.tw1517524592682261354 : Nat := 0
def PySem.W.Fast.tw13756915759596876033 : Nat := 0
def PySem.W.Fast.tw11137950797066185878 : Nat := 0
def PySem.W.Fast.tw13614366798366360366 : Nat := 0
def PySem.W.Fast.tw6906755140857292038 : Nat := 0
def PySem.W.Fast.tw5800632122435358408 : Nat := 0
def PySem.W.Fast.tw11205651666234962929 : Nat := 0
def PySem.W.Fast.tw15646877798405696519 : Nat := 0
def PySem.W.Fast.tw1909565449713166435 : Nat := 0
def PySem.W.Fast.tw12994744600048820747 : Nat := 0
def PySem.W.Fast.tw3115896670179343100 : Nat := 0
def PySem.W.Fast.tw13154618444414684439 : Nat := 0
def PySem.W.Fast.tw10293532799508422083 : Nat := 0
def PySem.W.Fast.tw10317141435094145717 : Nat := 0
def PySem.W.Fast.tw7569680430818649579 : Nat := 0
def PySem.W.Fast.tw10583615197606533253 : Nat := 0
def PySem.W.Fast.tw15915234425099945924 : Nat := 0
def PySem.W.Fast.tw1687892345117895613 : Nat := 0
def PySem.W.Fast.tw14040823252352088220 : Nat := 0
def PySem.W.Fast.tw11321348582207683021 : Nat := 0
def PySem.W.Fast.tw8589787266246104684 : Nat := 0
def PySem.W.Fast.tw15158515910062307128 : Nat := 0
def PySem.W.Fast.tw1582568791422690040 : Nat := 0
def PySem.W.Fast.tw1294290726091696373 : Nat := 0
def PySem.W.Fast.tw9119660562509446668 : Nat := 0
def PySem.W.Fast.tw17526379907562426754 : Nat := 0
def PySem.W.Fast.tw9674174847863851209 : Nat := 0
def PySem.W.Fast.tw5644337106141985015 : Nat := 0
def PySem.W.Fast.tw15957437333496484825 : Nat := 0
def PySem.W.Fast.tw1439097318108687766 : Nat := 0
def PySem.W.Fast.tw5727795455035185164 : Nat := 0
def PySem.W.Fast.tw17343370274930886584 : Nat := 0
def PySem.W.Fast.tw8646222569888485457 : Nat := 0
def PySem.W.Fast.tw16101613508374800187 : Nat := 0
def PySem.W.Fast.tw9544085533381539686 : Nat := 0
def PySem.W.Fast.tw10987509721296728560 : Nat := 0
def PySem.W.Fast.tw8849876922548524970 : Nat := 0
def PySem.W.Fast.tw10493616205161528097 : Nat := 0
def PySem.W.Fast.tw11410790230623135617 : Nat := 0
def PySem.W.Fast.tw4088021427846196039 : Nat := 0
def PySem.W.Fast.tw13072255873284345917 : Nat := 0
def PySem.W.Fast.tw1710368954651730972 : Nat := 0
def PySem.W.Fast.tw3185174668657966842 : Nat := 0
def PySem.W.Fast.tw15978155188458797486 : Nat := 0
def PySem.W.Fast.tw3466898779294656065 : Nat := 0
def PySem.W.Fast.tw2898684741076432562 : Nat := 0
def PySem.W.Fast.tw3131067306241011996 : Nat := 0
def PySem.W.Fast.tw13784153203288278633 : Nat := 0
def PySem.W.Fast.tw13878065049355434600 : Nat := 0
def PySem.W.Fast.tw12477366370189120302 : Nat := 0
def PySem.W.Fast.tw15620826864669418335 : Nat := 0
def PySem.W.Fast.tw3834911990719006923 : Nat := 0
def PySem.W.Fast.tw14019165132010634298 : Nat := 0
def PySem.W.Fast.tw13235588546780142198 : Nat := 0
def PySem.W.Fast.tw17707210012097498877 : Nat := 0
def PySem.W.Fast.tw13962105436007016953 : Nat := 0
def PySem.W.Fast.tw2304425281253138030 : Nat := 0
def PySem.W.Fast.tw8966946046414459016 : Nat := 0
def PySem.W.Fast.tw11029787431162944153 : Nat := 0
def PySem.W.Fast.tw12739218638345183420 : Nat := 0
def PySem.W.Fast.tw13379243388701439655 : Nat := 0
def PySem.W.Fast.tw10378332855877489844 : Nat := 0
def PySem.W.Fast.tw13499487925335650957 : Nat := 0
def PySem.W.Fast.tw14176250129659067075 : Nat := 0
def PySem.W.Fast.tw10309869511002612875 : Nat := 0
def PySem.W.Fast.tw14796841933046598946 : Nat := 0
def PySem.W.Fast.tw8330616089053395734 : Nat := 0
def PySem.W.Fast.tw12507721826988957080 : Nat := 0
def PySem.W.Fast.tw10162508656948279871 : Nat := 0
def PySem.W.Fast.tw4491654013435563523 : Nat := 0
def PySem.W.Fast.tw10897547293863960018 : Nat := 0
def PySem.W.Fast.tw11906650260529219315 : Nat := 0
def PySem.W.Fast.tw4248133764372026807 : Nat := 0
def PySem.W.Fast.tw1123135988043377295 : Nat := 0
def PySem.W.Fast.tw9258200102539381283 : Nat := 0
def PySem.W.Fast.tw2375993753664660843 : Nat := 0
def PySem.W.Fast.tw12253739688647358575 : Nat := 0
def PySem.W.Fast.tw16807409099989708369 : Nat := 0
def PySem.W.Fast.tw10573435472657917989 : Nat := 0
def PySem.W.Fast.tw5268856473559107942 : Nat := 0
def PySem.W.Fast.tw3632038541423047108 : Nat := 0
def PySem.W.Fast.tw5832955502317599898 : Nat := 0
def PySem.W.Fast.tw5665526547838126295 : Nat := 0
def PySem.W.Fast.tw18282336852612404035 : Nat := 0
def PySem.W.Fast.tw15473684479819295285 : Nat := 0
def PySem.W.Fast.tw9546811859471953878 : Nat := 0
def PySem.W.Fast.tw7160853920284564182 : Nat := 0
def PySem.W.Fast.tw4376385346916689919 : Nat := 0
def PySem.W.Fast.tw17709371808141778706 : Nat := 0
def PySem.W.Fast.tw9177781573663716680 : Nat := 0
def PySem.W.Fast.tw3104321555397686710 : Nat := 0
def PySem.W.Fast.tw10006459972522889631 : Nat := 0
def PySem.W.Fast.tw7675067214130273925 : Nat := 0
def PySem.W.Fast.tw7330080186919421055 : Nat := 0
def PySem.W.Fast.tw11863279785275259157 : Nat := 0
def PySem.W.Fast.tw5809053015270560305 : Nat := 0
def PySem.W.Fast.tw423219267634720152 : Nat := 0
def PySem.W.Fast.tw9022899289483244970 : Nat := 0
def PySem.W.Fast.tw6902265283786767166 : Nat := 0
def PySem.W.Fast.tw14838994979043995778 : Nat := 0
def PySem.W.Fast.tw6360401157275070165 : Nat := 0
def PySem.W.Fast.tw5546748575270365999 : Nat := 0
def PySem.W.Fast.tw13583212054732056648 : Nat := 0
def PySem.W.Fast.tw11621817582892892905 : Nat := 0
def PySem.W.Fast.tw1021017544252153055 : Nat := 0
def PySem.W.Fast.tw10822202412757834756 : Nat := 0
def PySem.W.Fast.tw14613561300864496147 : Nat := 0
def PySem.W.Fast.tw14945188525610269194 : Nat := 0
def PySem.W.Fast.tw2750272854671967850 : Nat := 0
def PySem.W.Fast.tw13345520817442408824 : Nat := 0
def PySem.W.Fast.tw3344797940583111658 : Nat := 0
def PySem.W.Fast.tw4064503090301232631 : Nat := 0
def PySem.W.Fast.tw3553496898025357223 : Nat := 0
def PySem.W.Fast.tw3273214630024556006 : Nat := 0
def PySem.W.Fast.tw13109214172340451572 : Nat := 0
def PySem.W.Fast.tw7476603367659874002 : Nat := 0
def PySem.W.Fast.tw1939450128443657091 : Nat := 0
def PySem.W.Fast.tw14506097043809028057 : Nat := 0
def PySem.W.Fast.tw15214493551589779551 : Nat := 0
def PySem.W.Fast.tw18376020578082660232 : Nat := 0
def PySem.W.Fast.tw14136362784763410636 : Nat := 0
def PySem.W.Fast.tw1014054695336759313 : Nat := 0
def PySem.W.Fast.tw14536310640594126263 : Nat := 0
def PySem.W.Fast.tw1761646663921913321 : Nat := 0
def PySem.W.Fast.tw6204765914550116060 : Nat := 0
def PySem.W.Fast.tw4282356946162127337 : Nat := 0
def PySem.W.Fast.tw8928382509498189301 : Nat := 0
def PySem.W.Fast.tw16794990321789459332 : Nat := 0
def PySem.W.Fast.tw12358701650590857441 : Nat := 0
def PySem.W.Fast.tw686069218712058188 : Nat := 0
def PySem.W.Fast.tw17706467251622030581 : Nat := 0
def PySem.W.Fast.tw11400205239526910368 : Nat := 0
def PySem.W.Fast.tw10167293328747833587 : Nat := 0
def PySem.W.Fast.tw5092873402619629279 : Nat := 0
def PySem.W.Fast.tw2974469628092251835 : Nat := 0
def PySem.W.Fast.tw11190851203293753136 : Nat := 0
def PySem.W.Fast.tw17556773150697371402 : Nat := 0
def PySem.W.Fast.tw16074444547405971636 : Nat := 0
def PySem.W.Fast.tw4070274187448208274 : Nat := 0
def PySem.W.Fast.tw10917608992030266122 : Nat := 0
def PySem.W.Fast.tw3156019341089866314 : Nat := 0
def PySem.W.Fast.tw8206078820268093555 : Nat := 0
def PySem.W.Fast.tw16748117249041789895 : Nat := 0
def PySem.W.Fast.tw17106783180443421853 : Nat := 0
def PySem.W.Fast.tw9377480936836108496 : Nat := 0
def PySem.W.Fast.tw17916267296404310924 : Nat := 0
def PySem.W.Fast.tw3903014420725385073 : Nat := 0
def PySem.W.Fast.tw62094089616795355 : Nat := 0
def PySem.W.Fast.tw2467835784467268596 : Nat := 0
def PySem.W.Fast.tw11006554465947252393 : Nat := 0
def PySem.W.Fast.tw13765781786590924045 : Nat := 0
def PySem.W.Fast.tw12724654749327441845 : Nat := 0
def PySem.W.Fast.tw17073901589767497307 : Nat := 0
def PySem.W.Fast.tw2247826011742648223 : Nat := 0
def PySem.W.Fast.tw16465543677666252191 : Nat := 0
def PySem.W.Fast.tw6797808876753890022 : Nat := 0
def PySem.W.Fast.tw12506677039625472502 : Nat := 0
def PySem.W.Fast.tw5345628572862688030 : Nat := 0
def PySem.W.Fast.tw8812912004273992254 : Nat := 0
def PySem.W.Fast.tw14650190324852884982 : Nat := 0
def PySem.W.Fast.tw4935375183188389479 : Nat := 0
def PySem.W.Fast.tw2263884313373178888 : Nat := 0
def PySem.W.Fast.tw14129281155462715801 : Nat := 0
def PySem.W.Fast.tw13235734572902919132 : Nat := 0
def PySem.W.Fast.tw6542711394982250303 : Nat := 0
def PySem.W.Fast.tw14198854056151635980 : Nat := 0
def PySem.W.Fast.tw7399691401253778507 : Nat := 0
def PySem.W.Fast.tw3762658415340306165 : Nat := 0
def PySem.W.Fast.tw9944604918292949998 : Nat := 0
def PySem.W.Fast.tw14766472093284908945 : Nat := 0
def PySem.W.Fast.tw155105994280568561 : Nat := 0
def PySem.W.Fast.tw4336421630940564887 : Nat := 0
def PySem.W.Fast.tw9014278237980013518 : Nat := 0
def PySem.W.Fast.tw6843169702471023435 : Nat := 0
def PySem.W.Fast.tw17652877039075108704 : Nat := 0
def PySem.W.Fast.tw895743739923022898 : Nat := 0
def PySem.W.Fast.tw7473798060313913758 : Nat := 0
def PySem.W.Fast.tw6386040981782286207 : Nat := 0
def PySem.W.Fast.tw11035563417406808789 : Nat := 0
def PySem.W.Fast.tw7010577921348115281 : Nat := 0
def PySem.W.Fast.tw5757033273182108707 : Nat := 0
def PySem.W.Fast.tw1696282352990472249 : Nat := 0
def PySem.W.Fast.tw7250355876430259275 : Nat := 0
def PySem.W.Fast.tw15849550577898997851 : Nat := 0
def PySem.W.Fast.tw12448203794305043940 : Nat := 0
def PySem.W.Fast.tw10481643157028228503 : Nat := 0
def PySem.W.Fast.tw7639768720671902660 : Nat := 0
def PySem.W.Fast.tw15779194040923850279 : Nat := 0
def PySem.W.Fast.tw12692950874195082506 : Nat := 0
def PySem.W.Fast.tw10340861897957111290 : Nat := 0
def PySem.W.Fast.tw7614761532458886096 : Nat := 0
def PySem.W.Fast.tw7472522172174417483 : Nat := 0
def PySem.W.Fast.tw13536890587887819299 : Nat := 0
def PySem.W.Fast.tw4604064260901600820 : Nat := 0
def PySem.W.Fast.tw16203693690287043506 : Nat := 0
def PySem.W.Fast.tw3952616014340663302 : Nat := 0
def PySem.W.Fast.tw2156503451655390915 : Nat := 0
def PySem.W.Fast.tw8601969598487838027 : Nat := 0
def PySem.W.Fast.tw4174729510941075498 : Nat := 0
def PySem.W.Fast.tw16390066381247707161 : Nat := 0
def PySem.W.Fast.tw16571639067490411493 : Nat := 0
def PySem.W.Fast.tw15536248273452962920 : Nat := 0
def PySem.W.Fast.tw3785249964893224297 : Nat := 0
def PySem.W.Fast.tw10062726039488639114 : Nat := 0
def PySem.W.Fast.tw15751048659370505929 : Nat := 0
def PySem.W.Fast.tw15053654065472432697 : Nat := 0
def PySem.W.Fast.tw405146809718156310 : Nat := 0
def PySem.W.Fast.tw13547847423285227491 : Nat := 0
def PySem.W.Fast.tw5274130557184090648 : Nat := 0
def PySem.W.Fast.tw4635139568987227752 : Nat := 0
def PySem.W.Fast.tw13032437111337198539 : Nat := 0
def PySem.W.Fast.tw13933102702750992824 : Nat := 0
def PySem.W.Fast.tw17445707558132436027 : Nat := 0
def PySem.W.Fast.tw17718856384863957990 : Nat := 0
def PySem.W.Fast.tw4313267039163464736 : Nat := 0
def PySem.W.Fast.tw5276443044774719970 : Nat := 0
def PySem.W.Fast.tw7581191438251391800 : Nat := 0
def PySem.W.Fast.tw14699782042360691044 : Nat := 0
def PySem.W.Fast.tw16557124930724764936 : Nat := 0
def PySem.W.Fast.tw943631052881924250 : Nat := 0
def PySem.W.Fast.tw13791578865940689110 : Nat := 0
def PySem.W.Fast.tw3851555083284823466 : Nat := 0
def PySem.W.Fast.tw1141583366095560169 : Nat := 0
def PySem.W.Fast.tw2976337032394656698 : Nat := 0
def PySem.W.Fast.tw18094425904445099054 : Nat := 0
def PySem.W.Fast.tw1719034333446100718 : Nat := 0
def PySem.W.Fast.tw7252147826129081794 : Nat := 0
def PySem.W.Fast.tw15639139499554140642 : Nat := 0
def PySem.W.Fast.tw1839949909238736408 : Nat := 0
def PySem.W.Fast.tw6652102537961804812 : Nat := 0
def PySem.W.Fast.tw6777231449789745186 : Nat := 0
def PySem.W.Fast.tw4613113260005320693 : Nat := 0
def PySem.W.Fast.tw16172346065260749802 : Nat := 0
def PySem.W.Fast.tw11953338064227216034 : Nat := 0
def PySem.W.Fast.tw15413569531125789340 : Nat := 0
def PySem.W.Fast.tw15147975029375482620 : Nat := 0
def PySem.W.Fast.tw4686341049296125833 : Nat := 0
def PySem.W.Fast.tw7165896056573905435 : Nat := 0
def PySem.W.Fast.tw9744831537850073455 : Nat := 0
def PySem.W.Fast.tw16346265076919388648 : Nat := 0
def PySem.W.Fast.tw4582457996350517 : Nat := 0
def PySem.W.Fast.tw15782874881512307456 : Nat := 0
def PySem.W.Fast.tw16385418866944378089 : Nat := 0
def PySem.W.Fast.tw8269002414257344176 : Nat := 0
def PySem.W.Fast.tw6695618971362467462 : Nat := 0
def PySem.W.Fast.tw11843776463598411820 : Nat := 0
def PySem.W.Fast.tw9735433243501249898 : Nat := 0
def PySem.W.Fast.tw10421208542298857419 : Nat := 0
def PySem.W.Fast.tw5507062762912713737 : Nat := 0
def PySem.W.Fast.tw15618094455659215833 : Nat := 0
def PySem.W.Fast.tw14564274982658266370 : Nat := 0
def PySem.W.Fast.tw14822489572957689291 : Nat := 0
def PySem.W.Fast.tw9214024184303370398 : Nat := 0
def PySem.W.Fast.tw10679072294679206743 : Nat := 0
def PySem.W.Fast.tw343683226730563854 : Nat := 0
def PySem.W.Fast.tw13619156360502398913 : Nat := 0
def PySem.W.Fast.tw3906050208836299113 : Nat := 0
def PySem.W.Fast.tw6670646354205324512 : Nat := 0
def PySem.W.Fast.tw10425863102594699026 : Nat := 0
def PySem.W.Fast.tw2945159970138015270 : Nat := 0
def PySem.W.Fast.tw15104926158443382763 : Nat := 0
def PySem.W.Fast.tw11002489651193599658 : Nat := 0
def PySem.W.Fast.tw7527599498883381838 : Nat := 0
def PySem.W.Fast.tw3561998680789421233 : Nat := 0
def PySem.W.Fast.tw15642664337399515064 : Nat := 0
def PySem.W.Fast.tw353143196974928638 : Nat := 0
def PySem.W.Fast.tw12160888402493444640 : Nat := 0
def PySem.W.Fast.tw17392295931596849512 : Nat := 0
def PySem.W.Fast.tw1927296784978862708 : Nat := 0
def PySem.W.Fast.tw18222349535165146375 : Nat := 0
def PySem.W.Fast.tw8805177400996976830 : Nat := 0
def PySem.W.Fast.tw13368282152319912815 : Nat := 0
def PySem.W.Fast.tw8866895869304624648 : Nat := 0
def PySem.W.Fast.tw7348395112431061447 : Nat := 0
def PySem.W.Fast.tw9490855622852402379 : Nat := 0
def PySem.W.Fast.tw17043138791240222008 : Nat := 0
def PySem.W.Fast.tw383507122258423752 : Nat := 0
def PySem.W.Fast.tw9351090086821892230 : Nat := 0
def PySem.W.Fast.tw16891238186354134427 : Nat := 0
def PySem.W.Fast.tw3464941891828544473 : Nat := 0
def PySem.W.Fast.tw8057133720364475017 : Nat := 0
def PySem.W.Fast.tw18386422917328735470 : Nat := 0
def PySem.W.Fast.tw10551801936344075507 : Nat := 0
def PySem.W.Fast.tw2176220792775419056 : Nat := 0
def PySem.W.Fast.tw17894270464099049967 : Nat := 0
def PySem.W.Fast.tw15288984615442824041 : Nat := 0
def PySem.W.Fast.tw2141687664830886696 : Nat := 0
def PySem.W.Fast.tw1994523722699537078 : Nat := 0
def PySem.W.Fast.tw16973140987973059876 : Nat := 0
def PySem.W.Fast.tw5695937225956467288 : Nat := 0
def PySem.W.Fast.tw2850673251268119893 : Nat := 0
def PySem.W.Fast.tw4268127781446590099 : Nat := 0
def PySem.W.Fast.tw14084072796057996815 : Nat := 0
def PySem.W.Fast.tw11572251375464385475 : Nat := 0
def PySem.W.Fast.tw3803369416078404752 : Nat := 0
def PySem.W.Fast.tw12403775306260526277 : Nat := 0
def PySem.W.Fast.tw11281092905471777519 : Nat := 0
def PySem.W.Fast.tw12551815737911192754 : Nat := 0
def PySem.W.Fast.tw14354058383318711739 : Nat := 0
def PySem.W.Fast.tw12194057028269501936 : Nat := 0
def PySem.W.Fast.tw13736130310092279701 : Nat := 0
def PySem.W.Fast.tw2898242512465299603 : Nat := 0
def PySem.W.Fast.tw14608487852589738752 : Nat := 0
def PySem.W.Fast.tw8948722424722197424 : Nat := 0
def PySem.W.Fast.tw3700711846570036148 : Nat := 0
def PySem.W.Fast.tw9118995257403725309 : Nat := 0
def PySem.W.Fast.tw17516172648420310426 : Nat := 0
def PySem.W.Fast.tw9965353508737187439 : Nat := 0
def PySem.W.Fast.tw10657784908236859981 : Nat := 0
def PySem.W.Fast.tw1641970378556866363 : Nat := 0
def PySem.W.Fast.tw7374708688170886199 : Nat := 0
def PySem.W.Fast.tw15627642832642617315 : Nat := 0
def PySem.W.Fast.tw18364077538064872872 : Nat := 0
def PySem.W.Fast.tw3266308488480315385 : Nat := 0
def PySem.W.Fast.tw12843665629514592457 : Nat := 0
def PySem.W.Fast.tw11674579630665224388 : Nat := 0
def PySem.W.Fast.tw15293038383919851411 : Nat := 0
def PySem.W.Fast.tw11674467432169691818 : Nat := 0
def PySem.W.Fast.tw7276756068065866199 : Nat := 0
def PySem.W.Fast.tw161500246491498546 : Nat := 0
def PySem.W.Fast.tw11141258686089467606 : Nat := 0
def PySem.W.Fast.tw16771385933555281658 : Nat := 0
def PySem.W.Fast.tw18109356391904729022 : Nat := 0
def PySem.W.Fast.tw9699119575245793277 : Nat := 0
def PySem.W.Fast.tw3824478423793079152 : Nat := 0
def PySem.W.Fast.tw7521945443300630072 : Nat := 0
def PySem.W.Fast.tw10163164810786290478 : Nat := 0
def PySem.W.Fast.tw8667544682080554345 : Nat := 0
def PySem.W.Fast.tw14131681983452374851 : Nat := 0
def PySem.W.Fast.tw7066190559303948776 : Nat := 0
def PySem.W.Fast.tw17672558028366575620 : Nat := 0
def PySem.W.Fast.tw15251000375951657267 : Nat := 0
def PySem.W.Fast.tw17664949313560393173 : Nat := 0
def PySem.W.Fast.tw208941219019825282 : Nat := 0
def PySem.W.Fast.tw15548073827594792946 : Nat := 0
def PySem.W.Fast.tw17453461213325988563 : Nat := 0
def PySem.W.Fast.tw9166952175279318586 : Nat := 0
def PySem.W.Fast.tw5824058001655730569 : Nat := 0
def PySem.W.Fast.tw5518912190066478540 : Nat := 0
def PySem.W.Fast.tw8234004660356313961 : Nat := 0
def PySem.W.Fast.tw12777049911071688728 : Nat := 0
def PySem.W.Fast.tw16907856321410069364 : Nat := 0
def PySem.W.Fast.tw7457152776903610833 : Nat := 0
def PySem.W.Fast.tw3960684081713497626 : Nat := 0
def PySem.W.Fast.tw15576917008986565609 : Nat := 0
def PySem.W.Fast.tw6108258687981552198 : Nat := 0
def PySem.W.Fast.tw794447624326543593 : Nat := 0
def PySem.W.Fast.tw358899531259687704 : Nat := 0
def PySem.W.Fast.tw18415678172774802851 : Nat := 0
def PySem.W.Fast.tw7475327803035127805 : Nat := 0
def PySem.W.Fast.tw15119489702390281463 : Nat := 0
def PySem.W.Fast.tw13024730181866808864 : Nat := 0
def PySem.W.Fast.tw788681636252369463 : Nat := 0
def PySem.W.Fast.tw7445045984592953234 : Nat := 0
def PySem.W.Fast.tw165079270741695689 : Nat := 0
def PySem.W.Fast.tw17912423679589265857 : Nat := 0
def PySem.W.Fast.tw491934995147530893 : Nat := 0
def PySem.W.Fast.tw8797621435622056815 : Nat := 0
def PySem.W.Fast.tw6490314395625168711 : Nat := 0
def PySem.W.Fast.tw8569596605641266006 : Nat := 0
def PySem.W.Fast.tw8098669476367228180 : Nat := 0
def PySem.W.Fast.tw5070001221230277316 : Nat := 0
def PySem.W.Fast.tw13848554109810376138 : Nat := 0
def PySem.W.Fast.tw14688020336279391044 : Nat := 0
def PySem.W.Fast.tw3486878775444227736 : Nat := 0
def PySem.W.Fast.tw17228746914107981089 : Nat := 0
def PySem.W.Fast.tw2441407776797554976 : Nat := 0
def PySem.W.Fast.tw10928033001492100898 : Nat := 0
def PySem.W.Fast.tw3007550448228940160 : Nat := 0
def PySem.W.Fast.tw8215657259647587564 : Nat := 0
def PySem.W.Fast.tw6815699535252725839 : Nat := 0
def PySem.W.Fast.tw16161431903671452756 : Nat := 0
def PySem.W.Fast.tw13228499596323982704 : Nat := 0
def PySem.W.Fast.tw3835236499888470578 : Nat := 0
def PySem.W.Fast.tw17986395352444247439 : Nat := 0
def PySem.W.Fast.tw7622887473404878081 : Nat := 0
def PySem.W.Fast.tw8769879726559573043 : Nat := 0
def PySem.W.Fast.tw11430181391650167402 : Nat := 0
def PySem.W.Fast.tw18154149125219398960 : Nat := 0
def PySem.W.Fast.tw11114230209476488744 : Nat := 0
def PySem.W.Fast.tw16195483798363324950 : Nat := 0
def PySem.W.Fast.tw16051421912872960058 : Nat := 0
def PySem.W.Fast.tw9221577901481159041 : Nat := 0
def PySem.W.Fast.tw10665972332157792231 : Nat := 0
def PySem.W.Fast.tw3218836422955183522 : Nat := 0
def PySem.W.Fast.tw18419191011461619408 : Nat := 0
def PySem.W.Fast.tw2027948268014188260 : Nat := 0
def PySem.W.Fast.tw18364550685708698430 : Nat := 0
def PySem.W.Fast.tw10018347484611427029 : Nat := 0
def PySem.W.Fast.tw14965444423993786002 : Nat := 0
def PySem.W.Fast.tw6504107628952205755 : Nat := 0
def PySem.W.Fast.tw242370066244930842 : Nat := 0
def PySem.W.Fast.tw4555427491626057312 : Nat := 0
def PySem.W.Fast.tw11526172398737609438 : Nat := 0
def PySem.W.Fast.tw15609330548766928426 : Nat := 0
def PySem.W.Fast.tw16252851178943611907 : Nat := 0
def PySem.W.Fast.tw11044954234752905429 : Nat := 0
def PySem.W.Fast.tw7098363793416848503 : Nat := 0
def PySem.W.Fast.tw477638618015987483 : Nat := 0
def PySem.W.Fast.tw18349695921870632005 : Nat := 0
def PySem.W.Fast.tw17002090759273366573 : Nat := 0
def PySem.W.Fast.tw8773361896068935907 : Nat := 0
def PySem.W.Fast.tw1374441047663209364 : Nat := 0
def PySem.W.Fast.tw10750790811925017637 : Nat := 0
def PySem.W.Fast.tw18340933253107223508 : Nat := 0
def PySem.W.Fast.tw17133031540418335101 : Nat := 0
def PySem.W.Fast.tw8578558777857365305 : Nat := 0
def PySem.W.Fast.tw5037819262482278023 : Nat := 0
def PySem.W.Fast.tw13642801209910457496 : Nat := 0
def PySem.W.Fast.tw5777468554450499051 : Nat := 0
def PySem.W.Fast.tw12940049365726179691 : Nat := 0
def PySem.W.Fast.tw9222395750717327836 : Nat := 0
def PySem.W.Fast.tw9257970578012991930 : Nat := 0
def PySem.W.Fast.tw17295905379124053885 : Nat := 0
def PySem.W.Fast.tw8150369857802821647 : Nat := 0
def PySem.W.Fast.tw201979200044867367 : Nat := 0
def PySem.W.Fast.tw3857310144707310760 : Nat := 0
def PySem.W.Fast.tw14870238020004043106 : Nat := 0
def PySem.W.Fast.tw16459646691621130640 : Nat := 0
def PySem.W.Fast.tw14677502477707136830 : Nat := 0
def PySem.W.Fast.tw2902017968273674581 : Nat := 0
def PySem.W.Fast.tw8703036829341428152 : Nat := 0
def PySem.W.Fast.tw10450566420250755915 : Nat := 0
def PySem.W.Fast.tw8224957287037202970 : Nat := 0
def PySem.W.Fast.tw370972040079300624 : Nat := 0
def PySem.W.Fast.tw10860097797289588411 : Nat := 0
def PySem.W.Fast.tw17117176772165354704 : Nat := 0
def PySem.W.Fast.tw7239890361206599910 : Nat := 0
def PySem.W.Fast.tw4121120726088701647 : Nat := 0
def PySem.W.Fast.tw18056297449787121091 : Nat := 0
def PySem.W.Fast.tw6840450554808366066 : Nat := 0
def PySem.W.Fast.tw8171107315407593371 : Nat := 0
def PySem.W.Fast.tw14236074864044013699 : Nat := 0
def PySem.W.Fast.tw15699608857405709046 : Nat := 0
def PySem.W.Fast.tw15397304122873572795 : Nat := 0
def PySem.W.Fast.tw11842536791471230940 : Nat := 0
def PySem.W.Fast.tw11816187876133881489 : Nat := 0
def PySem.W.Fast.tw9991647236263531717 : Nat := 0
def PySem.W.Fast.tw1641651590458739161 : Nat := 0
def PySem.W.Fast.tw6032180917273801650 : Nat := 0
def PySem.W.Fast.tw14221184171774017512 : Nat := 0
def PySem.W.Fast.tw5010003768513599855 : Nat := 0
def PySem.W.Fast.tw8872443026296858121 : Nat := 0
def PySem.W.Fast.tw10027990325990348371 : Nat := 0
def PySem.W.Fast.tw6870874490732672610 : Nat := 0
def PySem.W.Fast.tw5843141972922517237 : Nat := 0
def PySem.W.Fast.tw14333125567292458320 : Nat := 0
def PySem.W.Fast.tw12520995740062817044 : Nat := 0
def PySem.W.Fast.tw12576318107042541669 : Nat := 0
def PySem.W.Fast.tw10579092597174227437 : Nat := 0
def PySem.W.Fast.tw1388363316430755575 : Nat := 0
def PySem.W.Fast.tw892378008438997287 : Nat := 0
def PySem.W.Fast.tw15461595120641201248 : Nat := 0
def PySem.W.Fast.tw15514277368708077749 : Nat := 0
def PySem.W.Fast.tw12069427204802371420 : Nat := 0
def PySem.W.Fast.tw7689962332161367888 : Nat := 0
def PySem.W.Fast.tw18385500354586130306 : Nat := 0
def PySem.W.Fast.tw2433371554409386665 : Nat := 0
def PySem.W.Fast.tw15470695649222256575 : Nat := 0
def PySem.W.Fast.tw2976544296860008182 : Nat := 0
def PySem.W.Fast.tw10879904386213021177 : Nat := 0
def PySem.W.Fast.tw2956498665829447602 : Nat := 0
def PySem.W.Fast.tw15052902301108526986 : Nat := 0
def PySem.W.Fast.tw6614109751332036238 : Nat := 0
def PySem.W.Fast.tw13857718354811132993 : Nat := 0
def PySem.W.Fast.tw16276922038110803818 : Nat := 0
def PySem.W.Fast.tw16077890635171298007 : Nat := 0
def PySem.W.Fast.tw257680203487427653 : Nat := 0
def PySem.W.Fast.tw2832334192226687064 : Nat := 0
def PySem.W.Fast.tw9847614099377295476 : Nat := 0
def PySem.W.Fast.tw15361963368481253144 : Nat := 0
def PySem.W.Fast.tw13348751843569019248 : Nat := 0
def PySem.W.Fast.tw15761419616639455857 : Nat := 0
def PySem.W.Fast.tw722567035460764946 : Nat := 0
def PySem.W.Fast.tw14805844914338502016 : Nat := 0
def PySem.W.Fast.tw17003355254637973976 : Nat := 0
def PySem.W.Fast.tw16821688364368008654 : Nat := 0
def PySem.W.Fast.tw13701493779646004451 : Nat := 0
def PySem.W.Fast.tw12711627350071959605 : Nat := 0
def PySem.W.Fast.tw9403363792362910712 : Nat := 0
def PySem.W.Fast.tw11819595672444454251 : Nat := 0
def PySem.W.Fast.tw5009406104932674614 : Nat := 0
def PySem.W.Fast.tw9454346399171648494 : Nat := 0
def PySem.W.Fast.tw13337264800415480599 : Nat := 0
def PySem.W.Fast.tw18276800485354611064 : Nat := 0
def PySem.W.Fast.tw4099321232553098397 : Nat := 0
def PySem.W.Fast.tw5717105677166050989 : Nat := 0
def PySem.W.Fast.tw8922815752071075757 : Nat := 0
def PySem.W.Fast.tw17896866633772514131 : Nat := 0
def PySem.W.Fast.tw12036720555556833765 : Nat := 0
def PySem.W.Fast.tw2756291814103966455 : Nat := 0
def PySem.W.Fast.tw7376779760652460418 : Nat := 0
def PySem.W.Fast.tw9385683535455586492 : Nat := 0
def PySem.W.Fast.tw11092503004933348429 : Nat := 0
def PySem.W.Fast.tw11547734649991563052 : Nat := 0
def PySem.W.Fast.tw10098227212019166972 : Nat := 0
def PySem.W.Fast.tw17152398212274164953 : Nat := 0
def PySem.W.Fast.tw14910274411125594202 : Nat := 0
def PySem.W.Fast.tw8457519344378171461 : Nat := 0
def PySem.W.Fast.tw17592496428332124672 : Nat := 0
def PySem.W.Fast.tw12851458345611543725 : Nat := 0
def PySem.W.Fast.tw17186625424969006172 : Nat := 0
def PySem.W.Fast.tw10866089057520768703 : Nat := 0
def PySem.W.Fast.tw5729943970505633060 : Nat := 0
def PySem.W.Fast.tw9265449477541649322 : Nat := 0
def PySem.W.Fast.tw4105060861977482892 : Nat := 0
def PySem.W.Fast.tw5291571099763638479 : Nat := 0
def PySem.W.Fast.tw7683998987172872525 : Nat := 0
def PySem.W.Fast.tw15356061735145747308 : Nat := 0
def PySem.W.Fast.tw7340062170268147170 : Nat := 0
def PySem.W.Fast.tw17131871759896878173 : Nat := 0
def PySem.W.Fast.tw16934542847090222779 : Nat := 0
def PySem.W.Fast.tw13622969199934104622 : Nat := 0
def PySem.W.Fast.tw12995247406875645688 : Nat := 0
def PySem.W.Fast.tw13814440472993474912 : Nat := 0
def PySem.W.Fast.tw3588815893724706355 : Nat := 0
def PySem.W.Fast.tw1191006087529505109 : Nat := 0
def PySem.W.Fast.tw1181893498269708076 : Nat := 0
def PySem.W.Fast.tw11817863638344662663 : Nat := 0
def PySem.W.Fast.tw11373426056297282343 : Nat := 0
def PySem.W.Fast.tw14905509338846516239 : Nat := 0
def PySem.W.Fast.tw9204292764855006375 : Nat := 0
def PySem.W.Fast.tw5386910484984006205 : Nat := 0
def PySem.W.Fast.tw917831505357897721 : Nat := 0
def PySem.W.Fast.tw18249473121300656304 : Nat := 0
def PySem.W.Fast.tw2543409089502736739 : Nat := 0
def PySem.W.Fast.tw940920980075002004 : Nat := 0
def PySem.W.Fast.tw8968225006227268026 : Nat := 0
def PySem.W.Fast.tw11733252563192815926 : Nat := 0
def PySem.W.Fast.tw7273462192587776666 : Nat := 0
def PySem.W.Fast.tw6132110416534185030 : Nat := 0
def PySem.W.Fast.tw12016195170926766192 : Nat := 0
def PySem.W.Fast.tw15835348757183782571 : Nat := 0
def PySem.W.Fast.tw15478184629121929714 : Nat := 0
def PySem.W.Fast.tw17215791220311095137 : Nat := 0
def PySem.W.Fast.tw9006054983285395052 : Nat := 0
def PySem.W.Fast.tw16276764641610805247 : Nat := 0
def PySem.W.Fast.tw5035535699433072352 : Nat := 0
def PySem.W.Fast.tw13980742071298329717 : Nat := 0
def PySem.W.Fast.tw3233419128485493120 : Nat := 0
def PySem.W.Fast.tw7942962028334655796 : Nat := 0
def PySem.W.Fast.tw16442967548705604368 : Nat := 0
def PySem.W.Fast.tw3910546158722023457 : Nat := 0
def PySem.W.Fast.tw8487307702044211490 : Nat := 0
def PySem.W.Fast.tw6159579529649714601 : Nat := 0
def PySem.W.Fast.tw16972726475075095939 : Nat := 0
def PySem.W.Fast.tw2144421979980983118 : Nat := 0
def PySem.W.Fast.tw14499301302740520402 : Nat := 0
def PySem.W.Fast.tw4229734638404743338 : Nat := 0
def PySem.W.Fast.tw11804403078777194140 : Nat := 0
def PySem.W.Fast.tw10368733498205443075 : Nat := 0
def PySem.W.Fast.tw11495648179424321621 : Nat := 0
def PySem.W.Fast.tw8630460241064034054 : Nat := 0
def PySem.W.Fast.tw1841889852004783917 : Nat := 0
def PySem.W.Fast.tw6588437363993919969 : Nat := 0
def PySem.W.Fast.tw2553070571548379404 : Nat := 0
def PySem.W.Fast.tw3357745281219433367 : Nat := 0
def PySem.W.Fast.tw12629592670684192436 : Nat := 0
def PySem.W.Fast.tw4598205546733011369 : Nat := 0
def PySem.W.Fast.tw17573161237681188711 : Nat := 0
def PySem.W.Fast.tw3992240235411255393 : Nat := 0
def PySem.W.Fast.tw8735282928329887856 : Nat := 0
def PySem.W.Fast.tw16057077801336151348 : Nat := 0
def PySem.W.Fast.tw13192789026959037191 : Nat := 0
def PySem.W.Fast.tw16867709439397607880 : Nat := 0
def PySem.W.Fast.tw2070896459437767890 : Nat := 0
def PySem.W.Fast.tw5463668249670459324 : Nat := 0
def PySem.W.Fast.tw10621981497429690424 : Nat := 0
def PySem.W.Fast.tw17528538776590704489 : Nat := 0
def PySem.W.Fast.tw14988790887998575308 : Nat := 0
def PySem.W.Fast.tw11496225890410908385 : Nat := 0
def PySem.W.Fast.tw12423465225619609484 : Nat := 0
def PySem.W.Fast.tw14417321449637122609 : Nat := 0
def PySem.W.Fast.tw8682979985838963075 : Nat := 0
def PySem.W.Fast.tw9702824276879926265 : Nat := 0
def PySem.W.Fast.tw3482224872996077514 : Nat := 0
def PySem.W.Fast.tw15814781689281591958 : Nat := 0
def PySem.W.Fast.tw5445682456720675399 : Nat := 0
def PySem.W.Fast.tw9338428247568289922 : Nat := 0
def PySem.W.Fast.tw1136166407552482964 : Nat := 0
def PySem.W.Fast.tw14468986234148708777 : Nat := 0
def PySem.W.Fast.tw8470138600000992101 : Nat := 0
def PySem.W.Fast.tw12308591918026490908 : Nat := 0
def PySem.W.Fast.tw12470329919484357434 : Nat := 0
def PySem.W.Fast.tw9091536941769075195 : Nat := 0
def PySem.W.Fast.tw15737248817761087959 : Nat := 0
def PySem.W.Fast.tw1692385916691572948 : Nat := 0
def PySem.W.Fast.tw11230716218406291643 : Nat := 0
def PySem.W.Fast.tw11636470308340356876 : Nat := 0
def PySem.W.Fast.tw5549546381457474410 : Nat := 0
def PySem.W.Fast.tw6341995942742436486 : Nat := 0
def PySem.W.Fast.tw18176020442427721727 : Nat := 0
def PySem.W.Fast.tw8706086055005454694 : Nat := 0
def PySem.W.Fast.tw10483200939274791350 : Nat := 0
def PySem.W.Fast.tw10248389993426315366 : Nat := 0
def PySem.W.Fast.tw14163395097648026867 : Nat := 0
def PySem.W.Fast.tw11296390175967482127 : Nat := 0
def PySem.W.Fast.tw18083978871826808164 : Nat := 0
def PySem.W.Fast.tw5900708396471681257 : Nat := 0
def PySem.W.Fast.tw8604778720355138431 : Nat := 0
def PySem.W.Fast.tw5989911313625995749 : Nat := 0
def PySem.W.Fast.tw4761918165886891264 : Nat := 0
def PySem.W.Fast.tw12759272498434925437 : Nat := 0
def PySem.W.Fast.tw86168864493985901 : Nat := 0
def PySem.W.Fast.tw16257011842299832681 : Nat := 0
def PySem.W.Fast.tw15659268909398291715 : Nat := 0
def PySem.W.Fast.tw16381690729288735261 : Nat := 0
def PySem.W.Fast.tw7300051248017724714 : Nat := 0
def PySem.W.Fast.tw9635576260639143851 : Nat := 0
def PySem.W.Fast.tw9885016196730537074 : Nat := 0
def PySem.W.Fast.tw8615900328573256884 : Nat := 0
def PySem.W.Fast.tw3265181086464636028 : Nat := 0
def PySem.W.Fast.tw17508778828272784578 : Nat := 0
def PySem.W.Fast.tw3067623404971296169 : Nat := 0
def PySem.W.Fast.tw16470639147535592514 : Nat := 0
def PySem.W.Fast.tw15856912914020642112 : Nat := 0
def PySem.W.Fast.tw9891857208590358198 : Nat := 0
def PySem.W.Fast.tw16839301484486241630 : Nat := 0
def PySem.W.Fast.tw12800636362156030128 : Nat := 0
def PySem.W.Fast.tw11775920446554036687 : Nat := 0
def PySem.W.Fast.tw15189875007679843920 : Nat := 0
def PySem.W.Fast.tw16407656200650739683 : Nat := 0
def PySem.W.Fast.tw12128771987243122694 : Nat := 0
def PySem.W.Fast.tw360310422661392617 : Nat := 0
def PySem.W.Fast.tw8856472945241843071 : Nat := 0
def PySem.W.Fast.tw12229966913952479596 : Nat := 0
def PySem.W.Fast.tw13745067633073946873 : Nat := 0
def PySem.W.Fast.tw2208778287058098196 : Nat := 0
def PySem.W.Fast.tw1090883807868707078 : Nat := 0
def PySem.W.Fast.tw5278008061438324591 : Nat := 0
def PySem.W.Fast.tw9730975299855106778 : Nat := 0
def PySem.W.Fast.tw11602703424099703960 : Nat := 0
def PySem.W.Fast.tw8047612935644009710 : Nat := 0
def PySem.W.Fast.tw8060513925432845099 : Nat := 0
def PySem.W.Fast.tw16947073905997238410 : Nat := 0
def PySem.W.Fast.tw18228549363566905044 : Nat := 0
def PySem.W.Fast.tw691436694014611669 : Nat := 0
def PySem.W.Fast.tw10099774325472076027 : Nat := 0
def PySem.W.Fast.tw9275942823140781556 : Nat := 0
def PySem.W.Fast.tw5497758156167047837 : Nat := 0
def PySem.W.Fast.tw8782909501568678022 : Nat := 0
def PySem.W.Fast.tw16014960857773549314 : Nat := 0
def PySem.W.Fast.tw5067131897137963769 : Nat := 0
def PySem.W.Fast.tw4906583055849486582 : Nat := 0
def PySem.W.Fast.tw5251430253022286664 : Nat := 0
def PySem.W.Fast.tw17542089303953145171 : Nat := 0
def PySem.W.Fast.tw4965953111530965597 : Nat := 0
def PySem.W.Fast.tw14816995328745499298 : Nat := 0
def PySem.W.Fast.tw5817688242594562679 : Nat := 0
def PySem.W.Fast.tw3219494017453334761 : Nat := 0
def PySem.W.Fast.tw15528969523553908684 : Nat := 0
def PySem.W.Fast.tw16423657280456914987 : Nat := 0
def PySem.W.Fast.tw10202855515026715641 : Nat := 0
def PySem.W.Fast.tw6194972605560000009 : Nat := 0
def PySem.W.Fast.tw15769908244717521034 : Nat := 0
def PySem.W.Fast.tw18331269107464459365 : Nat := 0
def PySem.W.Fast.tw3845873464751074847 : Nat := 0
def PySem.W.Fast.tw654898598965870387 : Nat := 0
def PySem.W.Fast.tw10054633974277789298 : Nat := 0
def PySem.W.Fast.tw11216086588256901129 : Nat := 0
def PySem.W.Fast.tw3090971045146844039 : Nat := 0
def PySem.W.Fast.tw4133751854842870931 : Nat := 0
def PySem.W.Fast.tw9750939372387612627 : Nat := 0
def PySem.W.Fast.tw4384745976075194529 : Nat := 0
def PySem.W.Fast.tw6854808171674553380 : Nat := 0
def PySem.W.Fast.tw4868117846165838896 : Nat := 0
def PySem.W.Fast.tw4458011567331911844 : Nat := 0
def PySem.W.Fast.tw828128373039932643 : Nat := 0
def PySem.W.Fast.tw10050581086821279428 : Nat := 0
def PySem.W.Fast.tw11608576977923869136 : Nat := 0
def PySem.W.Fast.tw11029649476883706124 : Nat := 0
def PySem.W.Fast.tw14684501657049508556 : Nat := 0
def PySem.W.Fast.tw855261911407505964 : Nat := 0
def PySem.W.Fast.tw11410722095835620325 : Nat := 0
def PySem.W.Fast.tw9939550904488813785 : Nat := 0
def PySem.W.Fast.tw6456164535175485307 : Nat := 0
def PySem.W.Fast.tw5124757881098235032 : Nat := 0
def PySem.W.Fast.tw3891514774483642765 : Nat := 0
def PySem.W.Fast.tw11169754496995066131 : Nat := 0
def PySem.W.Fast.tw9944036649152211398 : Nat := 0
def PySem.W.Fast.tw10462654046149335657 : Nat := 0
def PySem.W.Fast.tw12400176229810162782 : Nat := 0
def PySem.W.Fast.tw9407990355482744241 : Nat := 0
def PySem.W.Fast.tw10826149583997382088 : Nat := 0
def PySem.W.Fast.tw818664760535293850 : Nat := 0
def PySem.W.Fast.tw4333096530831386407 : Nat := 0
def PySem.W.Fast.tw6002375142386219165 : Nat := 0
def PySem.W.Fast.tw17151693098044225697 : Nat := 0
def PySem.W.Fast.tw16055839719827056775 : Nat := 0
def PySem.W.Fast.tw13348206760788279256 : Nat := 0
def PySem.W.Fast.tw14472388499285491662 : Nat := 0
def PySem.W.Fast.tw14526867801438496257 : Nat := 0
def PySem.W.Fast.tw11956231524359763780 : Nat := 0
def PySem.W.Fast.tw4402833383111172367 : Nat := 0
def PySem.W.Fast.tw18098282326139247278 : Nat := 0
def PySem.W.Fast.tw13183532678450280757 : Nat := 0
def PySem.W.Fast.tw9485325591009819273 : Nat := 0
def PySem.W.Fast.tw7989573737936847147 : Nat := 0
def PySem.W.Fast.tw15568998810885418183 : Nat := 0
def PySem.W.Fast.tw4748598742626134851 : Nat := 0
def PySem.W.Fast.tw7275889091433278138 : Nat := 0
def PySem.W.Fast.tw17019942610692059222 : Nat := 0
def PySem.W.Fast.tw17077072526059947704 : Nat := 0
def PySem.W.Fast.tw10631969062436599018 : Nat := 0
def PySem.W.Fast.tw9485361893573228049 : Nat := 0
def PySem.W.Fast.tw14277310422618849269 : Nat := 0
def PySem.W.Fast.tw9497275241397918011 : Nat := 0
def PySem.W.Fast.tw8254632463739720578 : Nat := 0
def PySem.W.Fast.tw12453883090506510004 : Nat := 0
def PySem.W.Fast.tw1549058005470806860 : Nat := 0
def PySem.W.Fast.tw1461993449660877488 : Nat := 0
def PySem.W.Fast.tw55942918034040646 : Nat := 0
def PySem.W.Fast.tw3916350014665453364 : Nat := 0
def PySem.W.Fast.tw4175223855307977768 : Nat := 0
def PySem.W.Fast.tw15760761573397430308 : Nat := 0
def PySem.W.Fast.tw15285368107356624866 : Nat := 0
def PySem.W.Fast.tw15562829596145673110 : Nat := 0
def PySem.W.Fast.tw14460476337344644904 : Nat := 0
def PySem.W.Fast.tw15024509125076814018 : Nat := 0
def PySem.W.Fast.tw18409222244168937671 : Nat := 0
def PySem.W.Fast.tw11194930469027971304 : Nat := 0
def PySem.W.Fast.tw13855850098148770923 : Nat := 0
def PySem.W.Fast.tw3247980116785310486 : Nat := 0
def PySem.W.Fast.tw12230680876780897677 : Nat := 0
def PySem.W.Fast.tw6656682665682430436 : Nat := 0
def PySem.W.Fast.tw8542205116541186952 : Nat := 0
def PySem.W.Fast.tw1864863535128918513 : Nat := 0
def PySem.W.Fast.tw13439304534103574567 : Nat := 0
def PySem.W.Fast.tw14788053453443710772 : Nat := 0
def PySem.W.Fast.tw680047701794381237 : Nat := 0
def PySem.W.Fast.tw15201893167599276680 : Nat := 0
def PySem.W.Fast.tw8953890755991833459 : Nat := 0
def PySem.W.Fast.tw7940264848250991091 : Nat := 0
def PySem.W.Fast.tw2109231635922293935 : Nat := 0
def PySem.W.Fast.tw14707424157283057050 : Nat := 0
def PySem.W.Fast.tw17015728288886774932 : Nat := 0
def PySem.W.Fast.tw14990830683807667161 : Nat := 0
def PySem.W.Fast.tw77335978553196474 : Nat := 0
def PySem.W.Fast.tw17713316313496845140 : Nat := 0
def PySem.W.Fast.tw6331241908512596794 : Nat := 0
def PySem.W.Fast.tw8827286082131048289 : Nat := 0
def PySem.W.Fast.tw16982048480427811638 : Nat := 0
def PySem.W.Fast.tw12342822017719975984 : Nat := 0
def PySem.W.Fast.tw3213902955688630692 : Nat := 0
def PySem.W.Fast.tw9813866280250820960 : Nat := 0
def PySem.W.Fast.tw9152873939480426298 : Nat := 0
def PySem.W.Fast.tw5352980374961224802 : Nat := 0
def PySem.W.Fast.tw5973073126847082509 : Nat := 0
def PySem.W.Fast.tw4557665236055169978 : Nat := 0
def PySem.W.Fast.tw4933687672633259683 : Nat := 0
def PySem.W.Fast.tw14688081351405186317 : Nat := 0
def PySem.W.Fast.tw16845925508127763616 : Nat := 0
def PySem.W.Fast.tw14242508992634757076 : Nat := 0
def PySem.W.Fast.tw12905031818556237795 : Nat := 0
def PySem.W.Fast.tw4837044144886153056 : Nat := 0
def PySem.W.Fast.tw11031756437687431917 : Nat := 0
def PySem.W.Fast.tw14601509374677674919 : Nat := 0
def PySem.W.Fast.tw11505434608651688268 : Nat := 0
def PySem.W.Fast.tw214612660466019135 : Nat := 0
def PySem.W.Fast.tw7276497710765737168 : Nat := 0
def PySem.W.Fast.tw16870949177285120629 : Nat := 0
def PySem.W.Fast.tw3395302513074484846 : Nat := 0
def PySem.W.Fast.tw17973459080127060257 : Nat := 0
def PySem.W.Fast.tw4904384055841159103 : Nat := 0
def PySem.W.Fast.tw13605215329307562140 : Nat := 0
def PySem.W.Fast.tw13672200859973888022 : Nat := 0
def PySem.W.Fast.tw6445222060642032209 : Nat := 0
def PySem.W.Fast.tw16221434956557055319 : Nat := 0
def PySem.W.Fast.tw4045024175621013946 : Nat := 0
def PySem.W.Fast.tw870177876111866104 : Nat := 0
def PySem.W.Fast.tw15195187501745083294 : Nat := 0
def PySem.W.Fast.tw16564193904857576316 : Nat := 0
def PySem.W.Fast.tw14493611106359974870 : Nat := 0
def PySem.W.Fast.tw12078844506447700102 : Nat := 0
def PySem.W.Fast.tw7236577007092993559 : Nat := 0
def PySem.W.Fast.tw8493530197706792131 : Nat := 0
def PySem.W.Fast.tw2203455348045672464 : Nat := 0
def PySem.W.Fast.tw10494536042101936505 : Nat := 0
def PySem.W.Fast.tw14707582967661825294 : Nat := 0
def PySem.W.Fast.tw11807462826347173956 : Nat := 0
def PySem.W.Fast.tw12101930731213553261 : Nat := 0
def PySem.W.Fast.tw13902879179904310662 : Nat := 0
def PySem.W.Fast.tw8771150008537950951 : Nat := 0
def PySem.W.Fast.tw15801704210418531005 : Nat := 0
def PySem.W.Fast.tw14249105234331090966 : Nat := 0
def PySem.W.Fast.tw14373390649914706069 : Nat := 0
def PySem.W.Fast.tw17585991104062698815 : Nat := 0
def PySem.W.Fast.tw5499582803871740349 : Nat := 0
def PySem.W.Fast.tw13307834083511130941 : Nat := 0
def PySem.W.Fast.tw3113994570082398464 : Nat := 0
def PySem.W.Fast.tw5954104789232342383 : Nat := 0
def PySem.W.Fast.tw16533423296241103329 : Nat := 0
def PySem.W.Fast.tw8007916780902717041 : Nat := 0
def PySem.W.Fast.tw10988390787695173425 : Nat := 0
def PySem.W.Fast.tw6231420115671895276 : Nat := 0
def PySem.W.Fast.tw1075819354256520153 : Nat := 0
def PySem.W.Fast.tw8763550223265092373 : Nat := 0
def PySem.W.Fast.tw3286115234763786287 : Nat := 0
def PySem.W.Fast.tw15679900562277420609 : Nat := 0
def PySem.W.Fast.tw14203806714695170055 : Nat := 0
def PySem.W.Fast.tw12377294101901550027 : Nat := 0
def PySem.W.Fast.tw18258505952190889142 : Nat := 0
def PySem.W.Fast.tw6730704556137484416 : Nat := 0
def PySem.W.Fast.tw4865076907303407019 : Nat := 0
def PySem.W.Fast.tw4351996566652042271 : Nat := 0
def PySem.W.Fast.tw4359069993257537190 : Nat := 0
def PySem.W.Fast.tw4428013792166924486 : Nat := 0
def PySem.W.Fast.tw1351096060624382297 : Nat := 0
def PySem.W.Fast.tw7249144410118388287 : Nat := 0
def PySem.W.Fast.tw13550076595439360384 : Nat := 0
def PySem.W.Fast.tw10541022764371307827 : Nat := 0
def PySem.W.Fast.tw7287255021954547966 : Nat := 0
def PySem.W.Fast.tw6954168232882475669 : Nat := 0
def PySem.W.Fast.tw5699254590633803392 : Nat := 0
def PySem.W.Fast.tw16720470365254255714 : Nat := 0
def PySem.W.Fast.tw4365759185324395183 : Nat := 0
def PySem.W.Fast.tw5340275137268631566 : Nat := 0
def PySem.W.Fast.tw849222048131775999 : Nat := 0
def PySem.W.Fast.tw13740067613420633643 : Nat := 0
def PySem.W.Fast.tw17829147721248521108 : Nat := 0
def PySem.W.Fast.tw11065688665295468005 : Nat := 0
def PySem.W.Fast.tw5371786923318682385 : Nat := 0
def PySem.W.Fast.tw5008404090049056881 : Nat := 0
def PySem.W.Fast.tw14160391620293648396 : Nat := 0
def PySem.W.Fast.tw9504029569453270961 : Nat := 0
def PySem.W.Fast.tw11516513789018632350 : Nat := 0
def PySem.W.Fast.tw5201377205366568154 : Nat := 0
def PySem.W.Fast.tw13515896645685692691 : Nat := 0
def PySem.W.Fast.tw11104548134327414816 : Nat := 0
def PySem.W.Fast.tw2742836213480930115 : Nat := 0
def PySem.W.Fast.tw9132415533099389148 : Nat := 0
def PySem.W.Fast.tw15401398508650876547 : Nat := 0
def PySem.W.Fast.tw10599542081277760546 : Nat := 0
def PySem.W.Fast.tw11288352628421484319 : Nat := 0
def PySem.W.Fast.tw6201832894032055636 : Nat := 0
def PySem.W.Fast.tw18087770360691277933 : Nat := 0
def PySem.W.Fast.tw13398784091490983842 : Nat := 0
def PySem.W.Fast.tw419012880774423439 : Nat := 0
def PySem.W.Fast.tw1462750172975898014 : Nat := 0
def PySem.W.Fast.tw7840425723623512880 : Nat := 0
def PySem.W.Fast.tw12266734694336091585 : Nat := 0
def PySem.W.Fast.tw12966895152288076502 : Nat := 0
def PySem.W.Fast.tw15109376337726042744 : Nat := 0
def PySem.W.Fast.tw2266094964824354190 : Nat := 0
def PySem.W.Fast.tw11475202980717744549 : Nat := 0
def PySem.W.Fast.tw14705708250726090358 : Nat := 0
def PySem.W.Fast.tw10082890237845423696 : Nat := 0
def PySem.W.Fast.tw14148384145461296527 : Nat := 0
def PySem.W.Fast.tw9207043777895980878 : Nat := 0
def PySem.W.Fast.tw4282881595461166820 : Nat := 0
def PySem.W.Fast.tw15373153023886525035 : Nat := 0
def PySem.W.Fast.tw10814378068635381381 : Nat := 0
def PySem.W.Fast.tw4686669469725306983 : Nat := 0
def PySem.W.Fast.tw18406850991029328075 : Nat := 0
def PySem.W.Fast.tw15257900030734363642 : Nat := 0
def PySem.W.Fast.tw7134940523090336968 : Nat := 0
def PySem.W.Fast.tw3565705134592178712 : Nat := 0
def PySem.W.Fast.tw11302297638822584641 : Nat := 0
def PySem.W.Fast.tw146484165275234397 : Nat := 0
def PySem.W.Fast.tw11848597394844009043 : Nat := 0
def PySem.W.Fast.tw17886502401741552051 : Nat := 0
def PySem.W.Fast.tw16815511582519523702 : Nat := 0
def PySem.W.Fast.tw9634564024496175457 : Nat := 0
def PySem.W.Fast.tw12351904761582581513 : Nat := 0
def PySem.W.Fast.tw2399863396612304333 : Nat := 0
def PySem.W.Fast.tw3671261987160999966 : Nat := 0
def PySem.W.Fast.tw10578967564757587302 : Nat := 0
def PySem.W.Fast.tw14008680550700304309 : Nat := 0
def PySem.W.Fast.tw11442958920533724700 : Nat := 0
def PySem.W.Fast.tw3513763219066600311 : Nat := 0
def PySem.W.Fast.tw6015289172131049282 : Nat := 0
def PySem.W.Fast.tw16522114742028501416 : Nat := 0
def PySem.W.Fast.tw8403185366817425382 : Nat := 0
def PySem.W.Fast.tw584069343756988442 : Nat := 0
def PySem.W.Fast.tw11014786806918569749 : Nat := 0
def PySem.W.Fast.tw11946401180249984438 : Nat := 0
def PySem.W.Fast.tw16131236348404579015 : Nat := 0
def PySem.W.Fast.tw7358110566092469159 : Nat := 0
def PySem.W.Fast.tw8422997486071503330 : Nat := 0
def PySem.W.Fast.tw16452366447843322041 : Nat := 0
def PySem.W.Fast.tw3729154452296550483 : Nat := 0
def PySem.W.Fast.tw6407122233482195488 : Nat := 0
def PySem.W.Fast.tw14698206690049509124 : Nat := 0
def PySem.W.Fast.tw14809473072756493140 : Nat := 0
def PySem.W.Fast.tw14817237071617898731 : Nat := 0
def PySem.W.Fast.tw16709300012787111072 : Nat := 0
def PySem.W.Fast.tw8367803415567235455 : Nat := 0
def PySem.W.Fast.tw13154287874202847987 : Nat := 0
def PySem.W.Fast.tw10616788488190128850 : Nat := 0
def PySem.W.Fast.tw10517681774366465665 : Nat := 0
def PySem.W.Fast.tw1219115111346054358 : Nat := 0
def PySem.W.Fast.tw15392603722395134550 : Nat := 0
def PySem.W.Fast.tw9399599827309801374 : Nat := 0
def PySem.W.Fast.tw14121670028658657344 : Nat := 0
def PySem.W.Fast.tw3565221031219581340 : Nat := 0
def PySem.W.Fast.tw6845260629435441152 : Nat := 0
def PySem.W.Fast.tw7810198000300886493 : Nat := 0
def PySem.W.Fast.tw18384129924131838254 : Nat := 0
def PySem.W.Fast.tw18042011313325719579 : Nat := 0
def PySem.W.Fast.tw1120665685359999923 : Nat := 0
def PySem.W.Fast.tw3882482196366997561 : Nat := 0
def PySem.W.Fast.tw5271169117310065306 : Nat := 0
def PySem.W.Fast.tw9165693842482503691 : Nat := 0
def PySem.W.Fast.tw1050009245178051277 : Nat := 0
def PySem.W.Fast.tw13248233748839610074 : Nat := 0
def PySem.W.Fast.tw12836958921433646180 : Nat := 0
def PySem.W.Fast.tw18156269624833131292 : Nat := 0
def PySem.W.Fast.tw11457982406582022077 : Nat := 0
def PySem.W.Fast.tw13654301396323750516 : Nat := 0
def PySem.W.Fast.tw2341417308347834833 : Nat := 0
def PySem.W.Fast.tw10266384797077601600 : Nat := 0
def PySem.W.Fast.tw5385898431543562682 : Nat := 0
def PySem.W.Fast.tw3317870021767761038 : Nat := 0
def PySem.W.Fast.tw5177069321656377043 : Nat := 0
def PySem.W.Fast.tw1966530442134600998 : Nat := 0
def PySem.W.Fast.tw16261745519570927219 : Nat := 0
def PySem.W.Fast.tw10007922700595853022 : Nat := 0
def PySem.W.Fast.tw17174105198047758518 : Nat := 0
def PySem.W.Fast.tw9056171853819130919 : Nat := 0
def PySem.W.Fast.tw4566393610076526975 : Nat := 0
def PySem.W.Fast.tw11623473025549676211 : Nat := 0
def PySem.W.Fast.tw11296976515153495067 : Nat := 0
def PySem.W.Fast.tw3834287105369205886 : Nat := 0
def PySem.W.Fast.tw1959844761627362399 : Nat := 0
def PySem.W.Fast.tw4598369841302437271 : Nat := 0
def PySem.W.Fast.tw13276380219703354855 : Nat := 0
def PySem.W.Fast.tw7839908928394842665 : Nat := 0
def PySem.W.Fast.tw17465983564799722938 : Nat := 0
def PySem.W.Fast.tw11235872174159436343 : Nat := 0
def PySem.W.Fast.tw16447328592039746519 : Nat := 0
def PySem.W.Fast.tw11216305580563676037 : Nat := 0
def PySem.W.Fast.tw7301113057364535407 : Nat := 0
def PySem.W.Fast.tw8130794757538177405 : Nat := 0
def PySem.W.Fast.tw16259640573066778393 : Nat := 0
def PySem.W.Fast.tw15760185624321613361 : Nat := 0
def PySem.W.Fast.tw4135595921000369797 : Nat := 0
def PySem.W.Fast.tw1299944655277296890 : Nat := 0
def PySem.W.Fast.tw11772850627576636825 : Nat := 0
def PySem.W.Fast.tw12458796643388016666 : Nat := 0
def PySem.W.Fast.tw12785548058621310408 : Nat := 0
def PySem.W.Fast.tw14712142352642405837 : Nat := 0
def PySem.W.Fast.tw10721494901936645396 : Nat := 0
def PySem.W.Fast.tw18199127698235780797 : Nat := 0
def PySem.W.Fast.tw9327302878783505565 : Nat := 0
def PySem.W.Fast.tw17324560367840721723 : Nat := 0
def PySem.W.Fast.tw6547214136031518218 : Nat := 0
def PySem.W.Fast.tw15080858685001255427 : Nat := 0
def PySem.W.Fast.tw4584268152280795890 : Nat := 0
def PySem.W.Fast.tw16280431941489954798 : Nat := 0
def PySem.W.Fast.tw13835503284622451491 : Nat := 0
def PySem.W.Fast.tw9508578581323491008 : Nat := 0
def PySem.W.Fast.tw17010571732337697949 : Nat := 0
def PySem.W.Fast.tw5227495472577209807 : Nat := 0
def PySem.W.Fast.tw587663763015540411 : Nat := 0
def PySem.W.Fast.tw12739555447879010960 : Nat := 0
def PySem.W.Fast.tw5059991892192227245 : Nat := 0
def PySem.W.Fast.tw14919917906890991283 : Nat := 0
def PySem.W.Fast.tw10254483386639975596 : Nat := 0
def PySem.W.Fast.tw9320142517037702111 : Nat := 0
def PySem.W.Fast.tw18341596844542431577 : Nat := 0
def PySem.W.Fast.tw389147687147067402 : Nat := 0
def PySem.W.Fast.tw9599277252478659409 : Nat := 0
def PySem.W.Fast.tw12439309307929645702 : Nat := 0
def PySem.W.Fast.tw8941469992132443370 : Nat := 0
def PySem.W.Fast.tw17407429864203436930 : Nat := 0
def PySem.W.Fast.tw5504112568993521079 : Nat := 0
def PySem.W.Fast.tw17962922205381148628 : Nat := 0
def PySem.W.Fast.tw10514886636113349214 : Nat := 0
def PySem.W.Fast.tw6254592074510345435 : Nat := 0
def PySem.W.Fast.tw16750164749639608310 : Nat := 0
def PySem.W.Fast.tw4997962139298873732 : Nat := 0
def PySem.W.Fast.tw4110088563964311813 : Nat := 0
def PySem.W.Fast.tw8776970204582529265 : Nat := 0
def PySem.W.Fast.tw2966774690283542860 : Nat := 0
def PySem.W.Fast.tw3499436991953150981 : Nat := 0
def PySem.W.Fast.tw12496878705419344360 : Nat := 0
def PySem.W.Fast.tw14326036231317760694 : Nat := 0
def PySem.W.Fast.tw9245832224788690905 : Nat := 0
def PySem.W.Fast.tw298034553008142158 : Nat := 0
def PySem.W.Fast.tw17485526406632057853 : Nat := 0
def PySem.W.Fast.tw5264502985992307316 : Nat := 0
def PySem.W.Fast.tw13463844399290337082 : Nat := 0
def PySem.W.Fast.tw12611077768532882124 : Nat := 0
def PySem.W.Fast.tw14147544060995369647 : Nat := 0
def PySem.W.Fast.tw8651780974986142977 : Nat := 0
def PySem.W.Fast.tw12025841337969163265 : Nat := 0
def PySem.W.Fast.tw14332681549857556780 : Nat := 0
def PySem.W.Fast.tw2369054994153124641 : Nat := 0
def PySem.W.Fast.tw16130963327780983844 : Nat := 0
def PySem.W.Fast.tw14961519772880810351 : Nat := 0
def PySem.W.Fast.tw10381033749157911357 : Nat := 0
def PySem.W.Fast.tw10178636953808935022 : Nat := 0
def PySem.W.Fast.tw5454049774515187898 : Nat := 0
def PySem.W.Fast.tw5814501222451252242 : Nat := 0
def PySem.W.Fast.tw7916781845413617798 : Nat := 0
def PySem.W.Fast.tw18120412483608928616 : Nat := 0
def PySem.W.Fast.tw15353496386013243744 : Nat := 0
def PySem.W.Fast.tw14356830650319457824 : Nat := 0
def PySem.W.Fast.tw3693728480544687796 : Nat := 0
def PySem.W.Fast.tw14452243393300767189 : Nat := 0
def PySem.W.Fast.tw1777810858477588799 : Nat := 0
def PySem.W.Fast.tw5681082255402824464 : Nat := 0
def PySem.W.Fast.tw15640273445993256533 : Nat := 0
def PySem.W.Fast.tw13417791495169737873 : Nat := 0
def PySem.W.Fast.tw11145674312173519482 : Nat := 0
def PySem.W.Fast.tw16413659647168547659 : Nat := 0
def PySem.W.Fast.tw13071268672818612425 : Nat := 0
def PySem.W.Fast.tw10348775055539058280 : Nat := 0
def PySem.W.Fast.tw3618401110222060060 : Nat := 0
def PySem.W.Fast.tw6652107306246957128 : Nat := 0
def PySem.W.Fast.tw8322765102436411147 : Nat := 0
def PySem.W.Fast.tw9821068235663616002 : Nat := 0
def PySem.W.Fast.tw8296054076577676751 : Nat := 0
def PySem.W.Fast.tw11807682478123026186 : Nat := 0
def PySem.W.Fast.tw16159853016262329506 : Nat := 0
def PySem.W.Fast.tw17306870062914063961 : Nat := 0
def PySem.W.Fast.tw13810086536111893559 : Nat := 0
def PySem.W.Fast.tw3290193134500558509 : Nat := 0
def PySem.W.Fast.tw16388626183176347551 : Nat := 0
def PySem.W.Fast.tw2859453309605959212 : Nat := 0
def PySem.W.Fast.tw12534098463364838253 : Nat := 0
def PySem.W.Fast.tw6512953338649821660 : Nat := 0
def PySem.W.Fast.tw12795608492012880372 : Nat := 0
def PySem.W.Fast.tw12505979007144800175 : Nat := 0
def PySem.W.Fast.tw16765297379806446646 : Nat := 0
def PySem.W.Fast.tw14572657253620528368 : Nat := 0
def PySem.W.Fast.tw11465825832829694055 : Nat := 0
def PySem.W.Fast.tw7590119033730916110 : Nat := 0
def PySem.W.Fast.tw13567640110296978147 : Nat := 0
def PySem.W.Fast.tw11486718648267753024 : Nat := 0
def PySem.W.Fast.tw11447997659275222925 : Nat := 0
def PySem.W.Fast.tw817507211262687738 : Nat := 0
def PySem.W.Fast.tw7421449786386843688 : Nat := 0
def PySem.W.Fast.tw10275190089262292917 : Nat := 0
def PySem.W.Fast.tw11885951636492175817 : Nat := 0
def PySem.W.Fast.tw15556185587074807103 : Nat := 0
def PySem.W.Fast.tw16946974993825030852 : Nat := 0
def PySem.W.Fast.tw6382170367281371927 : Nat := 0
def PySem.W.Fast.tw15385399640987042756 : Nat := 0
def PySem.W.Fast.tw10314263662766587467 : Nat := 0
def PySem.W.Fast.tw526967762022034021 : Nat := 0
def PySem.W.Fast.tw4541452799357657918 : Nat := 0
def PySem.W.Fast.tw7617204921175211502 : Nat := 0
def PySem.W.Fast.tw7740470422021892043 : Nat := 0
def PySem.W.Fast.tw2260023212241629394 : Nat := 0
def PySem.W.Fast.tw9519262113264935040 : Nat := 0
def PySem.W.Fast.tw9707448614464864974 : Nat := 0
def PySem.W.Fast.tw17184756147399044638 : Nat := 0
def PySem.W.Fast.tw4884334171166226130 : Nat := 0
def PySem.W.Fast.tw8719060335050668152 : Nat := 0
def PySem.W.Fast.tw10866603580459725670 : Nat := 0
def PySem.W.Fast.tw17320133520312899539 : Nat := 0
def PySem.W.Fast.tw11998068474281161734 : Nat := 0
def PySem.W.Fast.tw13338875844350001921 : Nat := 0
def PySem.W.Fast.tw14563034545734719659 : Nat := 0
def PySem.W.Fast.tw3503001294805269014 : Nat := 0
def PySem.W.Fast.tw9585777242277549667 : Nat := 0
def PySem.W.Fast.tw8030592254231238009 : Nat := 0
def PySem.W.Fast.tw16236329830006627041 : Nat := 0
def PySem.W.Fast.tw16011981757700056068 : Nat := 0
def PySem.W.Fast.tw4883346094522219298 : Nat := 0
def PySem.W.Fast.tw4322776338864106317 : Nat := 0
def PySem.W.Fast.tw5911752873330852990 : Nat := 0
def PySem.W.Fast.tw919137765527981488 : Nat := 0
def PySem.W.Fast.tw6282602144422429952 : Nat := 0
def PySem.W.Fast.tw11113770263408619101 : Nat := 0
def PySem.W.Fast.tw9039028277531308611 : Nat := 0
def PySem.W.Fast.tw11818577127626517320 : Nat := 0
def PySem.W.Fast.tw9437287515817427782 : Nat := 0
def PySem.W.Fast.tw1961738782707803040 : Nat := 0
def PySem.W.Fast.tw579822789851587770 : Nat := 0
def PySem.W.Fast.tw5276189385103020389 : Nat := 0
def PySem.W.Fast.tw1732125407948034749 : Nat := 0
def PySem.W.Fast.tw1434684314292086224 : Nat := 0
def PySem.W.Fast.tw6774341322037160067 : Nat := 0
def PySem.W.Fast.tw7549499598748257567 : Nat := 0
def PySem.W.Fast.tw15494822992472472301 : Nat := 0
def PySem.W.Fast.tw15484202137632565509 : Nat := 0
def PySem.W.Fast.tw11891990069219691896 : Nat := 0
def PySem.W.Fast.tw8158250910778059105 : Nat := 0
def PySem.W.Fast.tw7160066961384508517 : Nat := 0
def PySem.W.Fast.tw796829996199748661 : Nat := 0
def PySem.W.Fast.tw6852527525790369957 : Nat := 0
def PySem.W.Fast.tw13912137113269779690 : Nat := 0
def PySem.W.Fast.tw14372463164873801709 : Nat := 0
def PySem.W.Fast.tw15638740220271659990 : Nat := 0
def PySem.W.Fast.tw11446548170630201343 : Nat := 0
def PySem.W.Fast.tw17428212117085370383 : Nat := 0
def PySem.W.Fast.tw16200026628144229210 : Nat := 0
def PySem.W.Fast.tw11351656854379152350 : Nat := 0
def PySem.W.Fast.tw2787056797288314150 : Nat := 0
def PySem.W.Fast.tw12448765520197483595 : Nat := 0
def PySem.W.Fast.tw9799110089463517429 : Nat := 0
def PySem.W.Fast.tw17322240521708979673 : Nat := 0
def PySem.W.Fast.tw8706660891992253743 : Nat := 0
def PySem.W.Fast.tw9984023842485333320 : Nat := 0
def PySem.W.Fast.tw16276768467494997380 : Nat := 0
def PySem.W.Fast.tw5188014832728419953 : Nat := 0
def PySem.W.Fast.tw4005287498915239629 : Nat := 0
def PySem.W.Fast.tw17522531088708147183 : Nat := 0
def PySem.W.Fast.tw7634381554723975417 : Nat := 0
def PySem.W.Fast.tw2275525446454182216 : Nat := 0
def PySem.W.Fast.tw9398859313896891812 : Nat := 0
def PySem.W.Fast.tw8518709710072692750 : Nat := 0
def PySem.W.Fast.tw8214923784269362807 : Nat := 0
def PySem.W.Fast.tw17713003456860108193 : Nat := 0
def PySem.W.Fast.tw10638232825057319532 : Nat := 0
def PySem.W.Fast.tw12001660396592820184 : Nat := 0
def PySem.W.Fast.tw3200532738627544169 : Nat := 0
def PySem.W.Fast.tw2856324581516200560 : Nat := 0
def PySem.W.Fast.tw7744050203454878166 : Nat := 0
def PySem.W.Fast.tw2702733413811527271 : Nat := 0
def PySem.W.Fast.tw8282963637534138193 : Nat := 0
def PySem.W.Fast.tw12863213748552917206 : Nat := 0
def PySem.W.Fast.tw13113535108228196202 : Nat := 0
def PySem.W.Fast.tw4938614123049368504 : Nat := 0
def PySem.W.Fast.tw7484117176351324407 : Nat := 0
def PySem.W.Fast.tw7466365654530029386 : Nat := 0
def PySem.W.Fast.tw14111968329888652301 : Nat := 0
def PySem.W.Fast.tw8767543388302627493 : Nat := 0
def PySem.W.Fast.tw6287509902230834882 : Nat := 0
def PySem.W.Fast.tw16703036488342962681 : Nat := 0
def PySem.W.Fast.tw11983746818175706381 : Nat := 0
def PySem.W.Fast.tw16497695984971686702 : Nat := 0
def PySem.W.Fast.tw17455378725671890877 : Nat := 0
def PySem.W.Fast.tw14207487786627059948 : Nat := 0
def PySem.W.Fast.tw7994392310236822073 : Nat := 0
def PySem.W.Fast.tw18251324763587766377 : Nat := 0
def PySem.W.Fast.tw8308271513951824456 : Nat := 0
def PySem.W.Fast.tw6327570138164226399 : Nat := 0
def PySem.W.Fast.tw16279596388356619332 : Nat := 0
def PySem.W.Fast.tw6237978798248204690 : Nat := 0
def PySem.W.Fast.tw3467024544231235184 : Nat := 0
def PySem.W.Fast.tw12822098208235327267 : Nat := 0
def PySem.W.Fast.tw10743917330476843482 : Nat := 0
def PySem.W.Fast.tw7923498817837489761 : Nat := 0
def PySem.W.Fast.tw15440867183990918496 : Nat := 0
def PySem.W.Fast.tw6037752685170156465 : Nat := 0
def PySem.W.Fast.tw17013952861679983193 : Nat := 0
def PySem.W.Fast.tw2831124286785362047 : Nat := 0
def PySem.W.Fast.tw8084841107065705000 : Nat := 0
def PySem.W.Fast.tw14878480541290455561 : Nat := 0
def PySem.W.Fast.tw1469703454870585523 : Nat := 0
def PySem.W.Fast.tw9467363347584631993 : Nat := 0
def PySem.W.Fast.tw16010358099473323276 : Nat := 0
def PySem.W.Fast.tw12161745932932539313 : Nat := 0
def PySem.W.Fast.tw958347047067452438 : Nat := 0
def PySem.W.Fast.tw7042393837797476169 : Nat := 0
def PySem.W.Fast.tw4737436254025908310 : Nat := 0
def PySem.W.Fast.tw10570207627287147549 : Nat := 0
def PySem.W.Fast.tw2641876788726713700 : Nat := 0
def PySem.W.Fast.tw12838286831704572945 : Nat := 0
def PySem.W.Fast.tw6624668409013432252 : Nat := 0
def PySem.W.Fast.tw7738645268795937948 : Nat := 0
def PySem.W.Fast.tw7765245911210021730 : Nat := 0
def PySem.W.Fast.tw15509971339233855611 : Nat := 0
def PySem.W.Fast.tw1981669155864730294 : Nat := 0
def PySem.W.Fast.tw11803757805112577654 : Nat := 0
def PySem.W.Fast.tw10778523356485548443 : Nat := 0
def PySem.W.Fast.tw17074746745321859575 : Nat := 0
def PySem.W.Fast.tw6190079929014707104 : Nat := 0
def PySem.W.Fast.tw8869127981381751304 : Nat := 0
def PySem.W.Fast.tw1913136662487505185 : Nat := 0
def PySem.W.Fast.tw6589353298636049362 : Nat := 0
def PySem.W.Fast.tw14758910444618657889 : Nat := 0
def PySem.W.Fast.tw16692183499323793615 : Nat := 0
def PySem.W.Fast.tw18423939108914432200 : Nat := 0
def PySem.W.Fast.tw8763912646503180747 : Nat := 0
def PySem.W.Fast.tw4144911524268787391 : Nat := 0
def PySem.W.Fast.tw7682096193588918106 : Nat := 0
def PySem.W.Fast.tw2913794508065942232 : Nat := 0
def PySem.W.Fast.tw13988216192562099476 : Nat := 0
def PySem.W.Fast.tw17412899527186180414 : Nat := 0
def PySem.W.Fast.tw14404913343817823276 : Nat := 0
def PySem.W.Fast.tw11414659247325175579 : Nat := 0
def PySem.W.Fast.tw6690143779746514923 : Nat := 0
def PySem.W.Fast.tw13768230068601389171 : Nat := 0
def PySem.W.Fast.tw6531157758537466675 : Nat := 0
def PySem.W.Fast.tw7876376837102710542 : Nat := 0
def PySem.W.Fast.tw15900524532108242003 : Nat := 0
def PySem.W.Fast.tw10386296816455222695 : Nat := 0
def PySem.W.Fast.tw7587623906521705999 : Nat := 0
def PySem.W.Fast.tw8536248451051119955 : Nat := 0
def PySem.W.Fast.tw18360627064319489919 : Nat := 0
def PySem.W.Fast.tw6441445265342249626 : Nat := 0
def PySem.W.Fast.tw1778746992007282856 : Nat := 0
def PySem.W.Fast.tw11590198778154671529 : Nat := 0
def PySem.W.Fast.tw3008721643004121875 : Nat := 0
def PySem.W.Fast.tw16006161988241145433 : Nat := 0
def PySem.W.Fast.tw12495278786883803745 : Nat := 0
def PySem.W.Fast.tw1749835507185832041 : Nat := 0
def PySem.W.Fast.tw12443941027059719421 : Nat := 0
def PySem.W.Fast.tw4524379041694615110 : Nat := 0
def PySem.W.Fast.tw8032308647668078869 : Nat := 0
def PySem.W.Fast.tw3571762221113824117 : Nat := 0
def PySem.W.Fast.tw6346902239474399149 : Nat := 0
def PySem.W.Fast.tw9404384596419511708 : Nat := 0
def PySem.W.Fast.tw7427873850606835811 : Nat := 0
def PySem.W.Fast.tw5231338673406814992 : Nat := 0
def PySem.W.Fast.tw16333349535288059906 : Nat := 0
def PySem.W.Fast.tw3632474702653064011 : Nat := 0
def PySem.W.Fast.tw2400818410062756413 : Nat := 0
def PySem.W.Fast.tw17502198544708437953 : Nat := 0
def PySem.W.Fast.tw6734418686080542258 : Nat := 0
def PySem.W.Fast.tw2365379544620968723 : Nat := 0
def PySem.W.Fast.tw6314622717138983043 : Nat := 0
def PySem.W.Fast.tw6808770377943455594 : Nat := 0
def PySem.W.Fast.tw9198559345076728905 : Nat := 0
def PySem.W.Fast.tw9936617852216243752 : Nat := 0
def PySem.W.Fast.tw7875444504497074330 : Nat := 0
def PySem.W.Fast.tw27181996047857542 : Nat := 0
def PySem.W.Fast.tw1737135933249579737 : Nat := 0
def PySem.W.Fast.tw9605959886211448813 : Nat := 0
def PySem.W.Fast.tw4579845122923067560 : Nat := 0
def PySem.W.Fast.tw7941416067234193715 : Nat := 0
def PySem.W.Fast.tw8947150967014831906 : Nat := 0
def PySem.W.Fast.tw8120668527823461700 : Nat := 0
def PySem.W.Fast.tw4305609278850856302 : Nat := 0
def PySem.W.Fast.tw17987265785692807657 : Nat := 0
def PySem.W.Fast.tw13109981017602464874 : Nat := 0
def PySem.W.Fast.tw6353615695428889995 : Nat := 0
def PySem.W.Fast.tw15731079851936604429 : Nat := 0
def PySem.W.Fast.tw7941963586251370905 : Nat := 0
def PySem.W.Fast.tw10867257925589879276 : Nat := 0
def PySem.W.Fast.tw5729510746263724283 : Nat := 0
def PySem.W.Fast.tw12682470443664039977 : Nat := 0
def PySem.W.Fast.tw18282988934575467982 : Nat := 0
def PySem.W.Fast.tw1466483583503987035 : Nat := 0
def PySem.W.Fast.tw10781129969943471732 : Nat := 0
def PySem.W.Fast.tw4005971819039802720 : Nat := 0
def PySem.W.Fast.tw5531172970335856574 : Nat := 0
def PySem.W.Fast.tw4829618088239546132 : Nat := 0
def PySem.W.Fast.tw9210436316073431955 : Nat := 0
def PySem.W.Fast.tw201143846302748502 : Nat := 0
def PySem.W.Fast.tw2082237551588226227 : Nat := 0
def PySem.W.Fast.tw3513469610986660434 : Nat := 0
def PySem.W.Fast.tw15019066337912896819 : Nat := 0
def PySem.W.Fast.tw12320805299343527138 : Nat := 0
def PySem.W.Fast.tw16248918327398852982 : Nat := 0
def PySem.W.Fast.tw12852842146686143442 : Nat := 0
def PySem.W.Fast.tw10462785610627986769 : Nat := 0
def PySem.W.Fast.tw10070729965406315387 : Nat := 0
def PySem.W.Fast.tw1009736382478168378 : Nat := 0
def PySem.W.Fast.tw13144416333290724820 : Nat := 0
def PySem.W.Fast.tw7473616156565706754 : Nat := 0
def PySem.W.Fast.tw4656463793862412107 : Nat := 0
def PySem.W.Fast.tw16997173182296228992 : Nat := 0
def PySem.W.Fast.tw2126417769366490609 : Nat := 0
def PySem.W.Fast.tw10003445350660520138 : Nat := 0
def PySem.W.Fast.tw5817197089328914758 : Nat := 0
def PySem.W.Fast.tw14141031489532949188 : Nat := 0
def PySem.W.Fast.tw13663322384028365237 : Nat := 0
def PySem.W.Fast.tw12548312016894513711 : Nat := 0
def PySem.W.Fast.tw6153951533438197738 : Nat := 0
def PySem.W.Fast.tw15202438239035562259 : Nat := 0
def PySem.W.Fast.tw5730599494661127034 : Nat := 0
def PySem.W.Fast.tw12775398342570862455 : Nat := 0
def PySem.W.Fast.tw9608074186011851605 : Nat := 0
def PySem.W.Fast.tw10442314133674678962 : Nat := 0
def PySem.W.Fast.tw14647290147491521028 : Nat := 0
def PySem.W.Fast.tw16802005113456125969 : Nat := 0
def PySem.W.Fast.tw8821013498035070784 : Nat := 0
def PySem.W.Fast.tw16834165411905737343 : Nat := 0
def PySem.W.Fast.tw13011915596230294113 : Nat := 0
def PySem.W.Fast.tw5363244174644983990 : Nat := 0
def PySem.W.Fast.tw18053718740651956759 : Nat := 0
def PySem.W.Fast.tw9688325240925499551 : Nat := 0
def PySem.W.Fast.tw7033351109571135726 : Nat := 0
def PySem.W.Fast.tw2367620880460056256 : Nat := 0
def PySem.W.Fast.tw1588404683442798701 : Nat := 0
def PySem.W.Fast.tw3645425873053282862 : Nat := 0
def PySem.W.Fast.tw15138079602718430827 : Nat := 0
def PySem.W.Fast.tw8282978085044323419 : Nat := 0
def PySem.W.Fast.tw12650762251813931901 : Nat := 0
def PySem.W.Fast.tw18170345166066552496 : Nat := 0
def PySem.W.Fast.tw190616625417505800 : Nat := 0
def PySem.W.Fast.tw17725770123606665336 : Nat := 0
def PySem.W.Fast.tw17791696755451671399 : Nat := 0
def PySem.W.Fast.tw10662289187680678210 : Nat := 0
def PySem.W.Fast.tw2690970532071604496 : Nat := 0
def PySem.W.Fast.tw4092619875200005415 : Nat := 0
def PySem.W.Fast.tw4196416470301514681 : Nat := 0
def PySem.W.Fast.tw7933789133196618475 : Nat := 0
def PySem.W.Fast.tw8859571792550181141 : Nat := 0
def PySem.W.Fast.tw12799844848105725543 : Nat := 0
def PySem.W.Fast.tw1543395280486629346 : Nat := 0
def PySem.W.Fast.tw9776733523201578039 : Nat := 0
def PySem.W.Fast.tw13614537900932211189 : Nat := 0
def PySem.W.Fast.tw8067620319612102434 : Nat := 0
def PySem.W.Fast.tw16405270846309379164 : Nat := 0
def PySem.W.Fast.tw5062867503327845737 : Nat := 0
def PySem.W.Fast.tw11112776930831846075 : Nat := 0
def PySem.W.Fast.tw17653918610902776811 : Nat := 0
def PySem.W.Fast.tw16274717107126506341 : Nat := 0
def PySem.W.Fast.tw7334419229186399343 : Nat := 0
def PySem.W.Fast.tw6164751149210036907 : Nat := 0
def PySem.W.Fast.tw15447122120185937048 : Nat := 0
def PySem.W.Fast.tw5060204117098212116 : Nat := 0
def PySem.W.Fast.tw13235678762548876208 : Nat := 0
def PySem.W.Fast.tw10993581236676843191 : Nat := 0
def PySem.W.Fast.tw819481641649092927 : Nat := 0
def PySem.W.Fast.tw9679257023479565671 : Nat := 0
def PySem.W.Fast.tw4032331364783394733 : Nat := 0
def PySem.W.Fast.tw2249170064431166045 : Nat := 0
def PySem.W.Fast.tw1960645878096029144 : Nat := 0
def PySem.W.Fast.tw7858997136547256996 : Nat := 0
def PySem.W.Fast.tw8599353846546296102 : Nat := 0
def PySem.W.Fast.tw954964399614423704 : Nat := 0
def PySem.W.Fast.tw7431392012094647605 : Nat := 0
def PySem.W.Fast.tw6698446403125785997 : Nat := 0
def PySem.W.Fast.tw7665678893920391124 : Nat := 0
def PySem.W.Fast.tw9196740589421135122 : Nat := 0
def PySem.W.Fast.tw12363308279185130444 : Nat := 0
def PySem.W.Fast.tw13393345733401441577 : Nat := 0
def PySem.W.Fast.tw17989960710807554937 : Nat := 0
def PySem.W.Fast.tw270021107558313838 : Nat := 0
def PySem.W.Fast.tw13734620955144279188 : Nat := 0
def PySem.W.Fast.tw16865394665339406370 : Nat := 0
def PySem.W.Fast.tw17527676356441754535 : Nat := 0
def PySem.W.Fast.tw342294492793347427 : Nat := 0
def PySem.W.Fast.tw151783803328539622 : Nat := 0
def PySem.W.Fast.tw15877548816140697279 : Nat := 0
def PySem.W.Fast.tw14765620981469906146 : Nat := 0
def PySem.W.Fast.tw4139701485511821883 : Nat := 0
def PySem.W.Fast.tw2822771919451669757 : Nat := 0
def PySem.W.Fast.tw12624277218739875714 : Nat := 0
def PySem.W.Fast.tw7215555395306193595 : Nat := 0
def PySem.W.Fast.tw17619005662037749681 : Nat := 0
def PySem.W.Fast.tw16495287288768999389 : Nat := 0
def PySem.W.Fast.tw17924772279893742203 : Nat := 0
def PySem.W.Fast.tw4544901091857331503 : Nat := 0
def PySem.W.Fast.tw8424635584069482174 : Nat := 0
def PySem.W.Fast.tw15829660029945295886 : Nat := 0
def PySem.W.Fast.tw1047299475018756534 : Nat := 0
def PySem.W.Fast.tw7704845879150179629 : Nat := 0
def PySem.W.Fast.tw14264729609264131897 : Nat := 0
def PySem.W.Fast.tw18394928990058902542 : Nat := 0
def PySem.W.Fast.tw10966999942788473231 : Nat := 0
def PySem.W.Fast.tw7096837556967579625 : Nat := 0
def PySem.W.Fast.tw5883475955002447803 : Nat := 0
def PySem.W.Fast.tw5281764635030774711 : Nat := 0
def PySem.W.Fast.tw18016132461765346454 : Nat := 0
def PySem.W.Fast.tw8581487141219783898 : Nat := 0
def PySem.W.Fast.tw5463355486783675656 : Nat := 0
def PySem.W.Fast.tw12162954595861103555 : Nat := 0
def PySem.W.Fast.tw17015894096861711544 : Nat := 0
def PySem.W.Fast.tw10870292055856635216 : Nat := 0
def PySem.W.Fast.tw13781823292426857358 : Nat := 0
def PySem.W.Fast.tw8735931986448950205 : Nat := 0
def PySem.W.Fast.tw5280332657468860575 : Nat := 0
def PySem.W.Fast.tw6657409903243331531 : Nat := 0
def PySem.W.Fast.tw584679201300139903 : Nat := 0
def PySem.W.Fast.tw10660631622956606446 : Nat := 0
def PySem.W.Fast.tw1520362211822565220 : Nat := 0
def PySem.W.Fast.tw15649138153281544872 : Nat := 0
def PySem.W.Fast.tw11605213691571167170 : Nat := 0
def PySem.W.Fast.tw11166907534220914563 : Nat := 0
def PySem.W.Fast.tw9994355137458401115 : Nat := 0
def PySem.W.Fast.tw4631040432844813545 : Nat := 0
def PySem.W.Fast.tw2575682880676944235 : Nat := 0
def PySem.W.Fast.tw3406568616004759572 : Nat := 0
def PySem.W.Fast.tw15328268640441061137 : Nat := 0
def PySem.W.Fast.tw11833834573448570239 : Nat := 0
def PySem.W.Fast.tw11960840050159066961 : Nat := 0
def PySem.W.Fast.tw17745802521623476162 : Nat := 0
def PySem.W.Fast.tw11022279238785370680 : Nat := 0
def PySem.W.Fast.tw6680391503083364195 : Nat := 0
def PySem.W.Fast.tw12061345322213787481 : Nat := 0
def PySem.W.Fast.tw17334926804895653215 : Nat := 0
def PySem.W.Fast.tw4199400701193803688 : Nat := 0
def PySem.W.Fast.tw4347922049866809303 : Nat := 0
def PySem.W.Fast.tw5045057137597618645 : Nat := 0
def PySem.W.Fast.tw6171191942275998502 : Nat := 0
def PySem.W.Fast.tw12537146189204117972 : Nat := 0
def PySem.W.Fast.tw6351007283964433910 : Nat := 0
def PySem.W.Fast.tw2224855351121953741 : Nat := 0
def PySem.W.Fast.tw2904918663867123563 : Nat := 0
def PySem.W.Fast.tw2069972463214808531 : Nat := 0
def PySem.W.Fast.tw2141977243859454803 : Nat := 0
def PySem.W.Fast.tw15881461332075302516 : Nat := 0
def PySem.W.Fast.tw1002006206471829229 : Nat := 0
def PySem.W.Fast.tw5062810775409088461 : Nat := 0
def PySem.W.Fast.tw7412590478449325779 : Nat := 0
def PySem.W.Fast.tw2345885911870327045 : Nat := 0
def PySem.W.Fast.tw10288912474801649692 : Nat := 0
def PySem.W.Fast.tw4197478481937336986 : Nat := 0
def PySem.W.Fast.tw3335733182013350073 : Nat := 0
def PySem.W.Fast.tw1998235454894416014 : Nat := 0
def PySem.W.Fast.tw4586006735865561459 : Nat := 0
def PySem.W.Fast.tw5188213070190690430 : Nat := 0
def PySem.W.Fast.tw15565648398813157501 : Nat := 0
def PySem.W.Fast.tw5685208834947748630 : Nat := 0
def PySem.W.Fast.tw10986056269745752822 : Nat := 0
def PySem.W.Fast.tw11506894329819108203 : Nat := 0
def PySem.W.Fast.tw8235612577904036105 : Nat := 0
def PySem.W.Fast.tw14843898363176957776 : Nat := 0
def PySem.W.Fast.tw7935459219274489700 : Nat := 0
def PySem.W.Fast.tw10339675040645418942 : Nat := 0
def PySem.W.Fast.tw3687064325884660677 : Nat := 0
def PySem.W.Fast.tw1797434509288869498 : Nat := 0
def PySem.W.Fast.tw12408549780523069000 : Nat := 0
def PySem.W.Fast.tw11104586273163169954 : Nat := 0
def PySem.W.Fast.tw18356387873527070025 : Nat := 0
def PySem.W.Fast.tw7209396394100394195 : Nat := 0
def PySem.W.Fast.tw76242001994418279 : Nat := 0
def PySem.W.Fast.tw8449487075700195984 : Nat := 0
def PySem.W.Fast.tw13891847600848923527 : Nat := 0
def PySem.W.Fast.tw2224215822999163761 : Nat := 0
def PySem.W.Fast.tw5182830260017522361 : Nat := 0
def PySem.W.Fast.tw3214811485656866932 : Nat := 0
def PySem.W.Fast.tw6377362983710164010 : Nat := 0
def PySem.W.Fast.tw10607593461266406539 : Nat := 0
def PySem.W.Fast.tw14413350341723799733 : Nat := 0
def PySem.W.Fast.tw3549036217493864567 : Nat := 0
def PySem.W.Fast.tw12730025896354769139 : Nat := 0
def PySem.W.Fast.tw8599395342007043220 : Nat := 0
def PySem.W.Fast.tw2185760145500499079 : Nat := 0
def PySem.W.Fast.tw11436218274333123878 : Nat := 0
def PySem.W.Fast.tw9692431064141894221 : Nat := 0
def PySem.W.Fast.tw13690466791812095387 : Nat := 0
def PySem.W.Fast.tw15060202744774599845 : Nat := 0
def PySem.W.Fast.tw10501856805010083837 : Nat := 0
def PySem.W.Fast.tw17125666072316341490 : Nat := 0
def PySem.W.Fast.tw11508830763036500720 : Nat := 0
def PySem.W.Fast.tw11597438136110512686 : Nat := 0
def PySem.W.Fast.tw13402452794129655944 : Nat := 0
def PySem.W.Fast.tw15961378379883520116 : Nat := 0
def PySem.W.Fast.tw327617500404953206 : Nat := 0
def PySem.W.Fast.tw14008367075994111828 : Nat := 0
def PySem.W.Fast.tw18115311896872567692 : Nat := 0
def PySem.W.Fast.tw8112067855821573236 : Nat := 0
def PySem.W.Fast.tw12442102773298841409 : Nat := 0
def PySem.W.Fast.tw3660837930421677943 : Nat := 0
def PySem.W.Fast.tw14689481502762153678 : Nat := 0
def PySem.W.Fast.tw6667402285049101878 : Nat := 0
def PySem.W.Fast.tw16255790835436851538 : Nat := 0
def PySem.W.Fast.tw14388891496761141343 : Nat := 0
def PySem.W.Fast.tw7203127265457357413 : Nat := 0
def PySem.W.Fast.tw14451072335948161818 : Nat := 0
def PySem.W.Fast.tw13459917892666940623 : Nat := 0
def PySem.W.Fast.tw6864021495673381183 : Nat := 0
def PySem.W.Fast.tw10834589774056623866 : Nat := 0
def PySem.W.Fast.tw3767730044224465127 : Nat := 0
def PySem.W.Fast.tw7223155442774441435 : Nat := 0
def PySem.W.Fast.tw1683294407378764489 : Nat := 0
def PySem.W.Fast.tw8543668948965080248 : Nat := 0
def PySem.W.Fast.tw12178243957115620471 : Nat := 0
def PySem.W.Fast.tw6797412313240968118 : Nat := 0
def PySem.W.Fast.tw18059817407382545109 : Nat := 0
def PySem.W.Fast.tw2225598765725787259 : Nat := 0
def PySem.W.Fast.tw4079680928412268240 : Nat := 0
def PySem.W.Fast.tw3809831572654152887 : Nat := 0
def PySem.W.Fast.tw5103295117778571233 : Nat := 0
def PySem.W.Fast.tw229408358770723695 : Nat := 0
def PySem.W.Fast.tw13508817472397613009 : Nat := 0
def PySem.W.Fast.tw8424930134672095669 : Nat := 0
def PySem.W.Fast.tw13085133264650102811 : Nat := 0
def PySem.W.Fast.tw17241340051913324246 : Nat := 0
def PySem.W.Fast.tw3789211358609976448 : Nat := 0
def PySem.W.Fast.tw15132817197544256609 : Nat := 0
def PySem.W.Fast.tw6844881082424614047 : Nat := 0
def PySem.W.Fast.tw2929532945948404432 : Nat := 0
def PySem.W.Fast.tw13241543219944625737 : Nat := 0
def PySem.W.Fast.tw5175337855417576787 : Nat := 0
def PySem.W.Fast.tw3642756797164720508 : Nat := 0
def PySem.W.Fast.tw9302665471785556780 : Nat := 0
def PySem.W.Fast.tw2429190983579212510 : Nat := 0
def PySem.W.Fast.tw8482917636477906888 : Nat := 0
def PySem.W.Fast.tw17900975338917976315 : Nat := 0
def PySem.W.Fast.tw18031402108035956723 : Nat := 0
def PySem.W.Fast.tw6361617633529550349 : Nat := 0
def PySem.W.Fast.tw1113822596211278282 : Nat := 0
def PySem.W.Fast.tw5217002740220008272 : Nat := 0
def PySem.W.Fast.tw2401098472788724887 : Nat := 0
def PySem.W.Fast.tw740177435310026560 : Nat := 0
def PySem.W.Fast.tw7578513958392353418 : Nat := 0
def PySem.W.Fast.tw6257311963964169155 : Nat := 0
def PySem.W.Fast.tw11423752106366313711 : Nat := 0
def PySem.W.Fast.tw1271360817777993125 : Nat := 0
def PySem.W.Fast.tw11739841460667600015 : Nat := 0
def PySem.W.Fast.tw2184519343891293353 : Nat := 0
def PySem.W.Fast.tw17521199494125244371 : Nat := 0
def PySem.W.Fast.tw15040078690763007412 : Nat := 0
def PySem.W.Fast.tw339710050600175788 : Nat := 0
def PySem.W.Fast.tw15111884463906031 : Nat := 0
def PySem.W.Fast.tw1498397361030287297 : Nat := 0
def PySem.W.Fast.tw8154006154171939174 : Nat := 0
def PySem.W.Fast.tw2808750304432253890 : Nat := 0
def PySem.W.Fast.tw5625492165036934729 : Nat := 0
def PySem.W.Fast.tw3271574235816472558 : Nat := 0
def PySem.W.Fast.tw6777916259170599890 : Nat := 0
def PySem.W.Fast.tw16396300735525694642 : Nat := 0
def PySem.W.Fast.tw6765797243747946135 : Nat := 0
def PySem.W.Fast.tw9962821302794288482 : Nat := 0
def PySem.W.Fast.tw916155868801983733 : Nat := 0
def PySem.W.Fast.tw15459463086887495703 : Nat := 0
def PySem.W.Fast.tw7425234844439001857 : Nat := 0
def PySem.W.Fast.tw552765316835245529 : Nat := 0
def PySem.W.Fast.tw13986747602567091552 : Nat := 0
def PySem.W.Fast.tw14825125842133166945 : Nat := 0
def PySem.W.Fast.tw3393001716730760474 : Nat := 0
def PySem.W.Fast.tw11049232711866421710 : Nat := 0
def PySem.W.Fast.tw11526549426480743628 : Nat := 0
def PySem.W.Fast.tw4449787231940372057 : Nat := 0
def PySem.W.Fast.tw8788323065699048025 : Nat := 0
def PySem.W.Fast.tw8130987861615823893 : Nat := 0
def PySem.W.Fast.tw7020979420870876156 : Nat := 0
def PySem.W.Fast.tw9941921142376681979 : Nat := 0
def PySem.W.Fast.tw17260670288708703802 : Nat := 0
def PySem.W.Fast.tw5103562366663874875 : Nat := 0
def PySem.W.Fast.tw3807520271247046774 : Nat := 0
def PySem.W.Fast.tw8365623219055260155 : Nat := 0
def PySem.W.Fast.tw638388580479234340 : Nat := 0
def PySem.W.Fast.tw7069727855213141248 : Nat := 0
def PySem.W.Fast.tw2575003797181064350 : Nat := 0
def PySem.W.Fast.tw5279347937409813183 : Nat := 0
def PySem.W.Fast.tw112079733005234798 : Nat := 0
def PySem.W.Fast.tw10540806043143481253 : Nat := 0
def PySem.W.Fast.tw9746484325315007756 : Nat := 0
def PySem.W.Fast.tw11981111213119944474 : Nat := 0
def PySem.W.Fast.tw6355798075460842123 : Nat := 0
def PySem.W.Fast.tw9656424653423025651 : Nat := 0
def PySem.W.Fast.tw13705221376836800233 : Nat := 0
def PySem.W.Fast.tw2189205051305676597 : Nat := 0
def PySem.W.Fast.tw8385486577881324578 : Nat := 0
def PySem.W.Fast.tw6032817038357676216 : Nat := 0
def PySem.W.Fast.tw6430568874334954727 : Nat := 0
def PySem.W.Fast.tw4873978184004113925 : Nat := 0
def PySem.W.Fast.tw13933248174539536262 : Nat := 0
def PySem.W.Fast.tw541974163150170829 : Nat := 0
def PySem.W.Fast.tw5255545849730709178 : Nat := 0
def PySem.W.Fast.tw1535274821038467121 : Nat := 0
def PySem.W.Fast.tw9511660978320109934 : Nat := 0
def PySem.W.Fast.tw11526318833957774926 : Nat := 0
def PySem.W.Fast.tw9371494942541904139 : Nat := 0
def PySem.W.Fast.tw8975044277388236813 : Nat := 0
def PySem.W.Fast.tw10309439826010876431 : Nat := 0
def PySem.W.Fast.tw15588308479346893459 : Nat := 0
def PySem.W.Fast.tw17447542047229550331 : Nat := 0
def PySem.W.Fast.tw8514992660663643045 : Nat := 0
def PySem.W.Fast.tw7290206588761484313 : Nat := 0
def PySem.W.Fast.tw1941815650828700049 : Nat := 0
def PySem.W.Fast.tw8459021030833319347 : Nat := 0
def PySem.W.Fast.tw3227855313777048654 : Nat := 0
def PySem.W.Fast.tw1556448593984135800 : Nat := 0
def PySem.W.Fast.tw7718667605483430814 : Nat := 0
def PySem.W.Fast.tw11397826571444928721 : Nat := 0
def PySem.W.Fast.tw12245785160231544331 : Nat := 0
def PySem.W.Fast.tw3286731427578400638 : Nat := 0
def PySem.W.Fast.tw7227233205036532207 : Nat := 0
def PySem.W.Fast.tw4543636465027669540 : Nat := 0
def PySem.W.Fast.tw3529454541348453324 : Nat := 0
def PySem.W.Fast.tw10522372816912855959 : Nat := 0
def PySem.W.Fast.tw6238842710111149553 : Nat := 0
def PySem.W.Fast.tw6190127939119044251 : Nat := 0
def PySem.W.Fast.tw9893860902450477109 : Nat := 0
def PySem.W.Fast.tw17842942126554443123 : Nat := 0
def PySem.W.Fast.tw112225664046185577 : Nat := 0
def PySem.W.Fast.tw7538178440228869715 : Nat := 0
def PySem.W.Fast.tw13547418575971349518 : Nat := 0
def PySem.W.Fast.tw1287280337041678699 : Nat := 0
def PySem.W.Fast.tw4700420520654298412 : Nat := 0
def PySem.W.Fast.tw9949284023090997385 : Nat := 0
def PySem.W.Fast.tw10287052969990784558 : Nat := 0
def PySem.W.Fast.tw16331341764064780244 : Nat := 0
def PySem.W.Fast.tw4545504117703665606 : Nat := 0
def PySem.W.Fast.tw12735572986242974454 : Nat := 0
def PySem.W.Fast.tw17912058611680878857 : Nat := 0
def PySem.W.Fast.tw14346307597854811335 : Nat := 0
def PySem.W.Fast.tw11500831772423126262 : Nat := 0
def PySem.W.Fast.tw15015557064979987792 : Nat := 0
def PySem.W.Fast.tw12902742955742146417 : Nat := 0
def PySem.W.Fast.tw4825535422813495849 : Nat := 0
def PySem.W.Fast.tw9909698255065160626 : Nat := 0
def PySem.W.Fast.tw15516382444705181942 : Nat := 0
def PySem.W.Fast.tw5894551340546475264 : Nat := 0
def PySem.W.Fast.tw5937227697071135370 : Nat := 0
def PySem.W.Fast.tw17646381216505664386 : Nat := 0
def PySem.W.Fast.tw18022177207933897983 : Nat := 0
def PySem.W.Fast.tw3366084373152758451 : Nat := 0
def PySem.W.Fast.tw4428061892600893240 : Nat := 0
def PySem.W.Fast.tw937359792404395300 : Nat := 0
def PySem.W.Fast.tw15487843365150374814 : Nat := 0
def PySem.W.Fast.tw13199108329316118437 : Nat := 0
def PySem.W.Fast.tw8280687484815024245 : Nat := 0
def PySem.W.Fast.tw5791648995705431527 : Nat := 0
def PySem.W.Fast.tw4628016308134465481 : Nat := 0
def PySem.W.Fast.tw7713102398232292219 : Nat := 0
def PySem.W.Fast.tw14194865131141079912 : Nat := 0
def PySem.W.Fast.tw14965138524402837591 : Nat := 0
def PySem.W.Fast.tw6151204061489037192 : Nat := 0
def PySem.W.Fast.tw14260456336831823045 : Nat := 0
def PySem.W.Fast.tw5294417732337454868 : Nat := 0
def PySem.W.Fast.tw4904510355598485155 : Nat := 0
def PySem.W.Fast.tw5864003677751950256 : Nat := 0
def PySem.W.Fast.tw6642478409401175749 : Nat := 0
def PySem.W.Fast.tw910020402545023505 : Nat := 0
def PySem.W.Fast.tw7734281202355052529 : Nat := 0
def PySem.W.Fast.tw2112189989627100725 : Nat := 0
def PySem.W.Fast.tw4991188317466419684 : Nat := 0
def PySem.W.Fast.tw7929481597869160106 : Nat := 0
def PySem.W.Fast.tw4295318581407826977 : Nat := 0
def PySem.W.Fast.tw6406856156559756991 : Nat := 0
def PySem.W.Fast.tw14209919358221144480 : Nat := 0
def PySem.W.Fast.tw12643887034064202543 : Nat := 0
def PySem.W.Fast.tw15973510321204877722 : Nat := 0
def PySem.W.Fast.tw17951788394682864216 : Nat := 0
def PySem.W.Fast.tw12376773331853329523 : Nat := 0
def PySem.W.Fast.tw3304175074737022430 : Nat := 0
def PySem.W.Fast.tw5639390285158618873 : Nat := 0
def PySem.W.Fast.tw8294498460678395866 : Nat := 0
def PySem.W.Fast.tw4039650257787991860 : Nat := 0
def PySem.W.Fast.tw16092386555864924528 : Nat := 0
def PySem.W.Fast.tw2508993313340495097 : Nat := 0
def PySem.W.Fast.tw16490194562492820749 : Nat := 0
def PySem.W.Fast.tw17669028129937044232 : Nat := 0
def PySem.W.Fast.tw7636905193217781814 : Nat := 0
def PySem.W.Fast.tw17301776009203003452 : Nat := 0
def PySem.W.Fast.tw7808839274470633148 : Nat := 0
def PySem.W.Fast.tw15434551591655541814 : Nat := 0
def PySem.W.Fast.tw14942232018526403558 : Nat := 0
def PySem.W.Fast.tw6948815596388773124 : Nat := 0
def PySem.W.Fast.tw16598098011502477252 : Nat := 0
def PySem.W.Fast.tw1201398364925302267 : Nat := 0
def PySem.W.Fast.tw14156534240193596176 : Nat := 0
def PySem.W.Fast.tw17937982405546796897 : Nat := 0
def PySem.W.Fast.tw5224626737163122074 : Nat := 0
def PySem.W.Fast.tw13767085230505149809 : Nat := 0
def PySem.W.Fast.tw7770535545581740231 : Nat := 0
def PySem.W.Fast.tw732986108769935059 : Nat := 0
def PySem.W.Fast.tw17330003872458808274 : Nat := 0
def PySem.W.Fast.tw16976214755442633987 : Nat := 0
def PySem.W.Fast.tw792789433932638353 : Nat := 0
def PySem.W.Fast.tw14107125872453546611 : Nat := 0
def PySem.W.Fast.tw8050084468481924687 : Nat := 0
def PySem.W.Fast.tw12992515554071790435 : Nat := 0
def PySem.W.Fast.tw946028862963327518 : Nat := 0
def PySem.W.Fast.tw10732936402313064630 : Nat := 0
def PySem.W.Fast.tw7915585713506492511 : Nat := 0
def PySem.W.Fast.tw2324597119447071464 : Nat := 0
def PySem.W.Fast.tw2332632449320990422 : Nat := 0
def PySem.W.Fast.tw4044661519669013396 : Nat := 0
def PySem.W.Fast.tw11861982163058277652 : Nat := 0
def PySem.W.Fast.tw9773125037786239863 : Nat := 0
def PySem.W.Fast.tw6569590525528450620 : Nat := 0
def PySem.W.Fast.tw4022359363452361098 : Nat := 0
def PySem.W.Fast.tw15923774018023870156 : Nat := 0
def PySem.W.Fast.tw9052218811270806916 : Nat := 0
def PySem.W.Fast.tw4270344484871926835 : Nat := 0
def PySem.W.Fast.tw16476340508819048507 : Nat := 0
def PySem.W.Fast.tw3305386091303965877 : Nat := 0
def PySem.W.Fast.tw11268883583228158413 : Nat := 0
def PySem.W.Fast.tw9239174386632874206 : Nat := 0
def PySem.W.Fast.tw968134947583288503 : Nat := 0
def PySem.W.Fast.tw9054948232275700560 : Nat := 0
def PySem.W.Fast.tw13742978625415703267 : Nat := 0
def PySem.W.Fast.tw14555321237136192747 : Nat := 0
def PySem.W.Fast.tw14141660425052711081 : Nat := 0
def PySem.W.Fast.tw2731371057462928401 : Nat := 0
def PySem.W.Fast.tw16672782931133393270 : Nat := 0
def PySem.W.Fast.tw9974671415245711629 : Nat := 0
def PySem.W.Fast.tw16969535359203678415 : Nat := 0
def PySem.W.Fast.tw16431143752052040505 : Nat := 0
def PySem.W.Fast.tw6072125048113506904 : Nat := 0
def PySem.W.Fast.tw8728013652703431014 : Nat := 0
def PySem.W.Fast.tw4721287509721532380 : Nat := 0
def PySem.W.Fast.tw578386051015842442 : Nat := 0
def PySem.W.Fast.tw15658474306902732863 : Nat := 0
def PySem.W.Fast.tw13539900414653687643 : Nat := 0
def PySem.W.Fast.tw9144916713905449711 : Nat := 0
def PySem.W.Fast.tw9644243020211863127 : Nat := 0
def PySem.W.Fast.tw2869742544050767080 : Nat := 0
def PySem.W.Fast.tw8873905048983586163 : Nat := 0
def PySem.W.Fast.tw10639277553152568214 : Nat := 0
def PySem.W.Fast.tw18088282130066248640 : Nat := 0
def PySem.W.Fast.tw17183548363091752358 : Nat := 0
def PySem.W.Fast.tw14630145293090574453 : Nat := 0
def PySem.W.Fast.tw5296650272335845930 : Nat := 0
def PySem.W.Fast.tw2439814321700184426 : Nat := 0
def PySem.W.Fast.tw9736932775086389114 : Nat := 0
def PySem.W.Fast.tw17159482302321870755 : Nat := 0
def PySem.W.Fast.tw26895955466823063 : Nat := 0
def PySem.W.Fast.tw1620693290792626580 : Nat := 0
def PySem.W.Fast.tw11643165108778021642 : Nat := 0
def PySem.W.Fast.tw15634511179030461345 : Nat := 0
def PySem.W.Fast.tw11645341165738538199 : Nat := 0
def PySem.W.Fast.tw378966670648239010 : Nat := 0
def PySem.W.Fast.tw4592007338097159483 : Nat := 0
def PySem.W.Fast.tw7967835760720714996 : Nat := 0
def PySem.W.Fast.tw12671842640219785096 : Nat := 0
def PySem.W.Fast.tw13382636819419074342 : Nat := 0
def PySem.W.Fast.tw16092867123653535593 : Nat := 0
def PySem.W.Fast.tw13279879427013993717 : Nat := 0
def PySem.W.Fast.tw12685405435596327009 : Nat := 0
def PySem.W.Fast.tw9810405313981292163 : Nat := 0
def PySem.W.Fast.tw11415766974024494032 : Nat := 0
def PySem.W.Fast.tw1465230796611285631 : Nat := 0
def PySem.W.Fast.tw12471387259925563225 : Nat := 0
def PySem.W.Fast.tw11232883662041383898 : Nat := 0
def PySem.W.Fast.tw5356767691808166278 : Nat := 0
def PySem.W.Fast.tw6603197008370354586 : Nat := 0
def PySem.W.Fast.tw7698146690897965799 : Nat := 0
def PySem.W.Fast.tw17545213341705486006 : Nat := 0
def PySem.W.Fast.tw10993611214041020515 : Nat := 0
def PySem.W.Fast.tw15425964584999759575 : Nat := 0
def PySem.W.Fast.tw17295350735753849557 : Nat := 0
def PySem.W.Fast.tw12341034861774135074 : Nat := 0
def PySem.W.Fast.tw17220500038523595453 : Nat := 0
def PySem.W.Fast.tw17644568452953599819 : Nat := 0
def PySem.W.Fast.tw6394886714768438550 : Nat := 0
def PySem.W.Fast.tw260211235996409225 : Nat := 0
def PySem.W.Fast.tw9864706850249034570 : Nat := 0
def PySem.W.Fast.tw2832965104039598295 : Nat := 0
def PySem.W.Fast.tw17645778000262283552 : Nat := 0
def PySem.W.Fast.tw7492094926076134846 : Nat := 0
def PySem.W.Fast.tw3193381256348705841 : Nat := 0
def PySem.W.Fast.tw429102940348793459 : Nat := 0
def PySem.W.Fast.tw17838258220704091541 : Nat := 0
def PySem.W.Fast.tw6525940681512015289 : Nat := 0
def PySem.W.Fast.tw11690949105718846763 : Nat := 0
def PySem.W.Fast.tw14093851296213374283 : Nat := 0
def PySem.W.Fast.tw727393811653763081 : Nat := 0
def PySem.W.Fast.tw8362320187740856365 : Nat := 0
def PySem.W.Fast.tw141641780165057326 : Nat := 0
def PySem.W.Fast.tw12608692590729482375 : Nat := 0
def PySem.W.Fast.tw3574369239709981906 : Nat := 0
def PySem.W.Fast.tw9545155549672869395 : Nat := 0
def PySem.W.Fast.tw2261076242277227353 : Nat := 0
def PySem.W.Fast.tw8560868201520282446 : Nat := 0
def PySem.W.Fast.tw9662838063687474551 : Nat := 0
def PySem.W.Fast.tw13551972289363756472 : Nat := 0
def PySem.W.Fast.tw1217047287656626756 : Nat := 0
def PySem.W.Fast.tw12363659583996335977 : Nat := 0
def PySem.W.Fast.tw1398085744005585230 : Nat := 0
def PySem.W.Fast.tw15399240941097021781 : Nat := 0
def PySem.W.Fast.tw17982047325390264933 : Nat := 0
def PySem.W.Fast.tw15653166911632005599 : Nat := 0
def PySem.W.Fast.tw13875717859563585880 : Nat := 0
def PySem.W.Fast.tw939903339969443157 : Nat := 0
def PySem.W.Fast.tw15247216915595858444 : Nat := 0
def PySem.W.Fast.tw8177820474740906095 : Nat := 0
def PySem.W.Fast.tw9330612728767501597 : Nat := 0
def PySem.W.Fast.tw7514461863307603884 : Nat := 0
def PySem.W.Fast.tw1655234631151176393 : Nat := 0
def PySem.W.Fast.tw4423543793168275775 : Nat := 0
def PySem.W.Fast.tw10145893462851573845 : Nat := 0
def PySem.W.Fast.tw203077137435300732 : Nat := 0
def PySem.W.Fast.tw18438489014788148696 : Nat := 0
def PySem.W.Fast.tw15971197027420979430 : Nat := 0
def PySem.W.Fast.tw11431202950286654111 : Nat := 0
def PySem.W.Fast.tw4364470560875285531 : Nat := 0
def PySem.W.Fast.tw14605523231842253377 : Nat := 0
def PySem.W.Fast.tw3345974578740966257 : Nat := 0
def PySem.W.Fast.tw7384203773637257462 : Nat := 0
def PySem.W.Fast.tw4353760577793646975 : Nat := 0
def PySem.W.Fast.tw16573133895577398828 : Nat := 0
def PySem.W.Fast.tw5955640554683486574 : Nat := 0
def PySem.W.Fast.tw6979698940191264321 : Nat := 0
def PySem.W.Fast.tw9304550398994302453 : Nat := 0
def PySem.W.Fast.tw4117690035742417578 : Nat := 0
def PySem.W.Fast.tw18049049539538587515 : Nat := 0
def PySem.W.Fast.tw17866901397555212819 : Nat := 0
def PySem.W.Fast.tw3900552982401390160 : Nat := 0
def PySem.W.Fast.tw13532902552760540811 : Nat := 0
def PySem.W.Fast.tw267786528295036315 : Nat := 0
def PySem.W.Fast.tw5865004985097720831 : Nat := 0
def PySem.W.Fast.tw7158596116270320558 : Nat := 0
def PySem.W.Fast.tw7569010817509887188 : Nat := 0
def PySem.W.Fast.tw6092687206688683046 : Nat := 0
def PySem.W.Fast.tw946124468338131638 : Nat := 0
def PySem.W.Fast.tw6602796823741475249 : Nat := 0
def PySem.W.Fast.tw15092802867200339163 : Nat := 0
def PySem.W.Fast.tw16747612075876069294 : Nat := 0
def PySem.W.Fast.tw2962927541052079639 : Nat := 0
def PySem.W.Fast.tw17841543154473618508 : Nat := 0
def PySem.W.Fast.tw14795301379050868581 : Nat := 0
def PySem.W.Fast.tw14204583001709666151 : Nat := 0
def PySem.W.Fast.tw2715696060062153513 : Nat := 0
def PySem.W.Fast.tw11826690264155039277 : Nat := 0
def PySem.W.Fast.tw7698853743175793745 : Nat := 0
def PySem.W.Fast.tw7645328962076973396 : Nat := 0
def PySem.W.Fast.tw12515358738103499163 : Nat := 0
def PySem.W.Fast.tw10683160582114599096 : Nat := 0
def PySem.W.Fast.tw9146944413295844355 : Nat := 0
def PySem.W.Fast.tw4643814740230616514 : Nat := 0
def PySem.W.Fast.tw1438802541118505303 : Nat := 0
def PySem.W.Fast.tw14190926806318278208 : Nat := 0
def PySem.W.Fast.tw13973939358959749661 : Nat := 0
def PySem.W.Fast.tw2883959270419241438 : Nat := 0
def PySem.W.Fast.tw14418227269991379421 : Nat := 0
def PySem.W.Fast.tw15153327480030130648 : Nat := 0
def PySem.W.Fast.tw6974712011163559486 : Nat := 0
def PySem.W.Fast.tw4804646394945758144 : Nat := 0
def PySem.W.Fast.tw17141780456165952952 : Nat := 0
def PySem.W.Fast.tw1186965360839139134 : Nat := 0
def PySem.W.Fast.tw5298863749061408914 : Nat := 0
def PySem.W.Fast.tw16128361594692565430 : Nat := 0
def PySem.W.Fast.tw8236109828592206243 : Nat := 0
def PySem.W.Fast.tw12143040447188632884 : Nat := 0
def PySem.W.Fast.tw15523760764622940958 : Nat := 0
def PySem.W.Fast.tw11940171735180879494 : Nat := 0
def PySem.W.Fast.tw2177430879988666553 : Nat := 0
def PySem.W.Fast.tw15883493787763108403 : Nat := 0
def PySem.W.Fast.tw10834317839926702339 : Nat := 0
def PySem.W.Fast.tw12446598112416368068 : Nat := 0
def PySem.W.Fast.tw3485362031325221497 : Nat := 0
def PySem.W.Fast.tw13031713654301273984 : Nat := 0
def PySem.W.Fast.tw12894082706258152575 : Nat := 0
def PySem.W.Fast.tw1145985745025441930 : Nat := 0
def PySem.W.Fast.tw10099504943473256703 : Nat := 0
def PySem.W.Fast.tw2438015073553507801 : Nat := 0
def PySem.W.Fast.tw1153507082989933695 : Nat := 0
def PySem.W.Fast.tw5603066572123186590 : Nat := 0
def PySem.W.Fast.tw18238716815783181058 : Nat := 0
def PySem.W.Fast.tw13737378880485050754 : Nat := 0
def PySem.W.Fast.tw11150248757364504931 : Nat := 0
def PySem.W.Fast.tw7475950777314797663 : Nat := 0
def PySem.W.Fast.tw16726900160382140046 : Nat := 0
def PySem.W.Fast.tw2561703254569836409 : Nat := 0
def PySem.W.Fast.tw15047777722465409660 : Nat := 0
def PySem.W.Fast.tw15691473744731016948 : Nat := 0
def PySem.W.Fast.tw4829770763944853454 : Nat := 0
def PySem.W.Fast.tw514629221432355373 : Nat := 0
def PySem.W.Fast.tw13038943423479107796 : Nat := 0
def PySem.W.Fast.tw4200560079348180239 : Nat := 0
def PySem.W.Fast.tw2913505618575716 : Nat := 0
def PySem.W.Fast.tw16983487940080243295 : Nat := 0
def PySem.W.Fast.tw11636580906198558696 : Nat := 0
def PySem.W.Fast.tw3291564121695913159 : Nat := 0
def PySem.W.Fast.tw11901073304013520109 : Nat := 0
def PySem.W.Fast.tw12075730505817005076 : Nat := 0
def PySem.W.Fast.tw12547611875441213528 : Nat := 0
def PySem.W.Fast.tw5328429609617808002 : Nat := 0
def PySem.W.Fast.tw2572772408147856901 : Nat := 0
def PySem.W.Fast.tw5965441214400711959 : Nat := 0
def PySem.W.Fast.tw13288362750222859524 : Nat := 0
def PySem.W.Fast.tw9333177299145399310 : Nat := 0
def PySem.W.Fast.tw5292710223099812416 : Nat := 0
def PySem.W.Fast.tw18075289330983598865 : Nat := 0
def PySem.W.Fast.tw4665370193135675049 : Nat := 0
def PySem.W.Fast.tw5999757352727747746 : Nat := 0
def PySem.W.Fast.tw11229831548370907207 : Nat := 0
def PySem.W.Fast.tw15946238535378856585 : Nat := 0
def PySem.W.Fast.tw15567102566210992412 : Nat := 0
def PySem.W.Fast.tw18060077820962732939 : Nat := 0
def PySem.W.Fast.tw5204696802619938552 : Nat := 0
def PySem.W.Fast.tw11207802242594341216 : Nat := 0
def PySem.W.Fast.tw8415144850984409830 : Nat := 0
def PySem.W.Fast.tw17744531069013950336 : Nat := 0
def PySem.W.Fast.tw10516707985976285663 : Nat := 0
def PySem.W.Fast.tw6272903547546593021 : Nat := 0
def PySem.W.Fast.tw15459817212165100758 : Nat := 0
def PySem.W.Fast.tw2740387077034722221 : Nat := 0
def PySem.W.Fast.tw12524116638620969687 : Nat := 0
def PySem.W.Fast.tw2373280226636813302 : Nat := 0
def PySem.W.Fast.tw5911574762137356946 : Nat := 0
def PySem.W.Fast.tw6528349427964880882 : Nat := 0
def PySem.W.Fast.tw12648870527849894338 : Nat := 0
def PySem.W.Fast.tw4346863139831165510 : Nat := 0
def PySem.W.Fast.tw5130098904791956688 : Nat := 0
def PySem.W.Fast.tw4688314012964973328 : Nat := 0
def PySem.W.Fast.tw858323502972746648 : Nat := 0
def PySem.W.Fast.tw8543553197645996890 : Nat := 0
def PySem.W.Fast.tw11709652444476958901 : Nat := 0
def PySem.W.Fast.tw15334351908602016764 : Nat := 0
def PySem.W.Fast.tw163015043757151866 : Nat := 0
def PySem.W.Fast.tw4869133809389632715 : Nat := 0
def PySem.W.Fast.tw6269222239473021071 : Nat := 0
def PySem.W.Fast.tw11295077400947015714 : Nat := 0
def PySem.W.Fast.tw18212223458879415243 : Nat := 0
def PySem.W.Fast.tw11775096234125700317 : Nat := 0
def PySem.W.Fast.tw504573434237076227 : Nat := 0
def PySem.W.Fast.tw14831914618802044423 : Nat := 0
def PySem.W.Fast.tw8138207994322400568 : Nat := 0
def PySem.W.Fast.tw3935562713069052557 : Nat := 0
def PySem.W.Fast.tw394734773754011849 : Nat := 0
def PySem.W.Fast.tw17538357679925095652 : Nat := 0
def PySem.W.Fast.tw6983508385327192106 : Nat := 0
def PySem.W.Fast.tw12259380096363556710 : Nat := 0
def PySem.W.Fast.tw6158443643720460989 : Nat := 0
def PySem.W.Fast.tw15487812707147371112 : Nat := 0
def PySem.W.Fast.tw8631476273020481272 : Nat := 0
def PySem.W.Fast.tw312752826358908619 : Nat := 0
def PySem.W.Fast.tw4541234278699603211 : Nat := 0
def PySem.W.Fast.tw11053938908019653676 : Nat := 0
def PySem.W.Fast.tw2365343069602429390 : Nat := 0
def PySem.W.Fast.tw3284375415798736943 : Nat := 0
def PySem.W.Fast.tw12410639939219365429 : Nat := 0
def PySem.W.Fast.tw9543824416751756791 : Nat := 0
def PySem.W.Fast.tw18082608675526884874 : Nat := 0
def PySem.W.Fast.tw4863268881272474785 : Nat := 0
def PySem.W.Fast.tw16063002120387868549 : Nat := 0
def PySem.W.Fast.tw1009550101131574225 : Nat := 0
def PySem.W.Fast.tw13784362097343419476 : Nat := 0
def PySem.W.Fast.tw4948857002497644370 : Nat := 0
def PySem.W.Fast.tw1752023549672593969 : Nat := 0
def PySem.W.Fast.tw5863398454649798112 : Nat := 0
def PySem.W.Fast.tw16859089457733178153 : Nat := 0
def PySem.W.Fast.tw2133749459731113268 : Nat := 0
def PySem.W.Fast.tw591986609128656187 : Nat := 0
def PySem.W.Fast.tw14977657850379128735 : Nat := 0
def PySem.W.Fast.tw5465137647513061763 : Nat := 0
def PySem.W.Fast.tw10254493788532677163 : Nat := 0
def PySem.W.Fast.tw3786603905985973535 : Nat := 0
def PySem.W.Fast.tw4334633159554980310 : Nat := 0
def PySem.W.Fast.tw4268878418179031351 : Nat := 0
def PySem.W.Fast.tw3786075717587033208 : Nat := 0
def PySem.W.Fast.tw17047451428369836268 : Nat := 0
def PySem.W.Fast.tw12452874854254207830 : Nat := 0
def PySem.W.Fast.tw18361363129209006991 : Nat := 0
def PySem.W.Fast.tw16518497530410609859 : Nat := 0
def PySem.W.Fast.tw11939690674233637350 : Nat := 0
def PySem.W.Fast.tw11420274226128046346 : Nat := 0
def PySem.W.Fast.tw4636273386473416919 : Nat := 0
def PySem.W.Fast.tw13074186026776540432 : Nat := 0
def PySem.W.Fast.tw370863674107457820 : Nat := 0
def PySem.W.Fast.tw13250618760296648069 : Nat := 0
def PySem.W.Fast.tw5518058657411692026 : Nat := 0
def PySem.W.Fast.tw16858877201185121986 : Nat := 0
def PySem.W.Fast.tw11601779478584324135 : Nat := 0
def PySem.W.Fast.tw4656224793513945892 : Nat := 0
def PySem.W.Fast.tw3506068563250926394 : Nat := 0
def PySem.W.Fast.tw18118330258869775039 : Nat := 0
def PySem.W.Fast.tw4632123241291917129 : Nat := 0
def PySem.W.Fast.tw14911283124602581481 : Nat := 0
def PySem.W.Fast.tw13329137469254451180 : Nat := 0
def PySem.W.Fast.tw2913989740216683946 : Nat := 0
def PySem.W.Fast.tw11615417088211098837 : Nat := 0
def PySem.W.Fast.tw1910398730840980946 : Nat := 0
def PySem.W.Fast.tw7472986062448819389 : Nat := 0
def PySem.W.Fast.tw7323723932713084509 : Nat := 0
def PySem.W.Fast.tw10121041175888591320 : Nat := 0
def PySem.W.Fast.tw15307449765540720742 : Nat := 0
def PySem.W.Fast.tw13077801314674456592 : Nat := 0
def PySem.W.Fast.tw15719307108979037339 : Nat := 0
def PySem.W.Fast.tw7187529783252881731 : Nat := 0
def PySem.W.Fast.tw14104174943920583306 : Nat := 0
def PySem.W.Fast.tw566643877880542499 : Nat := 0
def PySem.W.Fast.tw11522874072575148794 : Nat := 0
def PySem.W.Fast.tw12853842374899361736 : Nat := 0
def PySem.W.Fast.tw12469518804624787261 : Nat := 0
def PySem.W.Fast.tw12621215577142881009 : Nat := 0
def PySem.W.Fast.tw14575563913113012120 : Nat := 0
def PySem.W.Fast.tw16629089467241906223 : Nat := 0
def PySem.W.Fast.tw14180906189565670362 : Nat := 0
def PySem.W.Fast.tw8934205866696526803 : Nat := 0
def PySem.W.Fast.tw6143690480126257882 : Nat := 0
def PySem.W.Fast.tw1921913475485048921 : Nat := 0
def PySem.W.Fast.tw8229921536133397571 : Nat := 0
def PySem.W.Fast.tw17026578695627177401 : Nat := 0
def PySem.W.Fast.tw7397473201984022520 : Nat := 0
def PySem.W.Fast.tw13801680799071195201 : Nat := 0
def PySem.W.Fast.tw16175658997258306863 : Nat := 0
def PySem.W.Fast.tw16184780537512591869 : Nat := 0
def PySem.W.Fast.tw14644231261412702176 : Nat := 0
def PySem.W.Fast.tw3812817742898578780 : Nat := 0
def PySem.W.Fast.tw1127505634263646616 : Nat := 0
def PySem.W.Fast.tw15360052711494540259 : Nat := 0
def PySem.W.Fast.tw4557532209841551167 : Nat := 0
def PySem.W.Fast.tw15514002534673594107 : Nat := 0
def PySem.W.Fast.tw7411114306541051281 : Nat := 0
def PySem.W.Fast.tw15426573348535973226 : Nat := 0
def PySem.W.Fast.tw15588042228049094688 : Nat := 0
def PySem.W.Fast.tw16836842991814246601 : Nat := 0
def PySem.W.Fast.tw17018651437554709794 : Nat := 0
def PySem.W.Fast.tw4486950928458918762 : Nat := 0
def PySem.W.Fast.tw2806049153563942095 : Nat := 0
def PySem.W.Fast.tw4178214398160268840 : Nat := 0
def PySem.W.Fast.tw2030276533491641076 : Nat := 0
def PySem.W.Fast.tw17226054597307811753 : Nat := 0
def PySem.W.Fast.tw7186163811980128561 : Nat := 0
def PySem.W.Fast.tw1215021750274370856 : Nat := 0
def PySem.W.Fast.tw11170314510340730824 : Nat := 0
def PySem.W.Fast.tw6620625215108751166 : Nat := 0
def PySem.W.Fast.tw8451688026615158837 : Nat := 0
def PySem.W.Fast.tw12692505291022645666 : Nat := 0
def PySem.W.Fast.tw1733236008731088734 : Nat := 0
def PySem.W.Fast.tw14508126550081324237 : Nat := 0
def PySem.W.Fast.tw12823915725137278164 : Nat := 0
def PySem.W.Fast.tw10648090296629042669 : Nat := 0
def PySem.W.Fast.tw8383477422032388132 : Nat := 0
def PySem.W.Fast.tw336777876189691811 : Nat := 0
def PySem.W.Fast.tw13743588109136853576 : Nat := 0
def PySem.W.Fast.tw770302130217392679 : Nat := 0
def PySem.W.Fast.tw5007916357533480215 : Nat := 0
def PySem.W.Fast.tw3426252480437564354 : Nat := 0
def PySem.W.Fast.tw12808178699360383080 : Nat := 0
def PySem.W.Fast.tw2879623747270320290 : Nat := 0
def PySem.W.Fast.tw12506408138547803839 : Nat := 0
def PySem.W.Fast.tw2118701580302852276 : Nat := 0
def PySem.W.Fast.tw549541331638985083 : Nat := 0
def PySem.W.Fast.tw537088685897365746 : Nat := 0
def PySem.W.Fast.tw14075815147669653127 : Nat := 0
def PySem.W.Fast.tw1175002688953377986 : Nat := 0
def PySem.W.Fast.tw14745361202831595247 : Nat := 0
def PySem.W.Fast.tw9885460236927592909 : Nat := 0
def PySem.W.Fast.tw10246709972435274695 : Nat := 0
def PySem.W.Fast.tw6637673419694366707 : Nat := 0
def PySem.W.Fast.tw10499396290392833843 : Nat := 0
def PySem.W.Fast.tw76000109688441338 : Nat := 0
def PySem.W.Fast.tw1553511503653114146 : Nat := 0
def PySem.W.Fast.tw15737073203992995308 : Nat := 0
def PySem.W.Fast.tw611235525834763909 : Nat := 0
def PySem.W.Fast.tw8817869498126156488 : Nat := 0
def PySem.W.Fast.tw13922549540190192108 : Nat := 0
def PySem.W.Fast.tw9942626783840677799 : Nat := 0
def PySem.W.Fast.tw9833803908029884300 : Nat := 0
def PySem.W.Fast.tw2164128544992939166 : Nat := 0
def PySem.W.Fast.tw13792888830773431228 : Nat := 0
def PySem.W.Fast.tw8408590834771056396 : Nat := 0
def PySem.W.Fast.tw2468014822185576423 : Nat := 0
def PySem.W.Fast.tw1413356553405207862 : Nat := 0
def PySem.W.Fast.tw15445117072976298102 : Nat := 0
def PySem.W.Fast.tw5478077382253567309 : Nat := 0
def PySem.W.Fast.tw18068857387317455360 : Nat := 0
def PySem.W.Fast.tw13500066372790672482 : Nat := 0
def PySem.W.Fast.tw15959150825933943438 : Nat := 0
def PySem.W.Fast.tw3837747356830602303 : Nat := 0
def PySem.W.Fast.tw14841320019196639465 : Nat := 0
def PySem.W.Fast.tw5811739743514207134 : Nat := 0
def PySem.W.Fast.tw6947264068041480653 : Nat := 0
def PySem.W.Fast.tw4514138531401798744 : Nat := 0
def PySem.W.Fast.tw18415461312595892409 : Nat := 0
def PySem.W.Fast.tw8730453919776647008 : Nat := 0
def PySem.W.Fast.tw14462071876367434137 : Nat := 0
def PySem.W.Fast.tw17252441757788270935 : Nat := 0
def PySem.W.Fast.tw11771998524979878866 : Nat := 0
def PySem.W.Fast.tw9562270597927161874 : Nat := 0
def PySem.W.Fast.tw13817175891571465582 : Nat := 0
def PySem.W.Fast.tw2463114253227237133 : Nat := 0
def PySem.W.Fast.tw10538778167405407871 : Nat := 0
def PySem.W.Fast.tw8274553225577116377 : Nat := 0
def PySem.W.Fast.tw12867829388291497516 : Nat := 0
def PySem.W.Fast.tw13499710024077350322 : Nat := 0
def PySem.W.Fast.tw11324002238449124573 : Nat := 0
def PySem.W.Fast.tw18396220728081676185 : Nat := 0
def PySem.W.Fast.tw13661812180032779432 : Nat := 0
def PySem.W.Fast.tw13858160625358733708 : Nat := 0
def PySem.W.Fast.tw7312454121648476356 : Nat := 0
def PySem.W.Fast.tw16931499766922714565 : Nat := 0
def PySem.W.Fast.tw5444529025947487565 : Nat := 0
def PySem.W.Fast.tw2893398097771328939 : Nat := 0
def PySem.W.Fast.tw6672370818633664616 : Nat := 0
def PySem.W.Fast.tw4170783897073048514 : Nat := 0
def PySem.W.Fast.tw8307887595529018580 : Nat := 0
def PySem.W.Fast.tw18360600168233928147 : Nat := 0
def PySem.W.Fast.tw9306503813247835117 : Nat := 0
def PySem.W.Fast.tw1445672543642536292 : Nat := 0
def PySem.W.Fast.tw4523568769128618469 : Nat := 0
def PySem.W.Fast.tw17112492210059281649 : Nat := 0
def PySem.W.Fast.tw5075430340891800518 : Nat := 0
def PySem.W.Fast.tw2686943787953553411 : Nat := 0
def PySem.W.Fast.tw5858953491492269685 : Nat := 0
def PySem.W.Fast.tw14021821075907826684 : Nat := 0
def PySem.W.Fast.tw12684810228116810769 : Nat := 0
def PySem.W.Fast.tw3923488378069546348 : Nat := 0
def PySem.W.Fast.tw4015187088361934898 : Nat := 0
def PySem.W.Fast.tw12695954203781186179 : Nat := 0
def PySem.W.Fast.tw2870961384442230265 : Nat := 0
def PySem.W.Fast.tw8349788537304408669 : Nat := 0
def PySem.W.Fast.tw570856348434941784 : Nat := 0
def PySem.W.Fast.tw6560189142037531067 : Nat := 0
def PySem.W.Fast.tw17549120811143057180 : Nat := 0
def PySem.W.Fast.tw3262001867948960144 : Nat := 0
def PySem.W.Fast.tw5334559008069707107 : Nat := 0
def PySem.W.Fast.tw1519116618420771720 : Nat := 0
def PySem.W.Fast.tw14373728951116804590 : Nat := 0
def PySem.W.Fast.tw18343992419703916343 : Nat := 0
def PySem.W.Fast.tw1723576436452685192 : Nat := 0
def PySem.W.Fast.tw3251403486878273525 : Nat := 0
def PySem.W.Fast.tw2254868085897362636 : Nat := 0
def PySem.W.Fast.tw8550821936873401071 : Nat := 0
def PySem.W.Fast.tw14139286276390060249 : Nat := 0
def PySem.W.Fast.tw16280147837471339609 : Nat := 0
def PySem.W.Fast.tw15548730397119352567 : Nat := 0
def PySem.W.Fast.tw17003969446555224309 : Nat := 0
def PySem.W.Fast.tw13652994207230754424 : Nat := 0
def PySem.W.Fast.tw6614924298977590983 : Nat := 0
def PySem.W.Fast.tw3066304429537743472 : Nat := 0
def PySem.W.Fast.tw9937509835628674542 : Nat := 0
def PySem.W.Fast.tw3619537484900219345 : Nat := 0
def PySem.W.Fast.tw5498564065488418411 : Nat := 0
def PySem.W.Fast.tw9936861848171155972 : Nat := 0
def PySem.W.Fast.tw17790473407716611760 : Nat := 0
def PySem.W.Fast.tw8987398544037410261 : Nat := 0
def PySem.W.Fast.tw7993152022316808689 : Nat := 0
def PySem.W.Fast.tw3839475070119275177 : Nat := 0
def PySem.W.Fast.tw17055557759197126023 : Nat := 0
def PySem.W.Fast.tw1679726319089528300 : Nat := 0
def PySem.W.Fast.tw17388939023729988121 : Nat := 0
def PySem.W.Fast.tw17774387324823880406 : Nat := 0
def PySem.W.Fast.tw10947710715595576110 : Nat := 0
def PySem.W.Fast.tw460274127350183202 : Nat := 0
def PySem.W.Fast.tw17284784071471690026 : Nat := 0
def PySem.W.Fast.tw415146337209802996 : Nat := 0
def PySem.W.Fast.tw3531414945031568506 : Nat := 0
def PySem.W.Fast.tw17631557471180786936 : Nat := 0
def PySem.W.Fast.tw17064963676866848733 : Nat := 0
def PySem.W.Fast.tw16617435642674006440 : Nat := 0
def PySem.W.Fast.tw9519188235619216329 : Nat := 0
def PySem.W.Fast.tw12640123133084930708 : Nat := 0
def PySem.W.Fast.tw15924881341193430144 : Nat := 0
def PySem.W.Fast.tw3464134949204801979 : Nat := 0
def PySem.W.Fast.tw673904129336601662 : Nat := 0
def PySem.W.Fast.tw10275824114186770832 : Nat := 0
def PySem.W.Fast.tw18328741924081750843 : Nat := 0
def PySem.W.Fast.tw9523765680485363564 : Nat := 0
def PySem.W.Fast.tw1163867234191774076 : Nat := 0
def PySem.W.Fast.tw17661318239328555595 : Nat := 0
def PySem.W.Fast.tw7930946244673399168 : Nat := 0
def PySem.W.Fast.tw8658375632401611273 : Nat := 0
def PySem.W.Fast.tw3394322160242822777 : Nat := 0
def PySem.W.Fast.tw3914771233604513471 : Nat := 0
def PySem.W.Fast.tw13111632639583977005 : Nat := 0
def PySem.W.Fast.tw996960359550085311 : Nat := 0
def PySem.W.Fast.tw4831636702872390377 : Nat := 0
def PySem.W.Fast.tw11766528399465648385 : Nat := 0
def PySem.W.Fast.tw16045694864418421083 : Nat := 0
def PySem.W.Fast.tw808697681315909170 : Nat := 0
def PySem.W.Fast.tw15315699894311822398 : Nat := 0
def PySem.W.Fast.tw12889771021652800016 : Nat := 0
def PySem.W.Fast.tw9968665186471289234 : Nat := 0
def PySem.W.Fast.tw17216216567463396361 : Nat := 0
def PySem.W.Fast.tw12488472610618318375 : Nat := 0
def PySem.W.Fast.tw6713128806440407950 : Nat := 0
def PySem.W.Fast.tw6732677101636928956 : Nat := 0
def PySem.W.Fast.tw13627958707711380803 : Nat := 0
def PySem.W.Fast.tw17150609623837322582 : Nat := 0
def PySem.W.Fast.tw2637919811933194810 : Nat := 0
def PySem.W.Fast.tw4791629405719850190 : Nat := 0
def PySem.W.Fast.tw7072454314798888697 : Nat := 0
def PySem.W.Fast.tw3156775592470241782 : Nat := 0
def PySem.W.Fast.tw3725292982412443672 : Nat := 0
def PySem.W.Fast.tw11855107495553900392 : Nat := 0
def PySem.W.Fast.tw11751248793031824856 : Nat := 0
def PySem.W.Fast.tw5072737935667668879 : Nat := 0
def PySem.W.Fast.tw984164391307468706 : Nat := 0
def PySem.W.Fast.tw1976361933779417931 : Nat := 0
def PySem.W.Fast.tw5150324263194500240 : Nat := 0
def PySem.W.Fast.tw1864501126255845722 : Nat := 0
def PySem.W.Fast.tw16350379054941745152 : Nat := 0
def PySem.W.Fast.tw9325904995010932082 : Nat := 0
def PySem.W.Fast.tw7475732692609125171 : Nat := 0
def PySem.W.Fast.tw10066490065123914281 : Nat := 0
def PySem.W.Fast.tw2834890835759983641 : Nat := 0
def PySem.W.Fast.tw14412625085466267120 : Nat := 0
def PySem.W.Fast.tw4954475641354547017 : Nat := 0
def PySem.W.Fast.tw11166197582006155036 : Nat := 0
def PySem.W.Fast.tw1089317405043472900 : Nat := 0
def PySem.W.Fast.tw6237696027860196800 : Nat := 0
def PySem.W.Fast.tw10041319927145356125 : Nat := 0
def PySem.W.Fast.tw3251360610116425803 : Nat := 0
def PySem.W.Fast.tw7332274853972400900 : Nat := 0
def PySem.W.Fast.tw15593580389267369583 : Nat := 0
def PySem.W.Fast.tw12437054635620571127 : Nat := 0
def PySem.W.Fast.tw16417061491093442662 : Nat := 0
def PySem.W.Fast.tw12889476884162005288 : Nat := 0
def PySem.W.Fast.tw15632425598899776869 : Nat := 0
def PySem.W.Fast.tw3790723676560828093 : Nat := 0
def PySem.W.Fast.tw13544122884362662756 : Nat := 0
def PySem.W.Fast.tw11898217899367326990 : Nat := 0
def PySem.W.Fast.tw7682859866716614139 : Nat := 0
def PySem.W.Fast.tw8667898790885980629 : Nat := 0
def PySem.W.Fast.tw12209126061594208364 : Nat := 0
def PySem.W.Fast.tw16389742011306857617 : Nat := 0
def PySem.W.Fast.tw5629349051365855641 : Nat := 0
def PySem.W.Fast.tw1948273290566743071 : Nat := 0
def PySem.W.Fast.tw17785574439721346729 : Nat := 0
def PySem.W.Fast.tw270239291884436529 : Nat := 0
def PySem.W.Fast.tw4459246241629567801 : Nat := 0
def PySem.W.Fast.tw6923915721006403911 : Nat := 0
def PySem.W.Fast.tw12684701195371624270 : Nat := 0
def PySem.W.Fast.tw17110025825100937035 : Nat := 0
def PySem.W.Fast.tw3591219546737257855 : Nat := 0
def PySem.W.Fast.tw14272754080348251256 : Nat := 0
def PySem.W.Fast.tw9988179911570043356 : Nat := 0
def PySem.W.Fast.tw14908268373613942627 : Nat := 0
def PySem.W.Fast.tw14765395781595474270 : Nat := 0
def PySem.W.Fast.tw2940972956321716127 : Nat := 0
def PySem.W.Fast.tw17779110859115636223 : Nat := 0
def PySem.W.Fast.tw1302316241460191784 : Nat := 0
def PySem.W.Fast.tw13452708029582717744 : Nat := 0
def PySem.W.Fast.tw5025615011014908302 : Nat := 0
def PySem.W.Fast.tw11920382997776299645 : Nat := 0
def PySem.W.Fast.tw1019632898523548611 : Nat := 0
def PySem.W.Fast.tw8142330510795407854 : Nat := 0
def PySem.W.Fast.tw2695704191446241992 : Nat := 0
def PySem.W.Fast.tw5532847076512829668 : Nat := 0
def PySem.W.Fast.tw9043484726654366519 : Nat := 0
def PySem.W.Fast.tw9194440233332617596 : Nat := 0
def PySem.W.Fast.tw9177297394748469187 : Nat := 0
def PySem.W.Fast.tw17698554202545616436 : Nat := 0
def PySem.W.Fast.tw1813792228900293484 : Nat := 0
def PySem.W.Fast.tw7590424698847346238 : Nat := 0
def PySem.W.Fast.tw13994832467887919684 : Nat := 0
def PySem.W.Fast.tw13172993032869231599 : Nat := 0
def PySem.W.Fast.tw4154770448365571797 : Nat := 0
def PySem.W.Fast.tw1021258292326553541 : Nat := 0
def PySem.W.Fast.tw88324801049655738 : Nat := 0
def PySem.W.Fast.tw17003654401214655083 : Nat := 0
def PySem.W.Fast.tw10254070033437464060 : Nat := 0
def PySem.W.Fast.tw18205599276488970577 : Nat := 0
def PySem.W.Fast.tw17986768891305368853 : Nat := 0
def PySem.W.Fast.tw15501560642470732668 : Nat := 0
def PySem.W.Fast.tw4130023430070371807 : Nat := 0
def PySem.W.Fast.tw7403580793534503521 : Nat := 0
def PySem.W.Fast.tw8418609417753088298 : Nat := 0
def PySem.W.Fast.tw6533544989089262076 : Nat := 0
def PySem.W.Fast.tw16027091922249561496 : Nat := 0
def PySem.W.Fast.tw13038340493434832784 : Nat := 0
def PySem.W.Fast.tw11955360696886751085 : Nat := 0
def PySem.W.Fast.tw2378520901418424362 : Nat := 0
def PySem.W.Fast.tw8018214954981590727 : Nat := 0
def PySem.W.Fast.tw18254338403426887757 : Nat := 0
def PySem.W.Fast.tw225338774547324232 : Nat := 0
def PySem.W.Fast.tw13641904729274910902 : Nat := 0
def PySem.W.Fast.tw1386118752364548880 : Nat := 0
def PySem.W.Fast.tw11190132608481565105 : Nat := 0
def PySem.W.Fast.tw6909961893030363511 : Nat := 0
def PySem.W.Fast.tw9182122137701144586 : Nat := 0
def PySem.W.Fast.tw6187014703420330526 : Nat := 0
def PySem.W.Fast.tw13017510903184752573 : Nat := 0
def PySem.W.Fast.tw15905782988124947579 : Nat := 0
def PySem.W.Fast.tw3331147333020834748 : Nat := 0
def PySem.W.Fast.tw10146758167258753485 : Nat := 0
def PySem.W.Fast.tw6090427239995777031 : Nat := 0
def PySem.W.Fast.tw13617847080622524335 : Nat := 0
def PySem.W.Fast.tw13582727454798457550 : Nat := 0
def PySem.W.Fast.tw5412509703275175003 : Nat := 0
def PySem.W.Fast.tw9965501361063622850 : Nat := 0
def PySem.W.Fast.tw11296139505740186009 : Nat := 0
def PySem.W.Fast.tw11149356543691977167 : Nat := 0
def PySem.W.Fast.tw4767548338252310255 : Nat := 0
def PySem.W.Fast.tw17379441996385576028 : Nat := 0
def PySem.W.Fast.tw7614284424272855753 : Nat := 0
def PySem.W.Fast.tw7905499371667593109 : Nat := 0
def PySem.W.Fast.tw13852684417919547253 : Nat := 0
def PySem.W.Fast.tw9539026487676420078 : Nat := 0
def PySem.W.Fast.tw16560242365509003070 : Nat := 0
def PySem.W.Fast.tw16429161551891877789 : Nat := 0
def PySem.W.Fast.tw1238867838057077384 : Nat := 0
def PySem.W.Fast.tw13312671070758987293 : Nat := 0
def PySem.W.Fast.tw4466695064411717210 : Nat := 0
def PySem.W.Fast.tw11518368182069969754 : Nat := 0
def PySem.W.Fast.tw14259909886115043202 : Nat := 0
def PySem.W.Fast.tw9509678262925423814 : Nat := 0
def PySem.W.Fast.tw308382127666587421 : Nat := 0
def PySem.W.Fast.tw16118479314155876595 : Nat := 0
def PySem.W.Fast.tw11453924541553565943 : Nat := 0
def PySem.W.Fast.tw2812623503827355769 : Nat := 0
def PySem.W.Fast.tw10158964572565323986 : Nat := 0
def PySem.W.Fast.tw2827726180765871303 : Nat := 0
def PySem.W.Fast.tw15248232040917368553 : Nat := 0
def PySem.W.Fast.tw3897471580203246822 : Nat := 0
def PySem.W.Fast.tw3896143796237062071 : Nat := 0
def PySem.W.Fast.tw14725514557293964994 : Nat := 0
def PySem.W.Fast.tw6545660954384772414 : Nat := 0
def PySem.W.Fast.tw15202844010018194330 : Nat := 0
def PySem.W.Fast.tw14659836457280644260 : Nat := 0
def PySem.W.Fast.tw11806419332204850266 : Nat := 0
def PySem.W.Fast.tw7650403132729200176 : Nat := 0
def PySem.W.Fast.tw8398201639923882543 : Nat := 0
def PySem.W.Fast.tw17236376645523879132 : Nat := 0
def PySem.W.Fast.tw3175807203487849042 : Nat := 0
def PySem.W.Fast.tw2399347519307817464 : Nat := 0
def PySem.W.Fast.tw6674229249447938948 : Nat := 0
def PySem.W.Fast.tw1181240030646373733 : Nat := 0
def PySem.W.Fast.tw4669577503690709069 : Nat := 0
def PySem.W.Fast.tw5651123308170803585 : Nat := 0
def PySem.W.Fast.tw8991341264458763676 : Nat := 0
def PySem.W.Fast.tw7159698608255929584 : Nat := 0
def PySem.W.Fast.tw3661428681130737688 : Nat := 0
def PySem.W.Fast.tw279335058094032243 : Nat := 0
def PySem.W.Fast.tw12217334361427138994 : Nat := 0
def PySem.W.Fast.tw14929634145230128725 : Nat := 0
def PySem.W.Fast.tw9074013120359715931 : Nat := 0
def PySem.W.Fast.tw5332329975738011151 : Nat := 0
def PySem.W.Fast.tw283747923198556211 : Nat := 0
def PySem.W.Fast.tw16882591011317844001 : Nat := 0
def PySem.W.Fast.tw1336339686497207025 : Nat := 0
def PySem.W.Fast.tw12722244339442421437 : Nat := 0
def PySem.W.Fast.tw2642648723900001837 : Nat := 0
def PySem.W.Fast.tw13339523113754623225 : Nat := 0
def PySem.W.Fast.tw14560297233683179358 : Nat := 0
def PySem.W.Fast.tw11731848444250753558 : Nat := 0
def PySem.W.Fast.tw12099299558452849290 : Nat := 0
def PySem.W.Fast.tw11393424287729153546 : Nat := 0
def PySem.W.Fast.tw1238257748744981803 : Nat := 0
def PySem.W.Fast.tw6588606224116787541 : Nat := 0
def PySem.W.Fast.tw11830086076165091359 : Nat := 0
def PySem.W.Fast.tw17949968913880687366 : Nat := 0
def PySem.W.Fast.tw14307006635412636112 : Nat := 0
def PySem.W.Fast.tw2303697194639944177 : Nat := 0
def PySem.W.Fast.tw4954893512452705641 : Nat := 0
def PySem.W.Fast.tw9067904704683579847 : Nat := 0
def PySem.W.Fast.tw4848808612815053096 : Nat := 0
def PySem.W.Fast.tw3107569113408164720 : Nat := 0
def PySem.W.Fast.tw18388897232068829898 : Nat := 0
def PySem.W.Fast.tw15640079643085251047 : Nat := 0
def PySem.W.Fast.tw15088994610964226879 : Nat := 0
def PySem.W.Fast.tw12045958028471067808 : Nat := 0
def PySem.W.Fast.tw13249105537019476294 : Nat := 0
def PySem.W.Fast.tw17970082379060130681 : Nat := 0
def PySem.W.Fast.tw16904182134960710588 : Nat := 0
def PySem.W.Fast.tw15341375336023617676 : Nat := 0
def PySem.W.Fast.tw8918642488560298563 : Nat := 0
def PySem.W.Fast.tw15115366895116660855 : Nat := 0
def PySem.W.Fast.tw4058221074041382727 : Nat := 0
def PySem.W.Fast.tw8917985628200447442 : Nat := 0
def PySem.W.Fast.tw15352644982129841704 : Nat := 0
def PySem.W.Fast.tw6580462618263014838 : Nat := 0
def PySem.W.Fast.tw16306233937187414485 : Nat := 0
def PySem.W.Fast.tw568142284527027158 : Nat := 0
def PySem.W.Fast.tw12030482854464982047 : Nat := 0
def PySem.W.Fast.tw732374260009475707 : Nat := 0
def PySem.W.Fast.tw4419736391738850690 : Nat := 0
def PySem.W.Fast.tw5173381789530358294 : Nat := 0
def PySem.W.Fast.tw17332156137649837897 : Nat := 0
def PySem.W.Fast.tw8370961192565179354 : Nat := 0
def PySem.W.Fast.tw6315598583196600975 : Nat := 0
def PySem.W.Fast.tw17691762018062837278 : Nat := 0
def PySem.W.Fast.tw4965466779915237706 : Nat := 0
def PySem.W.Fast.tw9550125197139121192 : Nat := 0
def PySem.W.Fast.tw14679409408749881376 : Nat := 0
def PySem.W.Fast.tw4182451519822599573 : Nat := 0
def PySem.W.Fast.tw7942651315714169222 : Nat := 0
def PySem.W.Fast.tw1546484020270948589 : Nat := 0
def PySem.W.Fast.tw11450042818673432937 : Nat := 0
def PySem.W.Fast.tw12305508783504639538 : Nat := 0
def PySem.W.Fast.tw10806056468402446466 : Nat := 0
def PySem.W.Fast.tw11892448775014647259 : Nat := 0
def PySem.W.Fast.tw5622957331889317739 : Nat := 0
def PySem.W.Fast.tw2262025714648007834 : Nat := 0
def PySem.W.Fast.tw11827647558437801042 : Nat := 0
def PySem.W.Fast.tw7060978220930211121 : Nat := 0
def PySem.W.Fast.tw4688979924825651151 : Nat := 0
def PySem.W.Fast.tw692211275195836795 : Nat := 0
def PySem.W.Fast.tw12624214299916585144 : Nat := 0
def PySem.W.Fast.tw9272584299041383343 : Nat := 0
def PySem.W.Fast.tw14305200387515136874 : Nat := 0
def PySem.W.Fast.tw14143188267744911021 : Nat := 0
def PySem.W.Fast.tw9029150008218346235 : Nat := 0
def PySem.W.Fast.tw5099181133427758239 : Nat := 0
def PySem.W.Fast.tw2952392574542853805 : Nat := 0
def PySem.W.Fast.tw1934100868152125865 : Nat := 0
def PySem.W.Fast.tw5728690228485814839 : Nat := 0
def PySem.W.Fast.tw11672291711926324667 : Nat := 0
def PySem.W.Fast.tw17658353059556755699 : Nat := 0
def PySem.W.Fast.tw7108243815774861061 : Nat := 0
def PySem.W.Fast.tw1710921869679367453 : Nat := 0
def PySem.W.Fast.tw12271602324959010716 : Nat := 0
def PySem.W.Fast.tw9181627262381569575 : Nat := 0
def PySem.W.Fast.tw2593427668389263048 : Nat := 0
def PySem.W.Fast.tw3253655577273685892 : Nat := 0
def PySem.W.Fast.tw18399245019676952010 : Nat := 0
def PySem.W.Fast.tw17730266284337285894 : Nat := 0
def PySem.W.Fast.tw10833035689557409360 : Nat := 0
def PySem.W.Fast.tw11854701282051619677 : Nat := 0
def PySem.W.Fast.tw6768043053004818365 : Nat := 0
def PySem.W.Fast.tw17326137844761194235 : Nat := 0
def PySem.W.Fast.tw4939106644232990872 : Nat := 0
def PySem.W.Fast.tw12317208853802054231 : Nat := 0
def PySem.W.Fast.tw10344198803151836228 : Nat := 0
def PySem.W.Fast.tw16403883450038365476 : Nat := 0
def PySem.W.Fast.tw15901454331907618160 : Nat := 0
def PySem.W.Fast.tw1577848232166622951 : Nat := 0
def PySem.W.Fast.tw13961696580564286701 : Nat := 0
def PySem.W.Fast.tw2600013061007012111 : Nat := 0
def PySem.W.Fast.tw310540659431494844 : Nat := 0
def PySem.W.Fast.tw8789154865945998648 : Nat := 0
def PySem.W.Fast.tw84389987500266519 : Nat := 0
def PySem.W.Fast.tw4952970546706153917 : Nat := 0
def PySem.W.Fast.tw4124290827853784271 : Nat := 0
def PySem.W.Fast.tw11868469852592679297 : Nat := 0
def PySem.W.Fast.tw9126056662373689790 : Nat := 0
def PySem.W.Fast.tw11722935492653928726 : Nat := 0
def PySem.W.Fast.tw17273864958020597109 : Nat := 0
def PySem.W.Fast.tw11498661428879544940 : Nat := 0
def PySem.W.Fast.tw13503645537714764960 : Nat := 0
def PySem.W.Fast.tw11964114370606153880 : Nat := 0
def PySem.W.Fast.tw3339482970048552974 : Nat := 0
def PySem.W.Fast.tw3882882539912072798 : Nat := 0
def PySem.W.Fast.tw7159820102766861770 : Nat := 0
def PySem.W.Fast.tw1828160660325421735 : Nat := 0
def PySem.W.Fast.tw6852567975658351072 : Nat := 0
def PySem.W.Fast.tw17896650687860080230 : Nat := 0
def PySem.W.Fast.tw10723797100911200353 : Nat := 0
def PySem.W.Fast.tw11468667153416120216 : Nat := 0
def PySem.W.Fast.tw4210059125753425562 : Nat := 0
def PySem.W.Fast.tw439956493199350698 : Nat := 0
def PySem.W.Fast.tw14974508903003441117 : Nat := 0
def PySem.W.Fast.tw196047811945437035 : Nat := 0
def PySem.W.Fast.tw17656274660981461381 : Nat := 0
def PySem.W.Fast.tw7531330215677998300 : Nat := 0
def PySem.W.Fast.tw16411108605059824661 : Nat := 0
def PySem.W.Fast.tw7091152568033939503 : Nat := 0
def PySem.W.Fast.tw18148430946656763060 : Nat := 0
def PySem.W.Fast.tw4802284407571228864 : Nat := 0
def PySem.W.Fast.tw13296706416444044955 : Nat := 0
def PySem.W.Fast.tw17173252361515087288 : Nat := 0
def PySem.W.Fast.tw12058355024190013933 : Nat := 0
def PySem.W.Fast.tw10669079836496793970 : Nat := 0
def PySem.W.Fast.tw14046801555167947479 : Nat := 0
def PySem.W.Fast.tw7488574571572111366 : Nat := 0
def PySem.W.Fast.tw16704650846373845887 : Nat := 0
def PySem.W.Fast.tw10731439760251118315 : Nat := 0
def PySem.W.Fast.tw12841944634721534030 : Nat := 0
def PySem.W.Fast.tw3470704604189530888 : Nat := 0
def PySem.W.Fast.tw602763720816816148 : Nat := 0
def PySem.W.Fast.tw12208325817572670871 : Nat := 0
def PySem.W.Fast.tw6842879439431316951 : Nat := 0
def PySem.W.Fast.tw6397803751157886096 : Nat := 0
def PySem.W.Fast.tw1750432599820086044 : Nat := 0
def PySem.W.Fast.tw11508267856667933888 : Nat := 0
def PySem.W.Fast.tw17133867185977816839 : Nat := 0
def PySem.W.Fast.tw6014323095293765689 : Nat := 0
def PySem.W.Fast.tw14221705605846004329 : Nat := 0
def PySem.W.Fast.tw10519035087300044415 : Nat := 0
def PySem.W.Fast.tw2941345795153728269 : Nat := 0
def PySem.W.Fast.tw9930239998926041897 : Nat := 0
def PySem.W.Fast.tw4581103124388928513 : Nat := 0
def PySem.W.Fast.tw12115734601547840088 : Nat := 0
def PySem.W.Fast.tw1858397432683069572 : Nat := 0
def PySem.W.Fast.tw6073596083273738631 : Nat := 0
def PySem.W.Fast.tw6680019453971639557 : Nat := 0
def PySem.W.Fast.tw4298730157437591494 : Nat := 0
def PySem.W.Fast.tw2309726578166508843 : Nat := 0
def PySem.W.Fast.tw10104219235663089373 : Nat := 0
def PySem.W.Fast.tw14986690796046302793 : Nat := 0
def PySem.W.Fast.tw16936672843010508069 : Nat := 0
def PySem.W.Fast.tw14888303456789790482 : Nat := 0
def PySem.W.Fast.tw2385179921126984966 : Nat := 0
def PySem.W.Fast.tw12705790359871819053 : Nat := 0
def PySem.W.Fast.tw851915873998281549 : Nat := 0
def PySem.W.Fast.tw13542686520920225188 : Nat := 0
def PySem.W.Fast.tw4021065974634696033 : Nat := 0
def PySem.W.Fast.tw293564533658810071 : Nat := 0
def PySem.W.Fast.tw15663964149604088327 : Nat := 0
def PySem.W.Fast.tw586723408927166675 : Nat := 0
def PySem.W.Fast.tw7130990069053381255 : Nat := 0
def PySem.W.Fast.tw10543042015689745971 : Nat := 0
def PySem.W.Fast.tw14502033104714845615 : Nat := 0
def PySem.W.Fast.tw16254704218856187599 : Nat := 0
def PySem.W.Fast.tw808729676248314561 : Nat := 0
def PySem.W.Fast.tw5807109056678701429 : Nat := 0
def PySem.W.Fast.tw324840554981666923 : Nat := 0
def PySem.W.Fast.tw12199413154116504456 : Nat := 0
def PySem.W.Fast.tw15890192096135164805 : Nat := 0
def PySem.W.Fast.tw8168345668032509717 : Nat := 0
def PySem.W.Fast.tw9067392443698246059 : Nat := 0
def PySem.W.Fast.tw6494212660925310629 : Nat := 0
def PySem.W.Fast.tw11673232407764297408 : Nat := 0
def PySem.W.Fast.tw710437168464454186 : Nat := 0
def PySem.W.Fast.tw6966851331781576737 : Nat := 0
def PySem.W.Fast.tw11946943998666763420 : Nat := 0
def PySem.W.Fast.tw16068283065842334035 : Nat := 0
def PySem.W.Fast.tw2997772752923078988 : Nat := 0
def PySem.W.Fast.tw16454645556762539290 : Nat := 0
def PySem.W.Fast.tw12346842540393909178 : Nat := 0
def PySem.W.Fast.tw671206851741599296 : Nat := 0
def PySem.W.Fast.tw9548253179737170835 : Nat := 0
def PySem.W.Fast.tw11424463708100067404 : Nat := 0
def PySem.W.Fast.tw6445505645349966505 : Nat := 0
def PySem.W.Fast.tw13674415131489082809 : Nat := 0
def PySem.W.Fast.tw6098013330254290438 : Nat := 0
def PySem.W.Fast.tw3412127412289660856 : Nat := 0
def PySem.W.Fast.tw6362202122861230268 : Nat := 0
def PySem.W.Fast.tw7336946980554550938 : Nat := 0
def PySem.W.Fast.tw13371456631638585023 : Nat := 0
def PySem.W.Fast.tw6499805309006399295 : Nat := 0
def PySem.W.Fast.tw6332736387577526240 : Nat := 0
def PySem.W.Fast.tw14304359119867746301 : Nat := 0
def PySem.W.Fast.tw8715961815599743461 : Nat := 0
def PySem.W.Fast.tw8870300280329267420 : Nat := 0
def PySem.W.Fast.tw13462739692067862958 : Nat := 0
def PySem.W.Fast.tw2961733987482147031 : Nat := 0
def PySem.W.Fast.tw16056285635712768957 : Nat := 0
def PySem.W.Fast.tw15914746945385773100 : Nat := 0
def PySem.W.Fast.tw12918624009346296573 : Nat := 0
def PySem.W.Fast.tw7772716496678622968 : Nat := 0
def PySem.W.Fast.tw6124530945053755105 : Nat := 0
def PySem.W.Fast.tw15690857161354602039 : Nat := 0
def PySem.W.Fast.tw5653107974488379552 : Nat := 0
def PySem.W.Fast.tw11843680903186291693 : Nat := 0
def PySem.W.Fast.tw16730799254026011122 : Nat := 0
def PySem.W.Fast.tw8035983163193819920 : Nat := 0
def PySem.W.Fast.tw14431004888887606891 : Nat := 0
def PySem.W.Fast.tw2535998154827155020 : Nat := 0
def PySem.W.Fast.tw16525647246228149987 : Nat := 0
def PySem.W.Fast.tw6478791293656275896 : Nat := 0
def PySem.W.Fast.tw14959629587983842267 : Nat := 0
def PySem.W.Fast.tw16290747098790473227 : Nat := 0
def PySem.W.Fast.tw9378187958811209749 : Nat := 0
def PySem.W.Fast.tw5773129879054782175 : Nat := 0
def PySem.W.Fast.tw12104971703987403692 : Nat := 0
def PySem.W.Fast.tw8569847101461281230 : Nat := 0
def PySem.W.Fast.tw3752609107852570972 : Nat := 0
def PySem.W.Fast.tw6749412467372519360 : Nat := 0
def PySem.W.Fast.tw14220237518291552744 : Nat := 0
def PySem.W.Fast.tw4134648966596457658 : Nat := 0
def PySem.W.Fast.tw8026802156404750101 : Nat := 0
def PySem.W.Fast.tw8316853376954602246 : Nat := 0
def PySem.W.Fast.tw8161659864842661894 : Nat := 0
def PySem.W.Fast.tw3048282390333680823 : Nat := 0
def PySem.W.Fast.tw11551539059431380317 : Nat := 0
def PySem.W.Fast.tw15311991262202375134 : Nat := 0
def PySem.W.Fast.tw1406164822989321447 : Nat := 0
def PySem.W.Fast.tw8171609549812826982 : Nat := 0
def PySem.W.Fast.tw17968049489801171383 : Nat := 0
def PySem.W.Fast.tw9701001260356842261 : Nat := 0
def PySem.W.Fast.tw14289048031622091701 : Nat := 0
def PySem.W.Fast.tw10536306913464986884 : Nat := 0
def PySem.W.Fast.tw7215030383404805913 : Nat := 0
def PySem.W.Fast.tw3905231155540688391 : Nat := 0
def PySem.W.Fast.tw269254804232285729 : Nat := 0
def PySem.W.Fast.tw16709980003006241339 : Nat := 0
def PySem.W.Fast.tw6287153661257282578 : Nat := 0
def PySem.W.Fast.tw753512935106259360 : Nat := 0
def PySem.W.Fast.tw14645339665595604622 : Nat := 0
def PySem.W.Fast.tw11618197107175310787 : Nat := 0
def PySem.W.Fast.tw4568734449914597541 : Nat := 0
def PySem.W.Fast.tw8717233496443522093 : Nat := 0
def PySem.W.Fast.tw4422621491151022624 : Nat := 0
def PySem.W.Fast.tw6510500576968944334 : Nat := 0
def PySem.W.Fast.tw17346626348475795984 : Nat := 0
def PySem.W.Fast.tw5860098596687166527 : Nat := 0
open PySem PySem.W PyProof.Rows
set_option maxRecDepth 100000 in
set_option maxHeartbeats 0 in
theorem PySem.Challenge.cw_touchpasses_k05_texts_of_tracks_holds : PySem.Challenge.rw_touchpasses_k05_texts_of_tracks.Holds := by
  w_on; o_law; k_head; (case hw => w_witness2)
  k_fill
  refine L2.walk_ofG (l := PySem.Challenge.rw_touchpasses_k05_texts_of_tracks) (n := 63) (k := 11) (x := "script") (CX := fun _ => L2.CX0) (sp := fun w => My.spEnd _) rfl (by decide) rfl ⟨rfl, by decide, by decide⟩ (fun w h Y => PySem.W.kIn_of Y) ?F (fun _ _ a ns hl hb hO hS => ⟨a, ns, rfl, My.sqL_fz hO hS, hl, hb, fun _ => rfl⟩) (fun _ _ _ _ _ h => h)
  case F =>
    intro w mg fa h KX G hmg
    refine' My.fin_mk hmg (My.mk_txt KX G ?aC ?cpg ?chd ?cpo ?csa ?cmk ?ckc ?cca ?ccn ?cct ?ccm ?na_length ?na_passes ?cne ?cob ?a_is_integer ?l_is_integer ?c_is_integer ?k_is_integer ?a_is_between ?l_is_between ?c_is_between ?k_is_between ?a_is_name ?l_is_name ?c_is_name ?k_is_name ?a_is_word ?l_is_word ?c_is_word ?k_is_word ?a_is_stretch ?l_is_stretch ?c_is_stretch ?k_is_stretch ?a_is_length ?l_is_length ?c_is_length ?k_is_length ?a_are_touches ?l_are_touches ?c_are_touches ?k_are_touches ?a_is_pass ?l_is_pass ?c_is_pass ?k_is_pass ?a_first_wrong ?l_first_wrong ?c_first_wrong ?k_first_wrong ?a_row_of ?l_row_of ?c_row_of ?k_row_of ?a_rows_of ?l_rows_of ?c_rows_of ?k_rows_of ?a_number_in ?l_number_in ?c_number_in ?k_number_in ?a_stretch_in ?l_stretch_in ?c_stretch_in ?k_stretch_in ?a_pass_in ?l_pass_in ?c_pass_in ?k_pass_in ?a_pass_in_row ?l_pass_in_row ?c_pass_in_row ?k_pass_in_row ?a_length_in_row ?l_length_in_row ?c_length_in_row ?k_length_in_row ?a_track_in ?l_track_in ?c_track_in ?k_track_in ?a_Track_init ?i_Track_init ?l_Track_init ?c_Track_init ?k_Track_init ?t_Track_init ?e_Track_init_at ?a_Track_read ?rc_Track_read ?fi_Track_read ?rd_Track_read ?ga_Track_read ?l_Track_read ?c_Track_read ?k_Track_read ?a_Track_length ?pg_Track_length ?pt_Track_length ?pr_Track_length_at ?l_Track_length ?c_Track_length ?k_Track_length ?a_Track_passes ?pg_Track_passes ?pt_Track_passes ?pr_Track_passes_at ?l_Track_passes ?c_Track_passes ?k_Track_passes ?a_Track_eq ?i_Track_eq ?l_Track_eq ?c_Track_eq ?k_Track_eq ?a_Track_str ?i_Track_str ?l_Track_str ?c_Track_str ?k_Track_str ?a_law_purse ?l_law_purse ?c_law_purse ?k_law_purse ?a_law_draw ?l_law_draw ?c_law_draw ?k_law_draw ?a_law_pick ?l_law_pick ?c_law_pick ?k_law_pick ?a_law_wide ?l_law_wide ?c_law_wide ?k_law_wide ?a_law_touches ?l_law_touches ?c_law_touches ?k_law_touches ?a_law_words ?l_law_words ?c_law_words ?k_law_words ?a_law_fader ?l_law_fader ?c_law_fader ?k_law_fader ?a_law_faders ?l_law_faders ?c_law_faders ?k_law_faders ?a_law_long ?l_law_long ?c_law_long ?k_law_long ?a_law_said ?l_law_said ?c_law_said ?k_law_said ?a_law_text ?l_law_text ?c_law_text ?k_law_text ?a_law_right ?l_law_right ?c_law_right ?k_law_right ?a_law ?l_law ?c_law ?k_law ?a_LETTERS ?a_DIGITS ?a_MOST_SIGNS ?a_MOST_LENGTH ?a_MOST_PASSES ?a_MOST_TOUCHES ?a_MOST_GLIDE ?a_OLD ?b_MODES ?l_MODES ?b_TAILS ?l_TAILS ?a_SIZE ?a_MOST_DIGITS ?a_FEWEST_WORDS ?z_len ?z_isinstance ?z_int ?z_bool ?z_str ?z_tuple ?z_all ?z_range ?z_enumerate ?z_abs ?z_divmod ?z_max ?z_min ?z_repr)
    (case aC => k_is)
    (case cpg => k_is)
    (case chd => k_is)
    (case cpo => k_is)
    (case csa => k_is)
    (case cmk => k_is)
    (case ckc => k_is)
    (case cca => k_is)
    (case ccn => k_is)
    (case cct => k_is)
    (case ccm => k_is)
    (case na_length => k_is)
    (case na_passes => k_is)
    (case cne => k_is)
    (case cob => k_is)
    (case a_is_integer => k_is)
    (case l_is_integer => k_is)
    (case c_is_integer => k_is)
    (case k_is_integer => k_is)
    (case a_is_between => k_is)
    (case l_is_between => k_is)
    (case c_is_between => k_is)
    (case k_is_between => k_is)
    (case a_is_name => k_is)
    (case l_is_name => k_is)
    (case c_is_name => k_is)
    (case k_is_name => k_is)
    (case a_is_word => k_is)
    (case l_is_word => k_is)
    (case c_is_word => k_is)
    (case k_is_word => k_is)
    (case a_is_stretch => k_is)
    (case l_is_stretch => k_is)
    (case c_is_stretch => k_is)
    (case k_is_stretch => k_is)
    (case a_is_length => k_is)
    (case l_is_length => k_is)
    (case c_is_length => k_is)
    (case k_is_length => k_is)
    (case a_are_touches => k_is)
    (case l_are_touches => k_is)
    (case c_are_touches => k_is)
    (case k_are_touches => k_is)
    (case a_is_pass => k_is)
    (case l_is_pass => k_is)
    (case c_is_pass => k_is)
    (case k_is_pass => k_is)
    (case a_first_wrong => k_is)
    (case l_first_wrong => k_is)
    (case c_first_wrong => k_is)
    (case k_first_wrong => k_is)
    (case a_row_of => k_is)
    (case l_row_of => k_is)
    (case c_row_of => k_is)
    (case k_row_of => k_is)
    (case a_rows_of => k_is)
    (case l_rows_of => k_is)
    (case c_rows_of => k_is)
    (case k_rows_of => k_is)
    (case a_number_in => k_is)
    (case l_number_in => k_is)
    (case c_number_in => k_is)
    (case k_number_in => k_is)
    (case a_stretch_in => k_is)
    (case l_stretch_in => k_is)
    (case c_stretch_in => k_is)
    (case k_stretch_in => k_is)
    (case a_pass_in => k_is)
    (case l_pass_in => k_is)
    (case c_pass_in => k_is)
    (case k_pass_in => k_is)
    (case a_pass_in_row => k_is)
    (case l_pass_in_row => k_is)
    (case c_pass_in_row => k_is)
    (case k_pass_in_row => k_is)
    (case a_length_in_row => k_is)
    (case l_length_in_row => k_is)
    (case c_length_in_row => k_is)
    (case k_length_in_row => k_is)
    (case a_track_in => k_is)
    (case l_track_in => k_is)
    (case c_track_in => k_is)
    (case k_track_in => k_is)
    (case a_Track_init => k_is)
    (case i_Track_init => k_is)
    (case l_Track_init => k_is)
    (case c_Track_init => k_is)
    (case k_Track_init => k_is)
    (case t_Track_init => k_is)
    (case e_Track_init_at => k_is)
    (case a_Track_read => k_is)
    (case rc_Track_read => k_is)
    (case fi_Track_read => k_is)
    (case rd_Track_read => k_is)
    (case ga_Track_read => k_is)
    (case l_Track_read => k_is)
    (case c_Track_read => k_is)
    (case k_Track_read => k_is)
    (case a_Track_length => k_is)
    (case pg_Track_length => k_is)
    (case pt_Track_length => k_is)
    (case pr_Track_length_at => k_is)
    (case l_Track_length => k_is)
    (case c_Track_length => k_is)
    (case k_Track_length => k_is)
    (case a_Track_passes => k_is)
    (case pg_Track_passes => k_is)
    (case pt_Track_passes => k_is)
    (case pr_Track_passes_at => k_is)
    (case l_Track_passes => k_is)
    (case c_Track_passes => k_is)
    (case k_Track_passes => k_is)
    (case a_Track_eq => k_is)
    (case i_Track_eq => k_is)
    (case l_Track_eq => k_is)
    (case c_Track_eq => k_is)
    (case k_Track_eq => k_is)
    (case a_Track_str => k_is)
    (case i_Track_str => k_is)
    (case l_Track_str => k_is)
    (case c_Track_str => k_is)
    (case k_Track_str => k_is)
    (case a_law_purse => k_is)
    (case l_law_purse => k_is)
    (case c_law_purse => k_is)
    (case k_law_purse => k_is)
    (case a_law_draw => k_is)
    (case l_law_draw => k_is)
    (case c_law_draw => k_is)
    (case k_law_draw => k_is)
    (case a_law_pick => k_is)
    (case l_law_pick => k_is)
    (case c_law_pick => k_is)
    (case k_law_pick => k_is)
    (case a_law_wide => k_is)
    (case l_law_wide => k_is)
    (case c_law_wide => k_is)
    (case k_law_wide => k_is)
    (case a_law_touches => k_is)
    (case l_law_touches => k_is)
    (case c_law_touches => k_is)
    (case k_law_touches => k_is)
    (case a_law_words => k_is)
    (case l_law_words => k_is)
    (case c_law_words => k_is)
    (case k_law_words => k_is)
    (case a_law_fader => k_is)
    (case l_law_fader => k_is)
    (case c_law_fader => k_is)
    (case k_law_fader => k_is)
    (case a_law_faders => k_is)
    (case l_law_faders => k_is)
    (case c_law_faders => k_is)
    (case k_law_faders => k_is)
    (case a_law_long => k_is)
    (case l_law_long => k_is)
    (case c_law_long => k_is)
    (case k_law_long => k_is)
    (case a_law_said => k_is)
    (case l_law_said => k_is)
    (case c_law_said => k_is)
    (case k_law_said => k_is)
    (case a_law_text => k_is)
    (case l_law_text => k_is)
    (case c_law_text => k_is)
    (case k_law_text => k_is)
    (case a_law_right => k_is)
    (case l_law_right => k_is)
    (case c_law_right => k_is)
    (case k_law_right => k_is)
    (case a_law => k_is)
    (case l_law => k_is)
    (case c_law => k_is)
    (case k_law => k_is)
    (case a_LETTERS => k_is)
    (case a_DIGITS => k_is)
    (case a_MOST_SIGNS => k_is)
    (case a_MOST_LENGTH => k_is)
    (case a_MOST_PASSES => k_is)
    (case a_MOST_TOUCHES => k_is)
    (case a_MOST_GLIDE => k_is)
    (case a_OLD => k_is)
    (case b_MODES => k_is)
    (case l_MODES => k_is)
    (case b_TAILS => k_is)
    (case l_TAILS => k_is)
    (case a_SIZE => k_is)
    (case a_MOST_DIGITS => k_is)
    (case a_FEWEST_WORDS => k_is)
    (case z_len => k_is)
    (case z_isinstance => k_is)
    (case z_int => k_is)
    (case z_bool => k_is)
    (case z_str => k_is)
    (case z_tuple => k_is)
    (case z_all => k_is)
    (case z_range => k_is)
    (case z_enumerate => k_is)
    (case z_abs => k_is)
    (case z_divmod => k_is)
    (case z_max => k_is)
    (case z_min => k_is)
    (case z_repr => k_is)
