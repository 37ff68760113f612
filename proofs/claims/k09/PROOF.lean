import PyProof.Rows.All
import Wide.All
import OpenK.AllK
import Wide.FinOn
import PySem.Challenge.RW_touchpasses_k09_whole_rows_of_deeds_on_t
import HandS.List
import HandS.Comp
import HandS.Words
import HandS.Defaults
import HandS.OwnEq
import PyProof.ReprRoads
import PyProof.InstNe
import PyProof.StrLawsRepr
import HandS.Ends
import HandS.EndBits
import HandS.Property
import HandS.ForMost
import HandS.IsInst
import HandS.TupAny
import HandS.Wide
import HandS.Conv
import HandS.Gcd
import HandS.WrittenGet
import PyProof.P3In
import HandS.RaiseMore
import HandS.WideBits
import HandS.FStr
import HandS.Walk
import HandS.Style
import KE.GoesMore
import HandS.Zip
import HandS.MakeKw
import HandS.MakeKwOnly
import PyProof.ReprBulk
import PyProof.Rows.ReprShort
import KE.KUnpackStar
import HandS.Text
import PyProof.P3Eq
import HandS.CallLocal
import KE.KCallOwn
import HandS.ClsMeth
import HandS.Star
import KE.SortData
import HandS.TryOnly
import HandS.More
import HandS.SetFor
import HandS.Strs
import PyProof.Rows.SortShellAny
import OpenK.KMeth
import HandS.DictComp
import HandS.Flow
import HandS.Small
set_option Elab.async false
set_option linter.all false
set_option maxRecDepth 100000
namespace L2
open PySem PySem.Spec PyProof.Rows
/-- all that was tracked is as it was, but what stands at p -/
def Sm (p : Addr) (H H' : Hp) : Prop := ∀ b o, b ≠ p → H b = some o → H' b = some o
theorem Sm.refl (p : Addr) (H : Hp) : Sm p H H := fun _ _ _ h => h
theorem Sm.trans {p : Addr} {H H1 H2 : Hp} (a : Sm p H H1) (b : Sm p H1 H2) : Sm p H H2 := fun c o n h => b c o n (a c o n h)
theorem Sm.of_same {p : Addr} {H H' : Hp} (h : Same H H') : Sm p H H' := fun b o _ e => h b o e
theorem Sm.new {p q : Addr} {H : Hp} {o : HO} (h : H q = none) : Sm p H (upd H q o) := fun b u _ e => by
  rw [upd_ne (ne_of_none e h)]; exact e
theorem Sm.at {p : Addr} {H : Hp} {o : HO} : Sm p H (upd H p o) := fun b u n e => by
  rw [upd_ne n]; exact e
theorem Sm.free {p : Addr} {H H' : Hp} {o : HO} (e : Sm p H H') (hp : H' p = some o) {l : Addr} (h : H' l = Option.none) : H l = Option.none := by
  by_cases q : l = p
  · subst q; rw [hp] at h; cases h
  · cases z : H l with
    | none => rfl
    | some o' => rw [e l o' q z] at h; cases h
theorem same_new {H : Hp} {p : Addr} {o : HO} (h : H p = none) : Same H (upd H p o) := fun b x e => by
  rw [upd_ne (ne_of_none e h)]; exact e
theorem Same.new {H H1 : Hp} {p : Addr} {o : HO} (x : Same H H1) (h : H1 p = none) : Same H (upd H1 p o) := x.trans (same_new h)
theorem Same.seqT {K : PySem.W.Frag} {H H' : Hp} {a : Addr} {xs : List V} (e : Same H H') (h : SqT K H a xs) : SqT K H' a xs := by
  rcases h with (h | ⟨o, h⟩) | h
  · exact .inl (.inl (e _ _ h))
  · exact .inl (.inr ⟨o, e _ _ h⟩)
  · exact .inr h
theorem Sm.seq {K : PySem.W.Frag} {p : Addr} {H H' : Hp} {a : Addr} {xs : List V} (e : Sm p H H') (n : a ≠ p) (h : SqL K H a xs) : SqL K H' a xs := by
  rcases h with (h | ⟨o, h⟩) | h
  · exact .inl (.inl (e _ _ n h))
  · exact .inl (.inr ⟨o, e _ _ n h⟩)
  · exact .inr h
theorem Sm.seqT {K : PySem.W.Frag} {p : Addr} {H H' : Hp} {a : Addr} {xs : List V} (e : Sm p H H') (n : a ≠ p) (h : SqT K H a xs) : SqT K H' a xs := by
  rcases h with (h | ⟨o, h⟩) | h
  · exact .inl (.inl (e _ _ n h))
  · exact .inl (.inr ⟨o, e _ _ n h⟩)
  · exact .inr h
/-- a text that data may hold -/
abbrev Sok (x : Str) : Prop := x.length ≤ 100000 ∧ PyData.strOk x = true
mutual
inductive Dn (K : PySem.W.Frag) (p : Addr) (H : Hp) : V → PyData → Prop
  | non : Dn K p H .non .none
  | bl (b : Bool) : Dn K p H (.bl b) (.bool b)
  | int (i : Int) : Dn K p H (.int i) (.int i)
  | str (x : Str) : Sok x → Dn K p H (.str x) (.str x)
  | lst {a : Addr} {xs : List V} {ds : List PyData} : a ≠ p → SqL K H a xs → DnAll K p H xs ds → Dn K p H (.ref a) (.list ds)
  | tup {a : Addr} {xs : List V} {ds : List PyData} : SqT K H a xs → DnAll K p H xs ds → Dn K p H (.ref a) (.tuple ds)
  | dic {a : Addr} {kvs : List (Key × V)} {ks vs : List PyData} : H a = some (.dK kvs) → DnAll K p H (kvs.map fun q => kV q.1) ks → DnAll K p H (kvs.map (·.2)) vs → Dn K p H (.ref a) (.dict (ks.zip vs))
inductive DnAll (K : PySem.W.Frag) (p : Addr) (H : Hp) : List V → List PyData → Prop
  | nil : DnAll K p H [] []
  | cons {v : V} {vs : List V} {d : PyData} {ds : List PyData} : Dn K p H v d → DnAll K p H vs ds → DnAll K p H (v :: vs) (d :: ds)
end
section
variable {K : PySem.W.Frag} {p : Addr} {H H' : Hp}
theorem DnAll.length : ∀ {vs : List V} {ds : List PyData}, DnAll K p H vs ds → vs.length = ds.length
  | _, _, .nil => rfl
  | _, _, .cons _ t => by rw [List.length_cons, List.length_cons, DnAll.length t]
theorem DnAll.get : ∀ {vs : List V} {ds : List PyData} {i : Nat} {v : V}, DnAll K p H vs ds → vs[i]? = some v → ∃ d, ds[i]? = some d ∧ Dn K p H v d
  | _, _, _, _, .nil, e => by simp at e
  | _, _, 0, _, .cons r _, e => by simp at e; subst e; exact ⟨_, rfl, r⟩
  | _, _, i + 1, v, .cons _ t, e => by
    obtain ⟨u, h1, h2⟩ := DnAll.get (i := i) (v := v) t (by simpa using e)
    exact ⟨u, by simpa using h1, h2⟩
theorem DnAll.getD : ∀ {vs : List V} {ds : List PyData} {i : Nat} {d : PyData}, DnAll K p H vs ds → ds[i]? = some d → ∃ v, vs[i]? = some v ∧ Dn K p H v d
  | _, _, _, _, .nil, e => by simp at e
  | _, _, 0, _, .cons r _, e => by simp at e; subst e; exact ⟨_, rfl, r⟩
  | _, _, i + 1, v, .cons _ t, e => by
    obtain ⟨u, h1, h2⟩ := DnAll.getD (i := i) (d := v) t (by simpa using e)
    exact ⟨u, by simpa using h1, h2⟩
theorem DnAll.append : ∀ {vs us : List V} {ds es : List PyData}, DnAll K p H vs ds → DnAll K p H us es → DnAll K p H (vs ++ us) (ds ++ es)
  | _, _, _, _, .nil, s => s
  | _, _, _, _, .cons r t, s => .cons r (DnAll.append t s)
theorem DnAll.take : ∀ {vs : List V} {ds : List PyData} (n : Nat), DnAll K p H vs ds → DnAll K p H (vs.take n) (ds.take n)
  | _, _, 0, _ => .nil
  | _, _, _ + 1, .nil => .nil
  | _, _, n + 1, .cons r t => .cons r (DnAll.take n t)
theorem DnAll.drop : ∀ {vs : List V} {ds : List PyData} (n : Nat), DnAll K p H vs ds → DnAll K p H (vs.drop n) (ds.drop n)
  | _, _, 0, r => r
  | _, _, _ + 1, .nil => .nil
  | _, _, n + 1, .cons _ t => DnAll.drop n t
/-- p is a list -/
def Pl (H : Hp) (p : Addr) : Prop := ∃ l, H p = some (.lst l)
theorem Pl.same {H H' : Hp} {p : Addr} (h : Pl H p) (e : Same H H') : Pl H' p := h.elim fun l q => ⟨l, e _ _ q⟩
theorem Sm.tup {K : PySem.W.Frag} {p : Addr} {H H' : Hp} {a : Addr} {xs : List V} (e : Sm p H H') (hp : Pl H p) (h : SqT K H a xs) : SqT K H' a xs := by
  obtain ⟨l, hp⟩ := hp
  rcases h with (h | ⟨o, h⟩) | h
  · exact .inl (.inl (e _ _ (by rintro rfl; rw [hp] at h; cases h) h))
  · exact .inl (.inr ⟨o, e _ _ (by rintro rfl; rw [hp] at h; cases h) h⟩)
  · exact .inr h
theorem Sm.dic {p : Addr} {H H' : Hp} {a : Addr} {kvs : List (Key × V)} (e : Sm p H H') (hp : Pl H p) (h : H a = some (.dK kvs)) : H' a = some (.dK kvs) := by
  obtain ⟨l, hp⟩ := hp
  exact e _ _ (by rintro rfl; rw [hp] at h; cases h) h
mutual
theorem Dn.same (e : Same H H') : ∀ {v : V} {d : PyData}, Dn K p H v d → Dn K p H' v d
  | _, _, .non => .non
  | _, _, .bl b => .bl b
  | _, _, .int i => .int i
  | _, _, .str x h => .str x h
  | _, _, .lst n h a => .lst n (e.seq h) (DnAll.same e a)
  | _, _, .tup h a => .tup (e.seqT h) (DnAll.same e a)
  | _, _, .dic h a b => .dic (e _ _ h) (DnAll.same e a) (DnAll.same e b)
theorem DnAll.same (e : Same H H') : ∀ {vs : List V} {ds : List PyData}, DnAll K p H vs ds → DnAll K p H' vs ds
  | _, _, .nil => .nil
  | _, _, .cons r t => .cons (Dn.same e r) (DnAll.same e t)
end
end
section
variable {X : Cx} {pins : List (Addr × Obj)} {σ : St} {H : Hp} {s : Shared} {p : Addr}
mutual
/-- data without dicts is read -/
theorem Dn.reads (I : Inv X pins σ H s) : ∀ (d : PyData) (v : V) (u : Value), d.hasDict = false → Dn X.K p H v d → RelV v u → ∃ as, Reads s.heap u d as
  | .none, _, _, _, h, r => by
    cases h
    cases r
    exact ⟨_, Reads.none⟩
  | .bool b, _, _, _, h, r => by
    cases h
    cases r
    exact ⟨_, Reads.bool b⟩
  | .int i, _, _, _, h, r => by
    cases h
    obtain ⟨t, rfl⟩ := r
    exact ⟨_, Reads.int i t⟩
  | .str x, _, _, _, h, r => by
    cases h
    obtain ⟨t, rfl⟩ := r
    exact ⟨_, Reads.str x t⟩
  | .list ds, _, _, z, h, r => by
    cases h with
    | lst _ hs ha =>
      cases r
      obtain ⟨its, rv, ⟨o, n, ho, hc, _, hd⟩, _⟩ := I.list hs
      obtain ⟨as, hr⟩ := Dn.readsAll I ds _ its (by simpa only [PyData.hasDict] using z) ha rv
      exact ⟨_, Reads.list ho hc hd hr⟩
  | .tuple ds, _, _, z, h, r => by
    cases h with
    | tup hs ha =>
      cases r
      obtain ⟨its, rv, ⟨o, ho, hc, n, hd⟩, _⟩ := I.tuple hs
      obtain ⟨as, hr⟩ := Dn.readsAll I ds _ its (by simpa only [PyData.hasDict] using z) ha rv
      exact ⟨_, Reads.tuple ho hc hd hr⟩
  | .dict _, _, _, z, h, _ => by simp [PyData.hasDict] at z
theorem Dn.readsAll (I : Inv X pins σ H s) : ∀ (ds : List PyData) (vs : List V) (us : List Value), PyData.hasDictAll ds = false → DnAll X.K p H vs ds → Vals vs us → ∃ as, ReadsAll s.heap us ds as
  | [], _, _, _, h, r => by
    cases h
    cases r
    exact ⟨_, ReadsAll.nil⟩
  | d :: ds, _, _, z, h, r => by
    have z' : d.hasDict = false ∧ PyData.hasDictAll ds = false := by simpa [PyData.hasDictAll] using z
    cases h with
    | cons h1 h2 =>
      cases r with
      | cons r1 r2 =>
        obtain ⟨as, q1⟩ := Dn.reads I d _ _ z'.1 h1 r1
        obtain ⟨bs, q2⟩ := Dn.readsAll I ds _ _ z'.2 h2 r2
        exact ⟨_, ReadsAll.cons q1 q2⟩
end
/-- * of two ints that are not too big together -/
def CMulKb (i j : Int) : Prop := Builtin.Int.intBits i + Builtin.Int.intBits j ≤ 100000000
theorem CMulKb.ok {i j : Int} (h : CMulKb i j) : IntMulOk i j := by
  have h3 : Builtin.Int.intBits i + Builtin.Int.intBits j ≤ 100000000 := h
  have e : bitsLine = 134217728 := by decide
  unfold IntMulOk
  intro z
  rw [Bool.and_eq_true] at z
  have z2 := z.2
  unfold Builtin.Int.intTooBig at z2
  have z3 := of_decide_eq_true z2
  rw [e] at z3
  omega
theorem op_mulKb : OpR X (binaryOp .Mult) (rI CMulKb fun i j => .int (i * j)) := opI fun _ _ _ _ _ _ _ hc q => mul_int q hc.ok
end
end L2
namespace L2
open PySem PySem.Spec PyProof.Rows
structure FnG (P : Program) (w : World) (K : PySem.W.Frag) (mg : Str → Option Value) (base : Heap) (CX : CXT) (k : Nat) (f : Addr) (fd : FuncData) (ps : List Str) (sp : Sp) : Prop where
  size : ∀ vs H Q E, sp vs H Q E → vs.length = ps.length
  runs : ∀ (A : Around) (outer : List Env) (s : Shared) (H : Hp) (args : Args) (us : List Value) (vs : List V) (Q : VK) (E : XK),
    A.guards = some [] → Room k A → Env0 P w K mg base A outer s H → BindsTo s fd args (ps.zip us) → Vals vs us → sp vs H Q E →
    codeAny (model P w) A (.call (.ref f) args) (CR CX outer P w H s Q E) s
section
variable {P : Program} {w : World} {K : PySem.W.Frag} {mg : Str → Option Value} {base : Heap} {CX : CXT}
theorem FnG.more {j k : Nat} {f : Addr} {fd : FuncData} {ps : List Str} {sp : Sp} (F : FnG P w K mg base CX j f fd ps sp) (h : j ≤ k) : FnG P w K mg base CX k f fd ps sp :=
  ⟨F.size, fun A o s H args us vs Q E g r => F.runs A o s H args us vs Q E g (r.mono h)⟩
theorem FnG.of {k : Nat} {f : Addr} {fd : FuncData} {ps : List Str} {sp : Sp} (F : FnOk P w K mg base CX k f fd ps sp) : FnG P w K mg base CX k f fd ps sp :=
  ⟨F.len, fun A o s H args us vs Q E _ r => F.run A o s H args us vs Q E r⟩
/-- a def's body keeps it; in the body guards are known -/
theorem Fun.okG {x qual : Str} {st : Stmt} {f : Addr} {fd : FuncData} {N ps : List Str} {k : Nat} {sp : Sp} (F : Fun K x qual st f fd) (S : FnScope N ps (defScope st)) (len : ∀ vs H Q E, sp vs H Q E → vs.length = ps.length)
    (body : ∀ (cdv : Value) (A : Around) (outer : List Env) (s : Shared) (H : Hp) (vs : List V) (Q : VK) (E : XK), A.guards = some [] → Room k (A.deeper (envOfC qual (defScope st) s.heap.objs.size f cdv)) → sp vs H Q E →
      ∃ t, PSs (cxOf CX P w K mg base N qual (defScope st) f cdv A outer s H E) (defBody st) t ∧ t { nx := fun _ H' => Q .non H', rt := Q } (start N vs) H) : FnG P w K mg base CX (k + 1) f fd ps sp := by
  obtain ⟨oc, od, kV, doc, pm, an, cdv, ct, osl, rfl, lk, hcd⟩ := F.ex
  refine ⟨len, fun A outer s H args us vs Q E hg hr e0 hb r hsp => ?_⟩
  have KX : K.In s.heap := e0.mod.kin.keeps fun b o e => (e0.bs b o e).1
  have lim : s.heap.NoLimit := e0.mod.nolimit.keeps fun b o e => (e0.bs b o e).1
  have hk : ∀ y ∈ ps.zip us, (defScope st).names.lookup y.1 = some .local ∨ ((defScope st).names.lookup y.1 = some .cell ∧ ((cellsFrom (s.heap.objs.size + 1) (defScope st).names []).lookup y.1).isSome = true) := by
    rintro ⟨n, v⟩ hy
    exact (S.par n (List.of_mem_zip hy).1).elim .inl fun q => .inr ⟨q, PySem.W.cellsFrom_some _ _ _ (.inl q)⟩
  refine codeAny_call_function hr.depth (KX _ _ lk) rfl S.co S.gen rfl (PySem.W.codeRec_of KX hcd) (hb _ _ _ _ (wpAny_newFunctionEnv_cells S.kind hk fun env he s1 x => ?_))
  subst he
  obtain ⟨t, ht, hq⟩ := body cdv A outer s H vs Q E hg (hr.deeper _) hsp
  have I := inv_start (CX := CX) (E := E) S hr.hd e0 (len _ _ _ _ hsp) r x
  refine ⟨lim.keeps x.toInCall.keep, codeAny_func (wpAny_mono (ht.run [] s1 (start N vs) H _ I hq) (fun fl s' hs => ?_) fun e s' hs => hs)⟩
  cases fl
  case ret u =>
    obtain ⟨v, σ', H', J, rv, q⟩ := hs
    exact ⟨v, H', J.os, J.bare, J.base, J.hok, rv, q⟩
  case next =>
    obtain ⟨σ', H', J, q⟩ := hs
    exact ⟨V.non, H', J.os, J.bare, J.base, J.hok, rfl, q⟩
  case brk => exact hs.elim fun _ z => z.elim fun _ z => z.2.elim
  case cont => exact hs.elim fun _ z => z.elim fun _ z => z.2.elim
end
section
variable {X : Cx} {CX : CXT} {k : Nat} {f : Addr} {fd : FuncData} {ps : List Str} {sp : Sp} {dvs : List V} {ds : List Value} {E : XK} {x : Str} {p pos : Pos} {e : Expr} {es : List Expr} {t : TA}
theorem pe_callG (hgd : X.A.guards = some []) (F : FnG X.prog X.w X.K X.mg X.base CX k f fd ps sp) (hr : Room k X.A) (hg : Gl X x) (hm : X.mg x = some (.ref f)) (hk : PySem.W.keepIn X.K (.ref f) = true) (hb : Binds X.K fd ps ds) (hd : Vals dvs ds) (hx : Passes CX X E)
    (ha : PA X (e :: es) t) (hdb : (x == ("__debug__" : Str)) = false := by decide) (he : starEach (e :: es) X.env = (false, eval e X.env) :: starEach es X.env := by rfl)
    (hpl : (backTo pos (starEach es X.env)).any (·.1) = false := by rfl) : PE X (.Call (.Name x p) (e :: es) [] pos) (tCall sp dvs E t) := by
  refine ⟨fun pins s σ H Q I h => wpAny_Call_Name_kw (ld_glob I hg hm ?_ hdb)⟩
  refine PySem.W.callWith_K (h₀ := X.base) I.ok.mod.kin hk (thn (ha.run pos pins s σ H _ I h) fun us s1 ⟨vs, H1, I1, r, q⟩ => ⟨I1.kIn, ?_⟩) he hpl
  have r2 := r.append hd
  have hl : (us ++ ds).length = ps.length := r2.length.symm.trans (F.size _ _ _ _ q)
  refine wpAny_call (codeAny_mono (F.runs X.A X.stack s1 H1 ⟨us, []⟩ _ _ Q E hgd hr I1.env0 (hb s1 us I1.kIn hl) r2 q) fun r s' hq => ?_)
  cases r
  case error e => exact hx pins σ H1 s1 e s' I1 hq
  case ok fl =>
    cases fl
    case ret u => exact I1.after hq
    all_goals exact hq.elim
end
theorem law_callG {P : Program} {w : World} {K : PySem.W.Frag} {mg mb : Str → Option Value} {CX : CXT} {k : Nat} {fa a : Addr} {fd : FuncData} {x : Str} {sp : Sp} {s₁ : Shared} {vs : List Value} {ns : List Int}
    (KX : K.In s₁.heap) (hns : s₁.heap.Ns mainGlobals mg) (hb : s₁.heap.Ns builtinsNs mb) (hbb : ∀ x : Str, x ≠ "__name__" → mb x = bootBuiltins x) (hlim : s₁.heap.NoLimit) (hg : s₁.gens = #[])
    (ha : s₁.heap.get? a = some { cls := .type "list", data := .seq vs.toArray }) (hi : IntsAre vs ns) (hl : ns.length ≤ sizeLine) (hr : Room k callerA)
    (F : ∀ base : Heap, K.In base → base.Ns mainGlobals mg → FnG P w K mg base CX k fa fd [x] sp) (hbind : ∀ (s : Shared) (u : Value), BindsTo s fd ⟨[u], []⟩ [(x, u)])
    (hsp : ∀ H : Hp, Only H → SqL K H a (ns.map V.int) → sp [.ref a] H (fun v _ => v = .bl true) fun _ _ _ => False)
    (hCX : ∀ H e s', CX [] H s₁ (fun _ _ _ => False) e s' → False) :
    codeAny (model P w) callerA (.call (.ref fa) ⟨[.ref a], []⟩) (fun r s' => r = .ok (.ret (.bool true)) ∧ OldK s₁.heap s'.heap ∧ s'.os = s₁.os ∧ AllBare s'.gens) s₁ := by
  have rv := vals_ints hi
  have lenV := hi.length
  -- H tracks nothing, or the script alone
  have core : ∀ H : Hp, Only H → SqL K H a (ns.map V.int) → HOk P w H s₁.heap → (∀ b, H b ≠ none → b = a ∧ K.lookup a = none) →
      codeAny (model P w) callerA (.call (.ref fa) ⟨[.ref a], []⟩) (fun r s' => r = .ok (.ret (.bool true)) ∧ OldK s₁.heap s'.heap ∧ s'.os = s₁.os ∧ AllBare s'.gens) s₁ := by
    intro H hO hS hok hA
    have free : ∀ {b : Addr} {o : Obj}, s₁.heap.get? b = some o → (∀ l, o.data ≠ .seq vs.toArray l) → H b = none := fun {b o} e d => by
      cases q : H b with
      | none => rfl
      | some u =>
        obtain ⟨rfl, _⟩ := hA b (by rw [q]; exact Option.some_ne_none _)
        rw [ha] at e
        cases e
        exact absurd rfl (d _)
    have nsK : ∀ {b : Addr} {m : Str → Option Value}, s₁.heap.Ns b m → (hidT s₁.heap H).Ns b m := fun ⟨o, es, ep, e, d, r⟩ => ⟨o, es, ep, hidT_get e (free e fun l z => by rw [d] at z; cases z), d, r⟩
    have hKb : K.In (hidT s₁.heap H) := fun b o e => hidT_get (KX b o e) (by
      cases q : H b with
      | none => rfl
      | some u =>
        obtain ⟨rfl, z⟩ := hA b (by rw [q]; exact Option.some_ne_none _)
        rw [z] at e
        cases e)
    have hM : Mod K mg (hidT s₁.heap H) := ⟨hKb, nsK hns, ⟨mb, nsK hb, hbb⟩, hlim.elim fun mc h => ⟨mc, nsK h.1, h.2⟩⟩
    have e0 : Env0 P w K mg (hidT s₁.heap H) callerA [] s₁ H := ⟨rfl, hM, fun b o e => of_hidT e, Nat.le_of_eq (hidT_size _ _), trivial, fun b hb => absurd (show b ∈ ([] : List Addr) from hb) (by simp), hok, .of_eq hg⟩
    refine codeAny_mono ((F _ hKb (nsK hns)).runs callerA [] s₁ H ⟨[.ref a], []⟩ [.ref a] [.ref a] _ _ rfl hr e0 (hbind s₁ (.ref a)) (.cons rfl .nil) (hsp H hO hS)) fun r s' h => ?_
    cases r
    case error e => exact (hCX H e s' h).elim
    case ok fl =>
      cases fl
      case ret u =>
        obtain ⟨v, H', os, bare, un, hok', r', q⟩ := h
        obtain rfl : v = .bl true := q
        obtain rfl : u = Value.bool true := r'
        refine ⟨rfl, OldK.of_keep fun b o e => ?_, os, bare⟩
        rcases hO b with q | ⟨ob, xs, q⟩
        · exact un.keep b o e q (fun z => absurd (show b ∈ ([] : List Addr) from z) (by simp)) (by simp)
        · obtain ⟨e1, _⟩ := hok b _ q
          obtain ⟨e2, _⟩ := hok' b _ (un.frzs b ob _ q)
          rw [e] at e1
          cases e1
          exact e2
      all_goals exact h.elim
  cases hk : K.lookup a with
  | some o =>
    have e := KX a o hk
    rw [ha] at e
    cases e
    exact core (fun _ => none) (fun _ => .inl rfl) (.inr ⟨_, vs.toArray, _, hk, rfl, rfl, rfl, by rw [List.size_toArray, lenV]; exact hl, by simpa using rv⟩) (fun b u z => by cases (show (none : Option HO) = some u from z)) fun b z => absurd rfl z
  | none =>
    have at_ : ∀ b, (fun b => if b = a then some (HO.frz { cls := .type "list", data := .seq vs.toArray } (.lst (ns.map V.int))) else none) b ≠ none → b = a := fun b z => by
      by_cases q : b = a
      · exact q
      · exact absurd (if_neg q) z
    refine core (fun b => if b = a then some (.frz { cls := .type "list", data := .seq vs.toArray } (.lst (ns.map V.int))) else none) (fun b => ?_) (.inl (.inr ⟨{ cls := .type "list", data := .seq vs.toArray }, if_pos rfl⟩)) (fun b u z => ?_) fun b z => ⟨at_ b z, hk⟩
    · by_cases q : b = a
      · exact .inr ⟨_, _, if_pos q⟩
      · exact .inl (if_neg q)
    · have q : b = a := at_ b (by rw [z]; exact Option.some_ne_none _)
      subst q
      have z' := (if_pos rfl).symm.trans z
      cases z'
      exact ⟨ha, by rw [List.length_map]; exact hl, vs, _, rv, ha⟩
theorem walk_ofG {l : PySem.W.OpenLaw} {n k : Nat} {q : Program} {loose : List Str} {XP : (Str → Option Value) → Heap → Prop} {YP : World → Heap → Prop} {d : DefRec} {K : Params → PySem.W.Frag} {CX : World → CXT} {sp : World → Sp} {x : Str}
    (hn : l.most = some n) (hn2 : n ≤ sizeLine) (hdf : d.params.defaults = []) (hr : Room k callerA)
    (hY : ∀ (w : World) (h : Heap), YP w h → (K w.params).In h)
    (F : ∀ (w : World) (mg : Str → Option Value) (fa : Addr) (h : Heap), (K w.params).In h → h.Ns mainGlobals mg → mg d.name = some (.ref fa) →
      ∃ fd : FuncData, (∀ (s : Shared) (u : Value), BindsTo s fd ⟨[u], []⟩ [(x, u)]) ∧
        ∀ base : Heap, (K w.params).In base → base.Ns mainGlobals mg → FnG l.prog w (K w.params) mg base (CX w) k fa fd [x] (sp w))
    (hsp : ∀ (w : World) (H : Hp) (a : Addr) (ns : List Int), ns.length ≤ n → (∀ z ∈ ns, Builtin.Int.intBits z ≤ 1048576) → Only H → SqL (K w.params) H a (ns.map V.int) → sp w [.ref a] H (fun v _ => v = .bl true) fun _ _ _ => False)
    (hCX : ∀ (w : World) (H : Hp) (s : Shared) (e : Value) (s' : Shared), CX w [] H s (fun _ _ _ => False) e s' → False) :
    PySem.W.WalkO q loose XP YP l.row.toRowW d [] (fun f vs => PySem.call f vs) := by
  refine Att.attach_callB hn hdf fun w s₀ s₁ mg mb fa o pm cd doc a vs ns G Y ho hd hcd hmg hobj hints hlen hbits hg => ?_
  obtain ⟨fd, hb, hF⟩ := F w mg fa _ (hY w _ Y) G.T.g hmg
  exact law_callG (hY w _ Y) G.T.g G.T.b G.T.builtins G.T.nolimit hg hobj hints (Nat.le_trans hlen hn2) hr hF hb (fun H hO hS => hsp w H a ns hlen hbits hO hS) fun H e s' => hCX w H s₁ e s'
end L2
namespace L2
open PySem PySem.Spec PyProof.Rows
/-- a def of the module -/
structure Df (K : PySem.W.Frag) (mg : Str → Option Value) (x : Str) (st : Stmt) (ps : List Str) where
  f : Addr
  fd : FuncData
  F : Fun K x x st f fd
  g : mg x = some (.ref f)
  b : Binds K fd ps []
/-- a method without defaults -/
structure Dm (K : PySem.W.Frag) (C : Addr) (x qual : Str) (st : Stmt) (ps : List Str) where
  f : Addr
  fd : FuncData
  F : Fun K x qual st f fd
  m : Meth K C x f
  b : Binds K fd ps []
/-- a method whose last parameter has the default v -/
structure Dd (K : PySem.W.Frag) (C : Addr) (x qual : Str) (st : Stmt) (ps : List Str) (v : V) where
  f : Addr
  fd : FuncData
  F : FunD K x qual (defArgs st) (defBody st) (defScope st) [v] [] f fd
  m : Meth K C x f
  b : Binds K fd ps []
  b1 : ∃ ds, Vals [v] ds ∧ Binds K fd ps ds
/-- a property -/
structure Dp' (K : PySem.W.Frag) (C : Addr) (x qual : Str) (st : Stmt) where
  f : Addr
  fd : FuncData
  F : Fun K x qual st f fd
  p : Addr
  P : PropOf K C x p f
  b : Binds K fd ["self"] []
/-- a constant -/
structure Ci (mg : Str → Option Value) (x : Str) (n : Int) where
  t : Tok
  g : mg x = some (.int n t)
structure Cs (mg : Str → Option Value) (x : Str) (z : Str) where
  t : Tok
  g : mg x = some (.str z t)
structure Ct (K : PySem.W.Frag) (mg : Str → Option Value) (x : Str) (vs : List V) where
  a : Addr
  g : mg x = some (.ref a)
  q : ∀ H : Hp, SqT K H a vs
end L2
set_option autoImplicit false
namespace DL
open PySem PySem.Spec PyProof.Rows L2
inductive D where
  | non | bl (b : Bool) | int (i : Int) | str (x : Str)
  | tup (ds : List D) | lst (ds : List D)
  | dic (ks : List Key) (vs : List D) | dit (ks : List (List Key)) (vs : List D)
  | ins (C : Addr) (ns : List Str) (vs : List D)
  | cls (a : Addr) | ty (n : String) | scr (ns : List Int)
/-- what is frozen of a heap (the script) -/
def fz (H : Hp) : Hp := fun b => match H b with
  | some (.frz o u) => some (.frz o u)
  | _ => none
theorem fz_some {H : Hp} {b : Addr} {o : HO} (h : fz H b = some o) : ∃ ob u, o = .frz ob u ∧ H b = some (.frz ob u) := by
  unfold fz at h
  split at h
  · rename_i ob u e
    cases h
    exact ⟨ob, u, rfl, e⟩
  · cases h
theorem fz_of {H : Hp} {b : Addr} {ob : Obj} {u : HO} (h : H b = some (.frz ob u)) : fz H b = some (.frz ob u) := by
  unfold fz
  rw [h]
theorem fz_mono {K : PySem.W.Frag} {H H' : Hp} {a : Addr} {xs : List V} (e : ∀ b o u, H b = some (.frz o u) → H' b = some (.frz o u)) (h : SqL K (fz H) a xs) : SqL K (fz H') a xs := by
  rcases h with (h | ⟨o, h⟩) | h
  · obtain ⟨_, _, z, _⟩ := fz_some h
    cases z
  · obtain ⟨ob, u, z, w⟩ := fz_some h
    cases z
    exact .inl (.inr ⟨_, fz_of (e _ _ _ w)⟩)
  · exact .inr h
theorem fz_sub {K : PySem.W.Frag} {H : Hp} {a : Addr} {xs : List V} (h : SqL K (fz H) a xs) : SqL K H a xs := by
  rcases h with (h | ⟨o, h⟩) | h
  · obtain ⟨_, _, z, _⟩ := fz_some h
    cases z
  · obtain ⟨ob, u, z, w⟩ := fz_some h
    cases z
    exact .inl (.inr ⟨_, w⟩)
  · exact .inr h
instance : Inhabited D := ⟨.non⟩
mutual
/-- v stands for d, and leans on no list, dict or instance of M -/
inductive Dat (K : PySem.W.Frag) (M : Addr → Prop) (H : Hp) : V → D → Prop
  | non : Dat K M H .non .non
  | bl (b : Bool) : Dat K M H (.bl b) (.bl b)
  | int (i : Int) : Dat K M H (.int i) (.int i)
  | str (x : Str) : Dat K M H (.str x) (.str x)
  | tup {a : Addr} {xs : List V} {ds : List D} : SqT K H a xs → DatAll K M H xs ds → Dat K M H (.ref a) (.tup ds)
  | lst {a : Addr} {xs : List V} {ds : List D} : ¬ M a → H a = some (.lst xs) → DatAll K M H xs ds → Dat K M H (.ref a) (.lst ds)
  | dic {a : Addr} {kvs : List (Key × V)} {ks : List Key} {ds : List D} : ¬ M a → Rd H a (.dK kvs) → kvs.map (·.1) = ks → DatAll K M H (kvs.map (·.2)) ds → Dat K M H (.ref a) (.dic ks ds)
  | dit {a : Addr} {kvs : List (List Key × V)} {ks : List (List Key)} {ds : List D} : ¬ M a → Rd H a (.dT kvs) → kvs.map (·.1) = ks → DatAll K M H (kvs.map (·.2)) ds → Dat K M H (.ref a) (.dit ks ds)
  | ins {a C dx : Addr} {fs : List (Str × V)} {ns : List Str} {ds : List D} : ¬ M a → H a = some (.ins C dx fs) → fs.map (·.1) = ns → DatAll K M H (fs.map (·.2)) ds → Dat K M H (.ref a) (.ins C ns ds)
  | cls (a : Addr) : Dat K M H (.ref a) (.cls a)
  | ty (n : String) : Dat K M H (.ty n) (.ty n)
  | scr {a : Addr} {ns : List Int} : SqL K (fz H) a (ns.map V.int) → Dat K M H (.ref a) (.scr ns)
inductive DatAll (K : PySem.W.Frag) (M : Addr → Prop) (H : Hp) : List V → List D → Prop
  | nil : DatAll K M H [] []
  | cons {v : V} {vs : List V} {d : D} {ds : List D} : Dat K M H v d → DatAll K M H vs ds → DatAll K M H (v :: vs) (d :: ds)
end
/-- what may change -/
def MutK : HO → Prop
  | .lst _ | .dK _ | .dT _ | .ins _ _ _ => True
  | _ => False
/-- what stands at M may change -/
def Kind (M : Addr → Prop) (H : Hp) : Prop := ∀ b, M b → ∃ o, H b = some o ∧ MutK o
/-- from (M, H) on: what is not of M stays; only new objects come to M -/
structure Ev (M : Addr → Prop) (H : Hp) (M' : Addr → Prop) (H' : Hp) : Prop where
  m : ∀ b, M' b → M b ∨ H b = none
  h : ∀ b o, ¬ M b → H b = some o → H' b = some o
section
variable {K : PySem.W.Frag} {M M' M1 M2 : Addr → Prop} {H H' H1 H2 : Hp}
theorem Ev.refl : Ev M H M H := ⟨fun _ h => .inl h, fun _ _ _ h => h⟩
theorem Ev.trans (a : Ev M H M1 H1) (b : Ev M1 H1 M2 H2) : Ev M H M2 H2 := by
  refine ⟨fun c h => ?_, fun c o n e => ?_⟩
  · rcases b.m c h with h | h
    · exact a.m c h
    · by_cases z : M c
      · exact .inl z
      · cases q : H c with
        | none => exact .inr rfl
        | some o => rw [a.h c o z q] at h; cases h
  · refine b.h c o (fun z => ?_) (a.h c o n e)
    rcases a.m c z with z | z
    · exact n z
    · rw [e] at z; cases z
theorem Ev.same (s : Same H H') : Ev M H M H' := ⟨fun _ h => .inl h, fun b o _ e => s b o e⟩
theorem Ev.less (s : ∀ b, M' b → M b) : Ev M H M' H := ⟨fun b h => .inl (s b h), fun _ _ _ e => e⟩
theorem Ev.not (e : Ev M H M' H') {b : Addr} {o : HO} (n : ¬ M b) (h : H b = some o) : ¬ M' b := fun z => by
  rcases e.m b z with z | z
  · exact n z
  · rw [h] at z; cases z
theorem Ev.rd (e : Ev M H M' H') {b : Addr} {u : HO} (n : ¬ M b) (h : Rd H b u) : Rd H' b u := by
  rcases h with h | ⟨o, h⟩
  · exact .inl (e.h _ _ n h)
  · exact .inr ⟨o, e.h _ _ n h⟩
theorem rd_some {b : Addr} {u : HO} (h : Rd H b u) : ∃ o, H b = some o := by
  rcases h with h | ⟨o, h⟩
  · exact ⟨_, h⟩
  · exact ⟨_, h⟩
theorem Kind.notTup (k : Kind M H) {b : Addr} {xs : List V} (h : H b = some (.tup xs)) : ¬ M b := fun z => by
  obtain ⟨o, e, m⟩ := k b z
  rw [h] at e; cases e; exact m
theorem Kind.notFrz (k : Kind M H) {b : Addr} {o : Obj} {u : HO} (h : H b = some (.frz o u)) : ¬ M b := fun z => by
  obtain ⟨o', e, m⟩ := k b z
  rw [h] at e; cases e; exact m
theorem Kind.sqT (k : Kind M H) (e : Ev M H M' H') {a : Addr} {xs : List V} (h : SqT K H a xs) : SqT K H' a xs := by
  rcases h with (h | ⟨o, h⟩) | h
  · exact .inl (.inl (e.h _ _ (k.notTup h) h))
  · exact .inl (.inr ⟨o, e.h _ _ (k.notFrz h) h⟩)
  · exact .inr h
mutual
theorem Dat.ev (k : Kind M H) (e : Ev M H M' H') : ∀ {v : V} {d : D}, Dat K M H v d → Dat K M' H' v d
  | _, _, .non => .non
  | _, _, .bl b => .bl b
  | _, _, .int i => .int i
  | _, _, .str x => .str x
  | _, _, .tup h a => .tup (k.sqT e h) (DatAll.ev k e a)
  | _, _, .lst n h a => .lst (e.not n h) (e.h _ _ n h) (DatAll.ev k e a)
  | _, _, .dic n h q a => .dic ((rd_some h).elim fun _ z => e.not n z) (e.rd n h) q (DatAll.ev k e a)
  | _, _, .dit n h q a => .dit ((rd_some h).elim fun _ z => e.not n z) (e.rd n h) q (DatAll.ev k e a)
  | _, _, .ins n h q a => .ins (e.not n h) (e.h _ _ n h) q (DatAll.ev k e a)
  | _, _, .cls a => .cls a
  | _, _, .ty a => .ty a
  | _, _, .scr h => .scr (fz_mono (fun b o u q => e.h _ _ (k.notFrz q) q) h)
theorem DatAll.ev (k : Kind M H) (e : Ev M H M' H') : ∀ {vs : List V} {ds : List D}, DatAll K M H vs ds → DatAll K M' H' vs ds
  | _, _, .nil => .nil
  | _, _, .cons r t => .cons (Dat.ev k e r) (DatAll.ev k e t)
end
mutual
theorem Dat.less (s : ∀ b, M' b → M b) : ∀ {v : V} {d : D}, Dat K M H v d → Dat K M' H v d
  | _, _, .non => .non
  | _, _, .bl b => .bl b
  | _, _, .int i => .int i
  | _, _, .str x => .str x
  | _, _, .tup h a => .tup h (DatAll.less s a)
  | _, _, .lst n h a => .lst (fun z => n (s _ z)) h (DatAll.less s a)
  | _, _, .dic n h q a => .dic (fun z => n (s _ z)) h q (DatAll.less s a)
  | _, _, .dit n h q a => .dit (fun z => n (s _ z)) h q (DatAll.less s a)
  | _, _, .ins n h q a => .ins (fun z => n (s _ z)) h q (DatAll.less s a)
  | _, _, .cls a => .cls a
  | _, _, .ty a => .ty a
  | _, _, .scr h => .scr h
theorem DatAll.less (s : ∀ b, M' b → M b) : ∀ {vs : List V} {ds : List D}, DatAll K M H vs ds → DatAll K M' H vs ds
  | _, _, .nil => .nil
  | _, _, .cons r t => .cons (Dat.less s r) (DatAll.less s t)
end
theorem same_seqT {a : Addr} {xs : List V} (e : Same H H') (h : SqT K H a xs) : SqT K H' a xs := by
  rcases h with (h | ⟨o, h⟩) | h
  · exact .inl (.inl (e _ _ h))
  · exact .inl (.inr ⟨o, e _ _ h⟩)
  · exact .inr h
theorem same_rd {a : Addr} {u : HO} (e : Same H H') (h : Rd H a u) : Rd H' a u := by
  rcases h with h | ⟨o, h⟩
  · exact .inl (e _ _ h)
  · exact .inr ⟨o, e _ _ h⟩
mutual
theorem Dat.same (e : Same H H') : ∀ {v : V} {d : D}, Dat K M H v d → Dat K M H' v d
  | _, _, .non => .non
  | _, _, .bl b => .bl b
  | _, _, .int i => .int i
  | _, _, .str x => .str x
  | _, _, .tup h a => .tup (same_seqT e h) (DatAll.same e a)
  | _, _, .lst n h a => .lst n (e _ _ h) (DatAll.same e a)
  | _, _, .dic n h q a => .dic n (same_rd e h) q (DatAll.same e a)
  | _, _, .dit n h q a => .dit n (same_rd e h) q (DatAll.same e a)
  | _, _, .ins n h q a => .ins n (e _ _ h) q (DatAll.same e a)
  | _, _, .cls a => .cls a
  | _, _, .ty a => .ty a
  | _, _, .scr h => .scr (fz_mono (fun b o u q => e _ _ q) h)
theorem DatAll.same (e : Same H H') : ∀ {vs : List V} {ds : List D}, DatAll K M H vs ds → DatAll K M H' vs ds
  | _, _, .nil => .nil
  | _, _, .cons r t => .cons (Dat.same e r) (DatAll.same e t)
end
theorem DatAll.length : ∀ {vs : List V} {ds : List D}, DatAll K M H vs ds → vs.length = ds.length
  | _, _, .nil => rfl
  | _, _, .cons _ t => by rw [List.length_cons, List.length_cons, DatAll.length t]
theorem DatAll.get : ∀ {vs : List V} {ds : List D} {i : Nat} {v : V}, DatAll K M H vs ds → vs[i]? = some v → ∃ d, ds[i]? = some d ∧ Dat K M H v d
  | _, _, _, _, .nil, e => by simp at e
  | _, _, 0, _, .cons r _, e => by simp at e; subst e; exact ⟨_, rfl, r⟩
  | _, _, i + 1, v, .cons _ t, e => by
    obtain ⟨u, h1, h2⟩ := DatAll.get (i := i) (v := v) t (by simpa using e)
    exact ⟨u, by simpa using h1, h2⟩
theorem DatAll.getD : ∀ {vs : List V} {ds : List D} {i : Nat} {d : D}, DatAll K M H vs ds → ds[i]? = some d → ∃ v, vs[i]? = some v ∧ Dat K M H v d
  | _, _, _, _, .nil, e => by simp at e
  | _, _, 0, _, .cons r _, e => by simp at e; subst e; exact ⟨_, rfl, r⟩
  | _, _, i + 1, v, .cons _ t, e => by
    obtain ⟨u, h1, h2⟩ := DatAll.getD (i := i) (d := v) t (by simpa using e)
    exact ⟨u, by simpa using h1, h2⟩
theorem DatAll.append : ∀ {vs us : List V} {ds es : List D}, DatAll K M H vs ds → DatAll K M H us es → DatAll K M H (vs ++ us) (ds ++ es)
  | _, _, _, _, .nil, s => s
  | _, _, _, _, .cons r t, s => .cons r (DatAll.append t s)
theorem DatAll.take : ∀ {vs : List V} {ds : List D} (n : Nat), DatAll K M H vs ds → DatAll K M H (vs.take n) (ds.take n)
  | _, _, 0, _ => by simp only [List.take_zero]; exact .nil
  | _, _, _ + 1, .nil => .nil
  | _, _, n + 1, .cons r t => .cons r (DatAll.take n t)
theorem DatAll.drop : ∀ {vs : List V} {ds : List D} (n : Nat), DatAll K M H vs ds → DatAll K M H (vs.drop n) (ds.drop n)
  | _, _, 0, r => r
  | _, _, _ + 1, .nil => .nil
  | _, _, n + 1, .cons _ t => DatAll.drop n t
theorem DatAll.set {v : V} {d : D} (r : Dat K M H v d) : ∀ {vs : List V} {ds : List D} (i : Nat), DatAll K M H vs ds → DatAll K M H (vs.set i v) (ds.set i d)
  | _, _, _, .nil => .nil
  | _, _, 0, .cons _ t => .cons r t
  | _, _, i + 1, .cons q t => .cons q (DatAll.set r i t)
theorem DatAll.reverse : ∀ {vs : List V} {ds : List D}, DatAll K M H vs ds → DatAll K M H vs.reverse ds.reverse
  | _, _, .nil => .nil
  | _, _, .cons r t => by
    rw [List.reverse_cons, List.reverse_cons]
    exact (DatAll.reverse t).append (.cons r .nil)
theorem DatAll.strs : ∀ {vs : List V} {xs : List Str}, DatAll K M H vs (xs.map D.str) → vs = xs.map V.str
  | _, [], .nil => rfl
  | _, x :: xs, .cons r t => by cases r; rw [DatAll.strs t]; rfl
theorem DatAll.bls : ∀ {vs : List V} {xs : List Bool}, DatAll K M H vs (xs.map D.bl) → vs = xs.map V.bl
  | _, [], .nil => rfl
  | _, x :: xs, .cons r t => by cases r; rw [DatAll.bls t]; rfl
theorem DatAll.of_strs : ∀ (xs : List Str), DatAll K M H (xs.map V.str) (xs.map D.str)
  | [] => .nil
  | x :: xs => .cons (.str x) (DatAll.of_strs xs)
theorem DatAll.of_ints : ∀ (xs : List Int), DatAll K M H (xs.map V.int) (xs.map D.int)
  | [] => .nil
  | x :: xs => .cons (.int x) (DatAll.of_ints xs)
end
inductive Cont (K : PySem.W.Frag) (M : Addr → Prop) (H : Hp) : HO → D → Prop
  | lst {xs : List V} {ds : List D} : DatAll K M H xs ds → Cont K M H (.lst xs) (.lst ds)
  | dic {kvs : List (Key × V)} {ks : List Key} {ds : List D} : kvs.map (·.1) = ks → DatAll K M H (kvs.map (·.2)) ds → Cont K M H (.dK kvs) (.dic ks ds)
  | dit {kvs : List (List Key × V)} {ks : List (List Key)} {ds : List D} : kvs.map (·.1) = ks → DatAll K M H (kvs.map (·.2)) ds → Cont K M H (.dT kvs) (.dit ks ds)
  | ins {C dx : Addr} {fs : List (Str × V)} {ns : List Str} {ds : List D} : fs.map (·.1) = ns → DatAll K M H (fs.map (·.2)) ds → Cont K M H (.ins C dx fs) (.ins C ns ds)
def Own (K : PySem.W.Frag) (M : Addr → Prop) (H : Hp) (a : Addr) (d : D) : Prop := ∃ o, H a = some o ∧ Cont K M H o d
section
variable {K : PySem.W.Frag} {M M' : Addr → Prop} {H H' : Hp} {a : Addr} {d : D} {u : HO}
theorem Cont.mut (o : Cont K M H u d) : MutK u := by
  cases o <;> trivial
theorem Cont.ev (k : Kind M H) (e : Ev M H M' H') (o : Cont K M H u d) : Cont K M' H' u d := by
  cases o with
  | lst q => exact .lst (q.ev k e)
  | dic z q => exact .dic z (q.ev k e)
  | dit z q => exact .dit z (q.ev k e)
  | ins z q => exact .ins z (q.ev k e)
theorem Cont.same (e : Same H H') (o : Cont K M H u d) : Cont K M H' u d := by
  cases o with
  | lst q => exact .lst (q.same e)
  | dic z q => exact .dic z (q.same e)
  | dit z q => exact .dit z (q.same e)
  | ins z q => exact .ins z (q.same e)
theorem Cont.less (s : ∀ b, M' b → M b) (o : Cont K M H u d) : Cont K M' H u d := by
  cases o with
  | lst q => exact .lst (q.less s)
  | dic z q => exact .dic z (q.less s)
  | dit z q => exact .dit z (q.less s)
  | ins z q => exact .ins z (q.less s)
/-- it is data for whoever leaves it as it is -/
theorem Cont.dat (n : ¬ M a) (h : H a = some u) (o : Cont K M H u d) : Dat K M H (.ref a) d := by
  cases o with
  | lst q => exact .lst n h q
  | dic z q => exact .dic n (.inl h) z q
  | dit z q => exact .dit n (.inl h) z q
  | ins z q => exact .ins n h z q
end
end DL
set_option autoImplicit false
namespace DL
open PySem PySem.Spec PyProof.Rows L2
inductive Cell where
  | no | dat (d : D) | own (par : Bool) (d : D)
abbrev Cs := List Cell
abbrev Mo (α : Type) := Cs → Option (α × Cs)
/-- what the callers own (M0), what of it may be changed here (P), the heap at the entry -/
structure Ctx (K : PySem.W.Frag) where
  M0 : Addr → Prop
  P : Addr → Prop
  H0 : Hp
inductive CellR {K : PySem.W.Frag} (c : Ctx K) (M : Addr → Prop) (H : Hp) : Option V → Cell → Prop
  | no (x : Option V) : CellR c M H x .no
  | dat {v : V} {d : D} : Dat K M H v d → CellR c M H (some v) (.dat d)
  | own {p : Bool} {a : Addr} {d : D} : M a → (if p = true then c.P a else ¬ c.M0 a) → Own K M H a d → CellR c M H (some (.ref a)) (.own p d)
structure Sta {K : PySem.W.Frag} (c : Ctx K) (M : Addr → Prop) (σ : L2.St) (H : Hp) (ρ : Cs) : Prop where
  pm : ∀ b, c.P b → c.M0 b
  sub : ∀ b, c.M0 b → M b
  new : ∀ b, M b → ¬ c.M0 b → c.H0 b = none
  kind : Kind M H
  base : ∀ b o, ¬ c.P b → c.H0 b = some o → H b = some o
  len : ρ.length = σ.length
  cell : ∀ (i : Nat) x y, σ[i]? = some x → ρ[i]? = some y → CellR c M H x y
  inj : ∀ (i j : Nat) a p q d e, σ[i]? = some (some (.ref a)) → ρ[i]? = some (.own p d) → σ[j]? = some (some (.ref a)) → ρ[j]? = some (.own q e) → i = j
section
variable {K : PySem.W.Frag} {c : Ctx K} {M : Addr → Prop} {σ : L2.St} {H H' : Hp} {ρ : Cs}
theorem Sta.same (S : Sta c M σ H ρ) (e : Same H H') : Sta c M σ H' ρ := by
  refine ⟨S.pm, S.sub, S.new, fun b h => ?_, fun b o n h => e _ _ (S.base b o n h), S.len, fun i x y h1 h2 => ?_, S.inj⟩
  · obtain ⟨o, q, m⟩ := S.kind b h
    exact ⟨o, e _ _ q, m⟩
  · cases S.cell i x y h1 h2 with
    | no => exact .no _
    | dat q => exact .dat (q.same e)
    | own m p q => exact .own m p (q.elim fun o z => ⟨o, e _ _ z.1, z.2.same e⟩)
/-- the owned object of slot i is changed -/
theorem Sta.mut (S : Sta c M σ H ρ) {i : Nat} {a : Addr} {p : Bool} {d d' : D} (hi : σ[i]? = some (some (.ref a))) (hr : ρ[i]? = some (.own p d)) (ho : ∀ b o, b ≠ a → H b = some o → H' b = some o)
    (hn : Own K M H' a d') : Ev M H M H' ∧ Sta c M σ H' (ρ.set i (.own p d')) := by
  have hc := S.cell i _ _ hi hr
  have Ma : M a := by cases hc with | own m _ _ => exact m
  have Pa : if p = true then c.P a else ¬ c.M0 a := by cases hc with | own _ q _ => exact q
  have E : Ev M H M H' := ⟨fun b h => .inl h, fun b o n h => ho b o (fun z => n (by rw [z]; exact Ma)) h⟩
  refine ⟨E, S.pm, S.sub, S.new, fun b h => ?_, fun b o n h => ?_, by rw [List.length_set]; exact S.len, fun j x y h1 h2 => ?_, fun j k b p1 p2 d1 d2 a1 a2 a3 a4 => ?_⟩
  · by_cases z : b = a
    · subst z
      obtain ⟨u, q, w⟩ := hn
      exact ⟨u, q, w.mut⟩
    · obtain ⟨o, q, m⟩ := S.kind b h
      exact ⟨o, ho b o z q, m⟩
  · refine ho b o (fun z => ?_) (S.base b o n h)
    subst z
    cases p with
    | true => exact n Pa
    | false => rw [S.new b Ma (by simpa using Pa)] at h; cases h
  · by_cases z : j = i
    · subst z
      rw [hi] at h1; cases h1
      rw [List.getElem?_set_self (by
        obtain ⟨l, _⟩ := List.getElem?_eq_some_iff.mp hr
        exact l)] at h2
      cases h2
      exact .own Ma Pa hn
    · rw [List.getElem?_set_ne (Ne.symm z)] at h2
      have hcj := S.cell j x y h1 h2
      cases hcj with
      | no => exact .no _
      | dat q => exact .dat (q.ev S.kind E)
      | own m q w =>
        rename_i p' a' d''
        have ne : a' ≠ a := fun e => z (S.inj j i a p' p d'' d (by rw [← e]; exact h1) h2 hi hr)
        exact .own m q (w.elim fun o r => ⟨o, ho _ _ ne r.1, r.2.ev S.kind E⟩)
  · by_cases z1 : j = i
    · by_cases z2 : k = i
      · rw [z1, z2]
      · subst z1
        rw [List.getElem?_set_ne (Ne.symm z2)] at a4
        rw [hi] at a1; cases a1
        exact S.inj j k _ p p2 d d2 hi hr a3 a4
    · rw [List.getElem?_set_ne (Ne.symm z1)] at a2
      by_cases z2 : k = i
      · subst z2
        rw [hi] at a3; cases a3
        exact S.inj j k _ p1 p d1 d a1 a2 hi hr
      · rw [List.getElem?_set_ne (Ne.symm z2)] at a4
        exact S.inj j k b p1 p2 d1 d2 a1 a2 a3 a4
theorem Sta.setDat (S : Sta c M σ H ρ) (i : Nat) {v : V} {d : D} (h : Dat K M H v d) : Sta c M (σ.set i (some v)) H (ρ.set i (.dat d)) := by
  refine ⟨S.pm, S.sub, S.new, S.kind, S.base, by rw [List.length_set, List.length_set]; exact S.len, fun j x y h1 h2 => ?_, fun j k b p1 p2 d1 d2 a1 a2 a3 a4 => ?_⟩
  · by_cases z : i = j
    · subst z
      have l : i < ρ.length := by
        have := (List.getElem?_eq_some_iff.mp h2).1
        simpa using this
      rw [List.getElem?_set_self (by rw [← S.len]; exact l)] at h1
      rw [List.getElem?_set_self l] at h2
      cases h1; cases h2
      exact .dat h
    · rw [List.getElem?_set_ne z] at h1 h2
      exact S.cell j x y h1 h2
  · have one : ∀ {n : Nat} {q : Bool} {e : D}, (ρ.set i (.dat d))[n]? = some (.own q e) → i ≠ n := fun {n q e} h z => by
      subst z
      have l : i < ρ.length := by
        have := (List.getElem?_eq_some_iff.mp h).1
        simpa using this
      rw [List.getElem?_set_self l] at h
      cases h
    have z1 := one a2
    have z2 := one a4
    rw [List.getElem?_set_ne z1] at a1 a2
    rw [List.getElem?_set_ne z2] at a3 a4
    exact S.inj j k b p1 p2 d1 d2 a1 a2 a3 a4
/-- the owned object of slot i is changed no more -/
theorem Sta.freeze (S : Sta c M σ H ρ) {i : Nat} {a : Addr} {d : D} (hi : σ[i]? = some (some (.ref a))) (hr : ρ[i]? = some (.own false d)) :
    Ev M H (fun b => M b ∧ b ≠ a) H ∧ Sta c (fun b => M b ∧ b ≠ a) σ H (ρ.set i (.dat d)) ∧ Dat K (fun b => M b ∧ b ≠ a) H (.ref a) d := by
  have hc := S.cell i _ _ hi hr
  obtain ⟨na, o, ho, hd⟩ : ¬ c.M0 a ∧ Own K M H a d := by
    cases hc with | own _ q w => exact ⟨by simpa using q, w⟩
  have L : ∀ b, (M b ∧ b ≠ a) → M b := fun b h => h.1
  have E : Ev M H (fun b => M b ∧ b ≠ a) H := Ev.less L
  have Q : Dat K (fun b => M b ∧ b ≠ a) H (.ref a) d := (hd.less L).dat (fun z => z.2 rfl) ho
  refine ⟨E, ⟨S.pm, fun b h => ⟨S.sub b h, fun z => na (by rw [← z]; exact h)⟩, fun b h n => S.new b h.1 n, fun b h => S.kind b h.1, S.base, by rw [List.length_set]; exact S.len, fun j x y h1 h2 => ?_, fun j k b p1 p2 d1 d2 a1 a2 a3 a4 => ?_⟩, Q⟩
  · by_cases z : j = i
    · subst z
      rw [hi] at h1; cases h1
      rw [List.getElem?_set_self (by
        obtain ⟨l, _⟩ := List.getElem?_eq_some_iff.mp hr
        exact l)] at h2
      cases h2
      exact .dat Q
    · rw [List.getElem?_set_ne (Ne.symm z)] at h2
      cases hcj : S.cell j x y h1 h2 with
      | no => exact .no _
      | dat q => exact .dat (q.less L)
      | own m q w =>
        rename_i p' a' d''
        have ne : a' ≠ a := fun e => z (S.inj j i a p' false d'' d (by rw [← e]; exact h1) h2 hi hr)
        exact .own ⟨m, ne⟩ q (w.elim fun o r => ⟨o, r.1, r.2.less L⟩)
  · have one : ∀ {n : Nat} {q : Bool} {e : D}, (ρ.set i (.dat d))[n]? = some (.own q e) → i ≠ n := fun {n q e} h z => by
      subst z
      have l : i < ρ.length := by
        have := (List.getElem?_eq_some_iff.mp h).1
        simpa using this
      rw [List.getElem?_set_self l] at h
      cases h
    have z1 := one a2
    have z2 := one a4
    rw [List.getElem?_set_ne z1] at a2
    rw [List.getElem?_set_ne z2] at a4
    exact S.inj j k b p1 p2 d1 d2 a1 a2 a3 a4
theorem Sta.dat (S : Sta c M σ H ρ) {i : Nat} {d : D} (h : ρ[i]? = some (.dat d)) : ∃ v, σ[i]? = some (some v) ∧ Dat K M H v d := by
  have l : i < σ.length := by rw [← S.len]; exact (List.getElem?_eq_some_iff.mp h).1
  have e : σ[i]? = some σ[i] := List.getElem?_eq_getElem l
  generalize σ[i] = x at e
  cases S.cell i x _ e h with
  | dat q => exact ⟨_, e, q⟩
theorem Sta.own (S : Sta c M σ H ρ) {i : Nat} {p : Bool} {d : D} (h : ρ[i]? = some (.own p d)) : ∃ a, σ[i]? = some (some (.ref a)) ∧ M a ∧ (if p = true then c.P a else ¬ c.M0 a) ∧ Own K M H a d := by
  have l : i < σ.length := by rw [← S.len]; exact (List.getElem?_eq_some_iff.mp h).1
  have e : σ[i]? = some σ[i] := List.getElem?_eq_getElem l
  generalize σ[i] = x at e
  cases S.cell i x _ e h with
  | own m q w => exact ⟨_, e, m, q, w⟩
end
def Held (σ : L2.St) (ρ : Cs) (a : Addr) : Prop := ∃ (i : Nat) (p : Bool) (d : D), σ[i]? = some (some (V.ref a)) ∧ ρ[i]? = some (Cell.own p d)
structure Es (σ : L2.St) (M : Addr → Prop) (H : Hp) (ρ : Cs) (σ' : L2.St) (M' : Addr → Prop) (H' : Hp) (ρ' : Cs) : Prop where
  ev : Ev M H M' H'
  kp : ∀ b o, ¬ Held σ ρ b → H b = some o → H' b = some o
  hs : ∀ b o, H b = some o → Held σ' ρ' b → Held σ ρ b
  mc : ∀ b, M b → ¬ Held σ ρ b → M' b
  dm : ∀ b, H' b = none → H b = none
section
variable {σ σ1 σ2 : L2.St} {M M1 M2 : Addr → Prop} {H H1 H2 : Hp} {ρ ρ1 ρ2 : Cs}
theorem Es.refl : Es σ M H ρ σ M H ρ := ⟨.refl, fun _ _ _ h => h, fun _ _ _ h => h, fun _ h _ => h, fun _ h => h⟩
theorem Es.trans (a : Es σ M H ρ σ1 M1 H1 ρ1) (b : Es σ1 M1 H1 ρ1 σ2 M2 H2 ρ2) (k : Kind M H) : Es σ M H ρ σ2 M2 H2 ρ2 := by
  have hs : ∀ c o, H c = some o → ¬ Held σ ρ c → ¬ Held σ1 ρ1 c := fun c o h n z => n (a.hs c o h z)
  refine ⟨a.ev.trans b.ev, fun c o n h => b.kp c o (hs c o h n) (a.kp c o n h), fun c o h z => ?_, fun c h n => ?_, fun c h => a.dm c (b.dm c h)⟩
  · by_cases n : Held σ ρ c
    · exact n
    · exact (n (a.hs c o h (b.hs c o (a.kp c o n h) z))).elim
  · obtain ⟨o, e, _⟩ := k c h
    exact b.mc c (a.mc c h n) (hs c o e n)
theorem Es.same (s : Same H H1) : Es σ M H ρ σ M H1 ρ := ⟨.same s, fun b o _ h => s b o h, fun _ _ _ h => h, fun _ h _ => h, fun _ h => s.free h⟩
end
theorem held_freeze {σ : L2.St} {ρ : Cs} {i : Nat} {d : D} (b : Addr) (h : Held σ (ρ.set i (.dat d)) b) : Held σ ρ b := by
  obtain ⟨j, p, e, h1, h2⟩ := h
  by_cases z : i = j
  · subst z
    have l : i < ρ.length := by
      have := (List.getElem?_eq_some_iff.mp h2).1
      simpa using this
    rw [List.getElem?_set_self l] at h2
    cases h2
  · rw [List.getElem?_set_ne z] at h2
    exact ⟨j, p, e, h1, h2⟩
theorem held_mut {σ : L2.St} {ρ : Cs} {i : Nat} {p : Bool} {d d' : D} (hr : ρ[i]? = some (.own p d)) (b : Addr) (h : Held σ (ρ.set i (.own p d')) b) : Held σ ρ b := by
  obtain ⟨j, q, e, h1, h2⟩ := h
  by_cases z : i = j
  · subst z
    exact ⟨i, p, d, h1, hr⟩
  · rw [List.getElem?_set_ne z] at h2
    exact ⟨j, q, e, h1, h2⟩
theorem Sta.freezeE {K : PySem.W.Frag} {c : Ctx K} {M : Addr → Prop} {σ : L2.St} {H : Hp} {ρ : Cs} (S : Sta c M σ H ρ) {i : Nat} {a : Addr} {d : D} (hi : σ[i]? = some (some (.ref a))) (hr : ρ[i]? = some (.own false d)) :
    Es σ M H ρ σ (fun b => M b ∧ b ≠ a) H (ρ.set i (.dat d)) ∧ Sta c (fun b => M b ∧ b ≠ a) σ H (ρ.set i (.dat d)) ∧ Dat K (fun b => M b ∧ b ≠ a) H (.ref a) d := by
  obtain ⟨E, S', h⟩ := S.freeze hi hr
  exact ⟨⟨E, fun _ _ _ h => h, fun b _ _ => held_freeze b, fun b h n => ⟨h, fun z => n ⟨i, false, d, by rw [z]; exact hi, hr⟩⟩, fun _ h => h⟩, S', h⟩
theorem Sta.mutE {K : PySem.W.Frag} {c : Ctx K} {M : Addr → Prop} {σ : L2.St} {H H' : Hp} {ρ : Cs} (S : Sta c M σ H ρ) {i : Nat} {a : Addr} {p : Bool} {d d' : D} (hi : σ[i]? = some (some (.ref a))) (hr : ρ[i]? = some (.own p d)) (ho : ∀ b o, b ≠ a → H b = some o → H' b = some o)
    (hn : Own K M H' a d') : Es σ M H ρ σ M H' (ρ.set i (.own p d')) ∧ Sta c M σ H' (ρ.set i (.own p d')) := by
  obtain ⟨E, S'⟩ := S.mut hi hr ho hn
  refine ⟨⟨E, fun b o n h => ho b o (fun z => n ⟨i, p, d, by rw [z]; exact hi, hr⟩) h, fun b _ _ => held_mut hr b, fun _ h _ => h, fun b h => ?_⟩, S'⟩
  by_cases z : b = a
  · subst z
    obtain ⟨u, q, _⟩ := hn
    rw [q] at h; cases h
  · cases q : H b with
    | none => rfl
    | some o => rw [ho b o z q] at h; cases h
/-- an object that no slot holds yet -/
theorem Sta.hold {K : PySem.W.Frag} {c : Ctx K} {M : Addr → Prop} {σ : L2.St} {H H' : Hp} {ρ : Cs} (S : Sta c M σ H ρ) {a : Addr} {o : HO} (hf : H a = none) (e : Same H H') (ho : H' a = some o) (hm : MutK o) :
    Es σ M H ρ σ (fun b => M b ∨ b = a) H' ρ ∧ Sta c (fun b => M b ∨ b = a) σ H' ρ ∧ ¬ Held σ ρ a := by
  have nM : ¬ M a := fun z => by
    obtain ⟨u, q, _⟩ := S.kind a z
    rw [hf] at q; cases q
  have E : Ev M H (fun b => M b ∨ b = a) H' := ⟨fun b h => h.elim .inl fun z => .inr (by rw [z]; exact hf), fun b u _ h => e _ _ h⟩
  have h0 : c.H0 a = none := by
    cases q : c.H0 a with
    | none => rfl
    | some u =>
      by_cases z : c.P a
      · exact absurd (S.sub a (S.pm a z)) nM
      · rw [S.base a u z q] at hf; cases hf
  refine ⟨⟨E, fun b u _ h => e _ _ h, fun _ _ _ h => h, fun b h _ => .inl h, fun _ h => e.free h⟩, ⟨S.pm, fun b h => .inl (S.sub b h), fun b h n => h.elim (fun z => S.new b z n) (fun z => by rw [z]; exact h0), fun b h => ?_, fun b u n h => e _ _ (S.base b u n h), S.len, fun j x y h1 h2 => ?_, S.inj⟩, ?_⟩
  · rcases h with h | h
    · obtain ⟨u, q, m⟩ := S.kind b h
      exact ⟨u, e _ _ q, m⟩
    · rw [h]; exact ⟨o, ho, hm⟩
  · cases S.cell j x y h1 h2 with
    | no => exact .no _
    | dat q => exact .dat (q.ev S.kind E)
    | own m p q => exact .own (.inl m) p (q.elim fun u w => ⟨u, e _ _ w.1, w.2.ev S.kind E⟩)
  · rintro ⟨j, p, d, h1, h2⟩
    cases S.cell j _ _ h1 h2 with
    | own m _ _ => exact nM m
/-- .. comes to slot i -/
theorem Sta.take {K : PySem.W.Frag} {c : Ctx K} {M : Addr → Prop} {σ : L2.St} {H : Hp} {ρ : Cs} (S : Sta c M σ H ρ) {a : Addr} {d : D} (i : Nat) (hM : M a) (h0 : c.H0 a = none) (n0 : ¬ c.M0 a) (ho : Own K M H a d) (hh : ¬ Held σ ρ a) :
    Sta c M (σ.set i (some (.ref a))) H (ρ.set i (.own false d)) := by
  refine ⟨S.pm, S.sub, S.new, S.kind, S.base, by rw [List.length_set, List.length_set]; exact S.len, fun j x y h1 h2 => ?_, fun j k b p1 p2 d1 d2 a1 a2 a3 a4 => ?_⟩
  · by_cases z : i = j
    · subst z
      have l : i < ρ.length := by
        have := (List.getElem?_eq_some_iff.mp h2).1
        simpa using this
      rw [List.getElem?_set_self (by rw [← S.len]; exact l)] at h1
      rw [List.getElem?_set_self l] at h2
      cases h1; cases h2
      exact .own hM (by simpa using n0) ho
    · rw [List.getElem?_set_ne z] at h1 h2
      exact S.cell j x y h1 h2
  · by_cases z1 : i = j
    · by_cases z2 : i = k
      · rw [← z1, ← z2]
      · subst z1
        have l : i < ρ.length := by
          have := (List.getElem?_eq_some_iff.mp a2).1
          simpa using this
        rw [List.getElem?_set_self (by rw [← S.len]; exact l)] at a1
        cases a1
        rw [List.getElem?_set_ne z2] at a3 a4
        exact (hh ⟨k, p2, d2, a3, a4⟩).elim
    · by_cases z2 : i = k
      · subst z2
        have l : i < ρ.length := by
          have := (List.getElem?_eq_some_iff.mp a4).1
          simpa using this
        rw [List.getElem?_set_self (by rw [← S.len]; exact l)] at a3
        cases a3
        rw [List.getElem?_set_ne z1] at a1 a2
        exact (hh ⟨j, p1, d1, a1, a2⟩).elim
      · rw [List.getElem?_set_ne z1] at a1 a2
        rw [List.getElem?_set_ne z2] at a3 a4
        exact S.inj j k b p1 p2 d1 d2 a1 a2 a3 a4
/-- what is free at the entry -/
theorem Sta.free0 {K : PySem.W.Frag} {c : Ctx K} {M : Addr → Prop} {σ : L2.St} {H : Hp} {ρ : Cs} (S : Sta c M σ H ρ) {a : Addr} (hf : H a = none) : c.H0 a = none ∧ ¬ c.M0 a := by
  have nM : ¬ M a := fun z => by
    obtain ⟨u, q, _⟩ := S.kind a z
    rw [hf] at q; cases q
  refine ⟨?_, fun z => nM (S.sub a z)⟩
  cases q : c.H0 a with
  | none => rfl
  | some u =>
    by_cases z : c.P a
    · exact absurd (S.sub a (S.pm a z)) nM
    · rw [S.base a u z q] at hf; cases hf
/-- an object that no slot holds is given up -/
theorem Sta.unhold {K : PySem.W.Frag} {c : Ctx K} {M : Addr → Prop} {σ : L2.St} {H : Hp} {ρ : Cs} (S : Sta c M σ H ρ) {a : Addr} (n0 : ¬ c.M0 a) (nh : ¬ Held σ ρ a) : Sta c (fun b => M b ∧ b ≠ a) σ H ρ := by
  have L : ∀ b, (M b ∧ b ≠ a) → M b := fun b h => h.1
  refine ⟨S.pm, fun b h => ⟨S.sub b h, fun z => n0 (by rw [← z]; exact h)⟩, fun b h n => S.new b h.1 n, fun b h => S.kind b h.1, S.base, S.len, fun j x y h1 h2 => ?_, S.inj⟩
  cases S.cell j x y h1 h2 with
  | no => exact .no _
  | dat q => exact .dat (q.less L)
  | own m q w =>
    rename_i p' a' d''
    exact .own ⟨m, fun e => nh ⟨j, p', d'', by rw [← e]; exact h1, h2⟩⟩ q (w.elim fun o r => ⟨o, r.1, r.2.less L⟩)
def REv {K : PySem.W.Frag} (c : Ctx K) (t : TE) (m : Mo D) : Prop := ∀ M σ H ρ, Sta c M σ H ρ → ∀ d ρ', m ρ = some (d, ρ') → ∀ Q : VK, (∀ M' v H', Es σ M H ρ σ M' H' ρ' → Sta c M' σ H' ρ' → Dat K M' H' v d → Q v H') → t σ H Q
def RTt {K : PySem.W.Frag} (c : Ctx K) (t : TT) (m : Mo Bool) : Prop := ∀ M σ H ρ, Sta c M σ H ρ → ∀ b ρ', m ρ = some (b, ρ') → ∀ Q : Bool → Hp → Prop, (∀ M' H', Es σ M H ρ σ M' H' ρ' → Sta c M' σ H' ρ' → Q b H') → t σ H Q
def RAv {K : PySem.W.Frag} (c : Ctx K) (t : TA) (m : Mo (List D)) : Prop := ∀ M σ H ρ, Sta c M σ H ρ → ∀ ds ρ', m ρ = some (ds, ρ') → ∀ Q : List V → Hp → Prop, (∀ M' vs H', Es σ M H ρ σ M' H' ρ' → Sta c M' σ H' ρ' → DatAll K M' H' vs ds → Q vs H') → t σ H Q
/-- a new object, which no slot holds yet -/
structure Nw {K : PySem.W.Frag} (c : Ctx K) (M : Addr → Prop) (σ : L2.St) (H : Hp) (ρ : Cs) (a : Addr) (d : D) : Prop where
  m : M a
  nh : ¬ Held σ ρ a
  h0 : c.H0 a = none
  n0 : ¬ c.M0 a
  o : Own K M H a d
def RNw {K : PySem.W.Frag} (c : Ctx K) (t : TE) (m : Mo D) : Prop := ∀ M σ H ρ, Sta c M σ H ρ → ∀ d ρ', m ρ = some (d, ρ') → ∀ Q : VK,
  (∀ M' a H', H a = none → Es σ M H ρ σ M' H' ρ' → Sta c M' σ H' ρ' → Nw c M' σ H' ρ' a d → Q (.ref a) H') → t σ H Q
/-- it stays while other things are reckoned -/
theorem Nw.es {K : PySem.W.Frag} {c : Ctx K} {M M' : Addr → Prop} {σ σ' : L2.St} {H H' : Hp} {ρ ρ' : Cs} {a : Addr} {d : D} (n : Nw c M σ H ρ a d) (k : Kind M H) (e : Es σ M H ρ σ' M' H' ρ') : Nw c M' σ' H' ρ' a d := by
  obtain ⟨o, ho, hc⟩ := n.o
  exact ⟨e.mc a n.m n.nh, fun z => n.nh (e.hs a o ho z), n.h0, n.n0, o, e.kp a o n.nh ho, hc.ev k e.ev⟩
theorem Sta.nw {K : PySem.W.Frag} {c : Ctx K} {M : Addr → Prop} {σ : L2.St} {H H' : Hp} {ρ : Cs} (S : Sta c M σ H ρ) {a : Addr} {o : HO} {d : D} (hf : H a = none) (e : Same H H') (ho : H' a = some o) (hd : Cont K M H o d) :
    Es σ M H ρ σ (fun b => M b ∨ b = a) H' ρ ∧ Sta c (fun b => M b ∨ b = a) σ H' ρ ∧ Nw c (fun b => M b ∨ b = a) σ H' ρ a d := by
  obtain ⟨E, S', n⟩ := S.hold hf e ho hd.mut
  exact ⟨E, S', .inr rfl, n, (S.free0 hf).1, (S.free0 hf).2, o, ho, hd.ev S.kind E.ev⟩
theorem Sta.takeN {K : PySem.W.Frag} {c : Ctx K} {M : Addr → Prop} {σ : L2.St} {H : Hp} {ρ : Cs} (S : Sta c M σ H ρ) {a : Addr} {d : D} (n : Nw c M σ H ρ a d) (i : Nat) : Sta c M (σ.set i (some (.ref a))) H (ρ.set i (.own false d)) := S.take i n.m n.h0 n.n0 n.o n.nh
/-- given up: it is data -/
theorem Nw.give {K : PySem.W.Frag} {c : Ctx K} {M : Addr → Prop} {σ : L2.St} {H : Hp} {ρ : Cs} {a : Addr} {d : D} (n : Nw c M σ H ρ a d) (S : Sta c M σ H ρ) :
    Ev M H (fun b => M b ∧ b ≠ a) H ∧ Sta c (fun b => M b ∧ b ≠ a) σ H ρ ∧ Dat K (fun b => M b ∧ b ≠ a) H (.ref a) d := by
  obtain ⟨o, ho, hc⟩ := n.o
  exact ⟨Ev.less fun b h => h.1, S.unhold n.n0 n.nh, (hc.less fun b h => h.1).dat (fun z => z.2 rfl) ho⟩
theorem RNw.ev {K : PySem.W.Frag} {c : Ctx K} {t : TE} {m : Mo D} (h : RNw c t m) : REv c t m := fun M σ H ρ S d ρ' e Q q => h M σ H ρ S d ρ' e Q fun M' a H' f E S1 n => by
  obtain ⟨E2, S2, D2⟩ := n.give S1
  refine q _ (.ref a) H' ⟨E.ev.trans E2, E.kp, E.hs, fun b h1 h2 => ⟨E.mc b h1 h2, fun z => ?_⟩, E.dm⟩ S2 D2
  subst z
  obtain ⟨o, w, _⟩ := S.kind b h1
  rw [f] at w; cases w
inductive Fl where
  | nx | rt (d : D) | rn (d : D) | bk | ct
def Post {K : PySem.W.Frag} (c : Ctx K) (M : Addr → Prop) (H : Hp) (D : Ends) : Fl → Cs → Prop
  | .nx, ρ' => ∀ M' σ' H', Ev M H M' H' → Sta c M' σ' H' ρ' → D.nx σ' H'
  | .rt d, ρ' => ∀ M' σ' v H', Ev M H M' H' → Sta c M' σ' H' ρ' → Dat K M' H' v d → D.rt v H'
  | .rn d, ρ' => ∀ M' σ' a H', Ev M H M' H' → Sta c M' σ' H' ρ' → Nw c M' σ' H' ρ' a d → D.rt (.ref a) H'
  | .bk, ρ' => ∀ M' σ' H', Ev M H M' H' → Sta c M' σ' H' ρ' → D.bk σ' H'
  | .ct, ρ' => ∀ M' σ' H', Ev M H M' H' → Sta c M' σ' H' ρ' → D.ct σ' H'
def RSt {K : PySem.W.Frag} (c : Ctx K) (t : TS) (m : Mo Fl) : Prop := ∀ M σ H ρ, Sta c M σ H ρ → ∀ f ρ', m ρ = some (f, ρ') → ∀ D : Ends, Post c M H D f ρ' → t D σ H
/-- a target takes a value -/
def RTg {K : PySem.W.Frag} (c : Ctx K) (g : TG) (m : D → Mo Unit) : Prop := ∀ M σ H ρ, Sta c M σ H ρ → ∀ v d, Dat K M H v d → ∀ u ρ', m d ρ = some (u, ρ') → ∀ Q : L2.St → Hp → Prop, (∀ M' σ' H', Es σ M H ρ σ' M' H' ρ' → Sta c M' σ' H' ρ' → Q σ' H') → g v σ H Q
def RTgs {K : PySem.W.Frag} (c : Ctx K) (g : TGs) (m : List D → Mo Unit) : Prop := ∀ M σ H ρ, Sta c M σ H ρ → ∀ vs ds, DatAll K M H vs ds → ∀ u ρ', m ds ρ = some (u, ρ') → ∀ Q : L2.St → Hp → Prop, (∀ M' σ' H', Es σ M H ρ σ' M' H' ρ' → Sta c M' σ' H' ρ' → Q σ' H') → g vs σ H Q
theorem Post.ev {K : PySem.W.Frag} {c : Ctx K} {M M' : Addr → Prop} {H H' : Hp} {D : Ends} {f : Fl} {ρ : Cs} (E : Ev M H M' H') (p : Post c M H D f ρ) : Post c M' H' D f ρ := by
  cases f with
  | nx => exact fun M' σ' H' e s => p M' σ' H' (E.trans e) s
  | rt d => exact fun M' σ' v H' e s h => p M' σ' v H' (E.trans e) s h
  | rn d => exact fun M' σ' a H' e s => p M' σ' a H' (E.trans e) s
  | bk => exact fun M' σ' H' e s => p M' σ' H' (E.trans e) s
  | ct => exact fun M' σ' H' e s => p M' σ' H' (E.trans e) s
structure DE (X : Cx) {K : PySem.W.Frag} (c : Ctx K) (e : Expr) (t : TE) (m : Mo D) : Prop where
  p : PE X e t
  r : REv c t m
structure DN (X : Cx) {K : PySem.W.Frag} (c : Ctx K) (e : Expr) (t : TE) (m : Mo D) : Prop where
  p : PE X e t
  r : RNw c t m
structure DT (X : Cx) {K : PySem.W.Frag} (c : Ctx K) (e : Expr) (t : TT) (m : Mo Bool) : Prop where
  p : PT X e t
  r : RTt c t m
structure DW (X : Cx) {K : PySem.W.Frag} (c : Ctx K) (e : Expr) (t : TT) (m : Mo Bool) : Prop where
  p : PW X e t
  r : RTt c t m
structure DA (X : Cx) {K : PySem.W.Frag} (c : Ctx K) (es : List Expr) (t : TA) (m : Mo (List D)) : Prop where
  p : PA X es t
  r : RAv c t m
structure DS (X : Cx) {K : PySem.W.Frag} (c : Ctx K) (s : Stmt) (t : TS) (m : Mo Fl) : Prop where
  p : PS X s t
  r : RSt c t m
structure DB (X : Cx) {K : PySem.W.Frag} (c : Ctx K) (s : List Stmt) (t : TS) (m : Mo Fl) : Prop where
  p : PSs X s t
  r : RSt c t m
structure DG (X : Cx) {K : PySem.W.Frag} (c : Ctx K) (e : Expr) (t : TG) (m : D → Mo Unit) : Prop where
  p : PG X e t
  r : RTg c t m
structure DGs (X : Cx) {K : PySem.W.Frag} (c : Ctx K) (es : List Expr) (t : TGs) (m : List D → Mo Unit) : Prop where
  p : PGs X es t
  r : RTgs c t m
theorem DN.e {X : Cx} {K : PySem.W.Frag} {c : Ctx K} {e : Expr} {t : TE} {m : Mo D} (h : DN X c e t m) : DE X c e t m := ⟨h.p, h.r.ev⟩
end DL
set_option autoImplicit false
namespace DL
open PySem PySem.Spec PyProof.Rows L2
mutual
def toP : D → PyData
  | .non => .none | .bl b => .bool b | .int i => .int i | .str x => .str x
  | .tup ds => .tuple (toPs ds) | .lst ds => .list (toPs ds)
  | .dic _ _ | .dit _ _ | .ins _ _ _ | .cls _ | .ty _ | .scr _ => .none
def toPs : List D → List PyData
  | [] => []
  | d :: r => toP d :: toPs r
end
mutual
def plain : D → Bool
  | .non | .bl _ | .int _ | .str _ => true
  | .tup ds | .lst ds => plains ds
  | .dic _ _ | .dit _ _ | .ins _ _ _ | .cls _ | .ty _ | .scr _ => false
def plains : List D → Bool
  | [] => true
  | d :: r => plain d && plains r
end
mutual
theorem noDict : ∀ d : D, plain d = true → (toP d).hasDict = false
  | .non, _ | .bl _, _ | .int _, _ | .str _, _ => by simp [toP, PyData.hasDict]
  | .tup ds, h | .lst ds, h => by simp only [toP, PyData.hasDict]; exact noDicts ds (by simpa only [plain] using h)
  | .dic _ _, h | .dit _ _, h | .ins _ _ _, h | .cls _, h | .ty _, h | .scr _, h => by simp [plain] at h
theorem noDicts : ∀ ds : List D, plains ds = true → PyData.hasDictAll (toPs ds) = false
  | [], _ => by simp [toPs, PyData.hasDictAll]
  | d :: r, h => by
    simp only [plains, Bool.and_eq_true] at h
    simp only [toPs, PyData.hasDictAll, noDict d h.1, noDicts r h.2]
    rfl
end
section
variable {X : Cx} {pins : List (Addr × Obj)} {σ : L2.St} {M : Addr → Prop} {H : Hp} {s : Shared}
mutual
theorem Dat.reads (I : Inv X pins σ H s) : ∀ (d : D) (v : V) (u : Value), plain d = true → Dat X.K M H v d → RelV v u → ∃ as, Reads s.heap u (toP d) as
  | .non, _, _, _, .non, r => by cases r; exact ⟨_, by simp only [toP]; exact Reads.none⟩
  | .bl b, _, _, _, .bl _, r => by cases r; exact ⟨_, by simp only [toP]; exact Reads.bool b⟩
  | .int i, _, _, _, .int _, r => by obtain ⟨t, rfl⟩ := r; exact ⟨_, by simp only [toP]; exact Reads.int i t⟩
  | .str x, _, _, _, .str _, r => by obtain ⟨t, rfl⟩ := r; exact ⟨_, by simp only [toP]; exact Reads.str x t⟩
  | .lst ds, _, _, z, .lst _ h a, r => by
    cases r
    obtain ⟨its, rv, ⟨o, n, ho, hc, _, hd⟩, _⟩ := I.list (SqL.of h)
    obtain ⟨as, hr⟩ := Dat.readsAll I ds _ its (by simpa only [plain] using z) a rv
    exact ⟨_, by simp only [toP]; exact Reads.list ho hc hd hr⟩
  | .tup ds, _, _, z, .tup h a, r => by
    cases r
    obtain ⟨its, rv, ⟨o, ho, hc, n, hd⟩, _⟩ := I.tuple h
    obtain ⟨as, hr⟩ := Dat.readsAll I ds _ its (by simpa only [plain] using z) a rv
    exact ⟨_, by simp only [toP]; exact Reads.tuple ho hc hd hr⟩
  | .dic _ _, _, _, z, _, _ | .dit _ _, _, _, z, _, _ | .ins _ _ _, _, _, z, _, _ | .cls _, _, _, z, _, _ | .ty _, _, _, z, _, _ | .scr _, _, _, z, _, _ => by simp [plain] at z
theorem Dat.readsAll (I : Inv X pins σ H s) : ∀ (ds : List D) (vs : List V) (us : List Value), plains ds = true → DatAll X.K M H vs ds → Vals vs us → ∃ as, ReadsAll s.heap us (toPs ds) as
  | [], _, _, _, .nil, r => by cases r; exact ⟨_, by simp only [toPs]; exact ReadsAll.nil⟩
  | d :: ds, _, _, z, .cons h1 h2, r => by
    have z' : plain d = true ∧ plains ds = true := by simpa [plains] using z
    cases r with
    | cons r1 r2 =>
      obtain ⟨as, q1⟩ := Dat.reads I d _ _ z'.1 h1 r1
      obtain ⟨bs, q2⟩ := Dat.readsAll I ds _ _ z'.2 h2 r2
      exact ⟨_, by simp only [toPs]; exact ReadsAll.cons q1 q2⟩
end
end
def rD (K : PySem.W.Frag) (g : D → D → Option D) : R2 := fun x y H Q => ∃ M d e r, Kind M H ∧ Dat K M H x d ∧ Dat K M H y e ∧ g d e = some r ∧ ∀ u H', Same H H' → Dat K M H' u r → Q u H'
/-- calls -/
def rC (K : PySem.W.Frag) (g : List D → Option D) : List V → Hp → VK → Prop := fun xs H Q => ∃ M ds r, Kind M H ∧ DatAll K M H xs ds ∧ g ds = some r ∧ ∀ u H', Same H H' → Dat K M H' u r → Q u H'
/-- slices -/
def rS (K : PySem.W.Frag) (g : D → Option Int → Option Int → Option D) : V → Option Int → Option Int → Hp → VK → Prop := fun x lo hi H Q => ∃ M d r, Kind M H ∧ Dat K M H x d ∧ g d lo hi = some r ∧ ∀ u H', Same H H' → Dat K M H' u r → Q u H'
theorem Kind.fresh {M : Addr → Prop} {H : Hp} (k : Kind M H) {a : Addr} (h : H a = none) : ¬ M a := fun z => by
  obtain ⟨u, q, _⟩ := k a z
  rw [h] at q; cases q
/-- a new tuple, a new list -/
theorem dat_tup {K : PySem.W.Frag} {M : Addr → Prop} {H : Hp} {p : Addr} {xs : List V} {ds : List D} (hp : H p = none) (h : DatAll K M H xs ds) : Same H (upd H p (.tup xs)) ∧ Dat K M (upd H p (.tup xs)) (.ref p) (.tup ds) :=
  ⟨same_new hp, .tup (.inl (.inl upd_same)) (h.same (same_new hp))⟩
theorem dat_lst {K : PySem.W.Frag} {M : Addr → Prop} {H : Hp} {p : Addr} {xs : List V} {ds : List D} (k : Kind M H) (hp : H p = none) (h : DatAll K M H xs ds) : Same H (upd H p (.lst xs)) ∧ Dat K M (upd H p (.lst xs)) (.ref p) (.lst ds) :=
  ⟨same_new hp, .lst (k.fresh hp) upd_same (h.same (same_new hp))⟩
def dAdd : D → D → Option D
  | .int i, .int j => some (.int (i + j))
  | .str x, .str y => if x.length + y.length ≤ sizeLine then some (.str (x ++ y)) else none
  | .tup a, .tup b => if a.length + b.length ≤ sizeLine then some (.tup (a ++ b)) else none
  | .lst a, .lst b => if a.length + b.length ≤ sizeLine then some (.lst (a ++ b)) else none
  | _, _ => none
def dSub : D → D → Option D
  | .int i, .int j => some (.int (i - j))
  | _, _ => none
def dMul : D → D → Option D
  | .int i, .int j => if Builtin.Int.intBits i + Builtin.Int.intBits j ≤ 100000000 then some (.int (i * j)) else none
  | .lst a, .int j => if -(2 ^ 63) ≤ j ∧ j < 2 ^ 63 ∧ a.length * j.toNat ≤ sizeLine then some (.lst (List.replicate j.toNat a).flatten) else none
  | _, _ => none
theorem DatAll.rep {K : PySem.W.Frag} {M : Addr → Prop} {H : Hp} {vs : List V} {ds : List D} (h : DatAll K M H vs ds) : ∀ n : Nat, DatAll K M H (List.replicate n vs).flatten (List.replicate n ds).flatten
  | 0 => .nil
  | n + 1 => by
    rw [List.replicate_succ, List.replicate_succ, List.flatten_cons, List.flatten_cons]
    exact h.append (DatAll.rep h n)
def dDiv : D → D → Option D
  | .int i, .int j => if 0 < j ∧ j.natAbs.log2 < 9000 then some (.int (i / j)) else none
  | _, _ => none
def dMod : D → D → Option D
  | .int i, .int j => if 0 < j then some (.int (i % j)) else none
  | _, _ => none
def dPow : D → D → Option D
  | .int i, .int j => if 0 ≤ j ∧ j ≤ 1000000 ∧ i.natAbs < 2 ^ 64 then some (.int (i ^ j.toNat)) else none
  | _, _ => none
section
variable {X : Cx}
theorem if_some {α : Type} {c : Prop} [Decidable c] {a b : α} (h : (if c then some a else none) = some b) : c ∧ a = b := by
  split at h
  · exact ⟨by assumption, Option.some.inj h⟩
  · cases h
theorem op_ADD : OpR X (binaryOp .Add) (rD X.K dAdd) := by
  intro pins s σ H x y v u Q I rx ry h
  obtain ⟨M, d, e, r, k, hd, he, hg, q⟩ := h
  cases d <;> cases e <;> try (simp [dAdd] at hg; done)
  case int.int i j =>
    cases hd; cases he
    cases hg
    exact op_add pins s σ H _ _ v u Q I rx ry ⟨i, j, rfl, rfl, q _ H (.refl H) (.int _)⟩
  case str.str a b =>
    cases hd; cases he
    obtain ⟨z, rfl⟩ := if_some hg
    exact op_add_str pins s σ H _ _ v u Q I rx ry ⟨a, b, rfl, rfl, z, q _ H (.refl H) (.str _)⟩
  case tup.tup a b =>
    obtain ⟨z, rfl⟩ := if_some hg
    cases hd with
    | tup h1 a1 =>
      cases he with
      | tup h2 a2 =>
        rw [← a1.length, ← a2.length] at z
        refine op_catA pins s σ H _ _ v u Q I rx ry ⟨_, _, _, _, rfl, rfl, h1, h2, z, fun e => ?_, fun _ e => ?_, fun _ _ p hp => ?_⟩
        · subst e; cases a1; exact q _ H (.refl H) (.tup h2 a2)
        · subst e; cases a2; rw [List.append_nil] at q; exact q _ H (.refl H) (.tup h1 a1)
        · exact q _ _ (dat_tup hp (a1.append a2)).1 (dat_tup hp (a1.append a2)).2
  case lst.lst a b =>
    obtain ⟨z, rfl⟩ := if_some hg
    cases hd with
    | lst n1 h1 a1 =>
      cases he with
      | lst n2 h2 a2 =>
        rw [← a1.length, ← a2.length] at z
        refine op_cat pins s σ H _ _ v u Q I rx ry ⟨_, _, _, _, rfl, rfl, h1, h2, z, fun p hp => ?_⟩
        exact q _ _ (dat_lst k hp (a1.append a2)).1 (dat_lst k hp (a1.append a2)).2
theorem op_SUB : OpR X (binaryOp .Sub) (rD X.K dSub) := by
  intro pins s σ H x y v u Q I rx ry h
  obtain ⟨M, d, e, r, k, hd, he, hg, q⟩ := h
  cases d <;> cases e <;> try (simp [dSub] at hg; done)
  cases hd; cases he; cases hg
  exact op_sub pins s σ H _ _ v u Q I rx ry ⟨_, _, rfl, rfl, q _ H (.refl H) (.int _)⟩
theorem op_MUL : OpR X (binaryOp .Mult) (rD X.K dMul) := by
  intro pins s σ H x y v u Q I rx ry h
  obtain ⟨M, d, e, r, k, hd, he, hg, q⟩ := h
  cases d <;> cases e <;> try (simp [dMul] at hg; done)
  case int.int =>
    cases hd; cases he
    obtain ⟨z, rfl⟩ := if_some hg
    exact op_mulKb pins s σ H _ _ v u Q I rx ry ⟨_, _, rfl, rfl, z, q _ H (.refl H) (.int _)⟩
  case lst.int =>
    cases he
    obtain ⟨⟨z1, z2, z3⟩, rfl⟩ := if_some hg
    cases hd with
    | lst n h1 a1 =>
      rw [← a1.length] at z3
      refine op_rep pins s σ H _ _ v u Q I rx ry ⟨_, _, _, rfl, rfl, h1, z1, z2, z3, fun p hp => ?_⟩
      exact q _ _ (dat_lst k hp (a1.rep _)).1 (dat_lst k hp (a1.rep _)).2
theorem op_DIV : OpR X (binaryOp .FloorDiv) (rD X.K dDiv) := by
  intro pins s σ H x y v u Q I rx ry h
  obtain ⟨M, d, e, r, k, hd, he, hg, q⟩ := h
  cases d <;> cases e <;> try (simp [dDiv] at hg; done)
  cases hd; cases he
  obtain ⟨z, rfl⟩ := if_some hg
  exact op_fdivW pins s σ H _ _ v u Q I rx ry ⟨_, _, rfl, rfl, z, q _ H (.refl H) (.int _)⟩
theorem op_MOD : OpR X (binaryOp .Mod) (rD X.K dMod) := by
  intro pins s σ H x y v u Q I rx ry h
  obtain ⟨M, d, e, r, k, hd, he, hg, q⟩ := h
  cases d <;> cases e <;> try (simp [dMod] at hg; done)
  cases hd; cases he
  obtain ⟨z, rfl⟩ := if_some hg
  exact op_mod pins s σ H _ _ v u Q I rx ry ⟨_, _, rfl, rfl, z, q _ H (.refl H) (.int _)⟩
theorem op_POW : OpR X (binaryOp .Pow) (rD X.K dPow) := by
  intro pins s σ H x y v u Q I rx ry h
  obtain ⟨M, d, e, r, k, hd, he, hg, q⟩ := h
  cases d <;> cases e <;> try (simp [dPow] at hg; done)
  cases hd; cases he
  obtain ⟨z, rfl⟩ := if_some hg
  exact op_pow pins s σ H _ _ v u Q I rx ry ⟨_, _, rfl, rfl, z, q _ H (.refl H) (.int _)⟩
end
def dLt : D → D → Option D
  | .int i, .int j => some (.bl (decide (i < j)))
  | .str x, .str y => some (.bl (decide (x.cps.toList < y.cps.toList)))
  | _, _ => none
def dLe : D → D → Option D
  | .int i, .int j => some (.bl (decide (i ≤ j)))
  | _, _ => none
def dGt : D → D → Option D
  | .int i, .int j => some (.bl (decide (j < i)))
  | _, _ => none
def dGe : D → D → Option D
  | .int i, .int j => some (.bl (decide (j ≤ i)))
  | _, _ => none
/-- data that == looks at -/
def eqs (d e : D) : Option Bool :=
  if plain d = true ∧ plain e = true ∧ SeqAt.shaped (toP d) = true ∧ SeqAt.shaped (toP e) = true then some (PyData.eqv (toP d) (toP e)) else none
def dEq : D → D → Option D
  | .int i, .int j => some (.bl (i == j))
  | .str x, .str y => some (.bl (decide (x = y)))
  | .bl x, .bl y => some (.bl (x == y))
  | d, e => (eqs d e).map .bl
def dNe : D → D → Option D
  | .int i, .int j => some (.bl (!(i == j)))
  | .str x, .str y => some (.bl (!decide (x = y)))
  | .bl x, .bl y => some (.bl (!(x == y)))
  | d, e => (eqs d e).map fun b => .bl (!b)
def isNon : D → Bool
  | .non => true
  | _ => false
def dIs : D → D → Option D
  | d, .non => some (.bl (isNon d))
  | _, _ => none
def dIsNot : D → D → Option D
  | d, .non => some (.bl (!isNon d))
  | _, _ => none
theorem isNon_v {K : PySem.W.Frag} {M : Addr → Prop} {H : Hp} {v : V} {d : D} (h : Dat K M H v d) : decide (v = V.non) = isNon d := by
  cases h <;> simp [isNon]
section
variable {X : Cx}
theorem op_LT : OpR X (compareOp .Lt) (rD X.K dLt) := by
  intro pins s σ H x y v u Q I rx ry h
  obtain ⟨M, d, e, r, k, hd, he, hg, q⟩ := h
  cases d <;> cases e <;> try (simp [dLt] at hg; done)
  case int.int =>
    cases hd; cases he; cases hg
    exact op_lt pins s σ H _ _ v u Q I rx ry ⟨_, _, rfl, rfl, q _ H (.refl H) (.bl _)⟩
  case str.str =>
    cases hd; cases he; cases hg
    exact op_lt_str pins s σ H _ _ v u Q I rx ry ⟨_, _, rfl, rfl, q _ H (.refl H) (.bl _)⟩
theorem op_LE : OpR X (compareOp .LtE) (rD X.K dLe) := by
  intro pins s σ H x y v u Q I rx ry h
  obtain ⟨M, d, e, r, k, hd, he, hg, q⟩ := h
  cases d <;> cases e <;> try (simp [dLe] at hg; done)
  cases hd; cases he; cases hg
  exact op_le pins s σ H _ _ v u Q I rx ry ⟨_, _, rfl, rfl, q _ H (.refl H) (.bl _)⟩
theorem op_GT : OpR X (compareOp .Gt) (rD X.K dGt) := by
  intro pins s σ H x y v u Q I rx ry h
  obtain ⟨M, d, e, r, k, hd, he, hg, q⟩ := h
  cases d <;> cases e <;> try (simp [dGt] at hg; done)
  cases hd; cases he; cases hg
  exact op_gt pins s σ H _ _ v u Q I rx ry ⟨_, _, rfl, rfl, q _ H (.refl H) (.bl _)⟩
theorem op_GE : OpR X (compareOp .GtE) (rD X.K dGe) := by
  intro pins s σ H x y v u Q I rx ry h
  obtain ⟨M, d, e, r, k, hd, he, hg, q⟩ := h
  cases d <;> cases e <;> try (simp [dGe] at hg; done)
  cases hd; cases he; cases hg
  exact op_ge pins s σ H _ _ v u Q I rx ry ⟨_, _, rfl, rfl, q _ H (.refl H) (.bl _)⟩
theorem eqs_some {d e : D} {b : Bool} (h : eqs d e = some b) : plain d = true ∧ plain e = true ∧ SeqAt.shaped (toP d) = true ∧ SeqAt.shaped (toP e) = true ∧ PyData.eqv (toP d) (toP e) = b := by
  unfold eqs at h
  obtain ⟨⟨a, b, c, e⟩, f⟩ := if_some h
  exact ⟨a, b, c, e, f⟩
theorem op_EQ (hu : X.A.units + 64 < cLine) : OpR X (compareOp .Eq) (rD X.K dEq) := by
  intro pins s σ H x y v u Q I rx ry h
  obtain ⟨M, d, e, r, k, hd, he, hg, q⟩ := h
  by_cases c : ∃ b, eqs d e = some b ∧ r = .bl b
  · obtain ⟨b, eb, rfl⟩ := c
    obtain ⟨p1, p2, s1, s2, e3⟩ := eqs_some eb
    obtain ⟨as, r1⟩ := hd.reads I _ _ _ p1 rx
    obtain ⟨bs, r2⟩ := he.reads I _ _ _ p2 ry
    refine SeqAt.compareEq_shaped r1 r2 s1 s2 hu ?_
    rw [e3]
    exact ⟨.bl b, H, I, rfl, q _ H (.refl H) (.bl b)⟩
  · have nogen : ∀ z : Option D, z = (eqs d e).map D.bl → z = some r → False := fun z h1 h2 => by
      rw [h2] at h1
      cases w : eqs d e with
      | none => rw [w] at h1; cases h1
      | some b => rw [w] at h1; cases h1; exact c ⟨b, w, rfl⟩
    cases d <;> cases e <;> first
      | (exact (nogen _ rfl hg).elim)
      | (cases hd; cases he; cases hg
         refine op_eq pins s σ H _ _ v u Q I rx ry ⟨rfl, ?_⟩
         first
           | (rw [dec_int]; exact q _ H (.refl H) (.bl _))
           | (rw [dec_bl]; exact q _ H (.refl H) (.bl _))
           | (simp only [V.str.injEq]; exact q _ H (.refl H) (.bl _)))
theorem op_NE (hu : X.A.units + 64 < cLine) : OpR X (compareOp .NotEq) (rD X.K dNe) := by
  intro pins s σ H x y v u Q I rx ry h
  obtain ⟨M, d, e, r, k, hd, he, hg, q⟩ := h
  by_cases c : ∃ b, eqs d e = some b ∧ r = .bl (!b)
  · obtain ⟨b, eb, rfl⟩ := c
    obtain ⟨p1, p2, s1, s2, e3⟩ := eqs_some eb
    obtain ⟨as, r1⟩ := hd.reads I _ _ _ p1 rx
    obtain ⟨bs, r2⟩ := he.reads I _ _ _ p2 ry
    refine SeqAt.compareNe_shaped r1 r2 s1 s2 hu ?_
    rw [e3]
    exact ⟨.bl (!b), H, I, rfl, q _ H (.refl H) (.bl _)⟩
  · have nogen : ∀ z : Option D, z = (eqs d e).map (fun b => D.bl (!b)) → z = some r → False := fun z h1 h2 => by
      rw [h2] at h1
      cases w : eqs d e with
      | none => rw [w] at h1; cases h1
      | some b => rw [w] at h1; cases h1; exact c ⟨b, w, rfl⟩
    cases d <;> cases e <;> first
      | (exact (nogen _ rfl hg).elim)
      | (cases hd; cases he; cases hg
         refine op_ne pins s σ H _ _ v u Q I rx ry ⟨rfl, ?_⟩
         first
           | (rw [dec_int]; exact q _ H (.refl H) (.bl _))
           | (rw [dec_bl]; exact q _ H (.refl H) (.bl _))
           | (simp only [V.str.injEq]; exact q _ H (.refl H) (.bl _)))
theorem op_IS : OpR X (compareOp .Is) (rD X.K dIs) := by
  intro pins s σ H x y v u Q I rx ry h
  obtain ⟨M, d, e, r, k, hd, he, hg, q⟩ := h
  cases e <;> try (simp [dIs] at hg; done)
  cases he
  have hg : some (D.bl (isNon d)) = some r := hg
  cases hg
  refine op_isN pins s σ H _ _ v u Q I rx ry ⟨rfl, ?_⟩
  rw [isNon_v hd]
  exact q _ H (.refl H) (.bl _)
theorem op_ISNOT : OpR X (compareOp .IsNot) (rD X.K dIsNot) := by
  intro pins s σ H x y v u Q I rx ry h
  obtain ⟨M, d, e, r, k, hd, he, hg, q⟩ := h
  cases e <;> try (simp [dIsNot] at hg; done)
  cases he
  have hg : some (D.bl (!isNon d)) = some r := hg
  cases hg
  refine op_notN pins s σ H _ _ v u Q I rx ry ⟨rfl, ?_⟩
  rw [isNon_v hd]
  exact q _ H (.refl H) (.bl _)
end
end DL
set_option autoImplicit false
namespace DL
open PySem PySem.Spec PyProof.Rows L2
def sign1 (x : Str) : Option Nat := match x.cps.toList with
  | [c] => some c
  | _ => none
theorem sign1_eq {x : Str} {c : Nat} (h : sign1 x = some c) : x = ⟨#[c]⟩ := by
  unfold sign1 at h
  split at h
  · rename_i e
    cases h
    obtain ⟨a⟩ := x
    congr 1
    have h2 : a.toList = [c] := e
    rw [← Array.toArray_toList (xs := a), h2]
  · cases h
def dInB : D → D → Option Bool
  | .str x, .str z => (sign1 x).map fun c => decide (c ∈ z.cps.toList)
  | d, .lst ds => if plain d = true ∧ plains ds = true ∧ SeqAt.shaped (toP d) = true ∧ SeqAt.shaped (.list (toPs ds)) = true then some ((toPs ds).any fun e => PyData.eqv e (toP d)) else none
  | d, .tup ds => if plain d = true ∧ plains ds = true ∧ SeqAt.shaped (toP d) = true ∧ SeqAt.shaped (.tuple (toPs ds)) = true then some ((toPs ds).any fun e => PyData.eqv e (toP d)) else none
  | _, _ => none
def dIn (d e : D) : Option D := (dInB d e).map .bl
theorem map_some {α β : Type} {o : Option α} {f : α → β} {r : β} (h : o.map f = some r) : ∃ a, o = some a ∧ f a = r := by
  cases o with
  | none => cases h
  | some a => exact ⟨a, rfl, Option.some.inj h⟩
theorem room_in {A : Around} {xs : List PyData} {d : PyData} (h : SeqAt.shaped d = true) (hu : A.units + 100 < cLine) : A.units + 1 + min (PyData.depthAll xs) d.depth < cLine := by
  have h1 := SeqAt.depth_of_shaped h
  have : min (PyData.depthAll xs) d.depth ≤ 64 := Nat.le_trans (Nat.min_le_right _ _) h1
  omega
section
variable {X : Cx}
theorem op_IN (hu : X.A.units + 100 < cLine) : OpR X (compareOp .In) (rD X.K dIn) := by
  intro pins s σ H x y v u Q I rx ry h
  obtain ⟨M, d, e, r, k, hd, he, hg, q⟩ := h
  obtain ⟨b, hb, rfl⟩ := map_some hg
  by_cases c : ∃ x z, d = .str x ∧ e = .str z
  · obtain ⟨x, z, rfl, rfl⟩ := c
    cases hd; cases he
    obtain ⟨c, hc, rfl⟩ := map_some (show (sign1 x).map _ = some b from hb)
    obtain rfl := sign1_eq hc
    exact op_in_sign pins s σ H _ _ v u Q I rx ry ⟨c, z, rfl, rfl, q _ H (.refl H) (.bl _)⟩
  · cases e with
    | lst ds =>
      have hb' : (if plain d = true ∧ plains ds = true ∧ SeqAt.shaped (toP d) = true ∧ SeqAt.shaped (.list (toPs ds)) = true then some ((toPs ds).any fun e => PyData.eqv e (toP d)) else none) = some b := by
        cases d <;> first | exact hb | (exfalso; exact c ⟨_, _, rfl, rfl⟩)
      obtain ⟨⟨a1, a2, a3, a4⟩, rfl⟩ := if_some hb'
      obtain ⟨as, r1⟩ := hd.reads I _ _ _ a1 rx
      obtain ⟨bs, r2⟩ := he.reads I (.lst ds) _ _ (by simpa only [plain] using a2) ry
      simp only [toP] at r2
      exact SeqAt.in_list_reads r2 r1 (SeqAt.canLay_of_shaped a4) (SeqAt.canLay_of_shaped a3) (room_in a3 hu) ⟨.bl _, H, I, rfl, q _ H (.refl H) (.bl _)⟩
    | tup ds =>
      have hb' : (if plain d = true ∧ plains ds = true ∧ SeqAt.shaped (toP d) = true ∧ SeqAt.shaped (.tuple (toPs ds)) = true then some ((toPs ds).any fun e => PyData.eqv e (toP d)) else none) = some b := by
        cases d <;> first | exact hb | (exfalso; exact c ⟨_, _, rfl, rfl⟩)
      obtain ⟨⟨a1, a2, a3, a4⟩, rfl⟩ := if_some hb'
      obtain ⟨as, r1⟩ := hd.reads I _ _ _ a1 rx
      obtain ⟨bs, r2⟩ := he.reads I (.tup ds) _ _ (by simpa only [plain] using a2) ry
      simp only [toP] at r2
      exact SeqAt.in_tuple_reads r2 r1 (SeqAt.canLay_of_shaped a4) (SeqAt.canLay_of_shaped a3) (room_in a3 hu) ⟨.bl _, H, I, rfl, q _ H (.refl H) (.bl _)⟩
    | str z => cases d <;> first | (exfalso; exact c ⟨_, _, rfl, rfl⟩) | (simp [dInB] at hb)
    | _ => cases d <;> simp [dInB] at hb
end
def dIx : D → D → Option D
  | .tup ds, .int i => atI ds i
  | .lst ds, .int i => atI ds i
  | .scr ns, .int i => (atI ns i).map .int
  | .str z, .int i => if z.length ≤ sizeLine then (atI z.cps.toList i).map fun c => .str ⟨#[c]⟩ else none
  | _, _ => none
theorem atI_dat {K : PySem.W.Frag} {M : Addr → Prop} {H : Hp} {xs : List V} {ds : List D} {i : Int} {d : D} (h : DatAll K M H xs ds) (e : atI ds i = some d) : ∃ v, atI xs i = some v ∧ Dat K M H v d := by
  unfold atI at e ⊢
  rw [h.length]
  cases q : ixN ds.length i with
  | none => rw [q] at e; cases e
  | some j =>
    rw [q] at e
    exact h.getD e
theorem atI_map {α β : Type} (f : α → β) (xs : List α) (i : Int) : atI (xs.map f) i = (atI xs i).map f := by
  unfold atI
  rw [List.length_map]
  cases ixN xs.length i with
  | none => rfl
  | some j => simp
def cutD {α : Type} (xs : List α) (lo hi : Option Int) : List α := (xs.drop (HT.sIx xs.length 0 lo)).take (HT.sIx xs.length xs.length hi - HT.sIx xs.length 0 lo)
theorem cut_dat {K : PySem.W.Frag} {M : Addr → Prop} {H : Hp} {xs : List V} {ds : List D} (lo hi : Option Int) (h : DatAll K M H xs ds) : DatAll K M H (cutV xs lo hi) (cutD ds lo hi) := by
  unfold cutV cutD
  rw [h.length]
  exact (h.drop _).take _
theorem cut_map {β : Type} (f : β → V) (xs : List β) (lo hi : Option Int) : cutV (xs.map f) lo hi = (cutD xs lo hi).map f := by
  unfold cutV cutD
  rw [List.length_map, ← List.map_drop, ← List.map_take]
/-- the whole of it -/
theorem cut_whole {α : Type} {xs : List α} {lo hi : Option Int} (h : HT.sIx xs.length 0 lo = 0 ∧ HT.sIx xs.length xs.length hi = xs.length) : cutD xs lo hi = xs := by
  unfold cutD
  rw [h.1, h.2, Nat.sub_zero, List.drop_zero, List.take_length]
def dSl : D → Option Int → Option Int → Option D
  | .tup ds, lo, hi => some (.tup (cutD ds lo hi))
  | .lst ds, lo, hi => some (.lst (cutD ds lo hi))
  | .scr ns, lo, hi => some (.lst ((cutD ns lo hi).map .int))
  | .str z, lo, hi => if z.length ≤ sizeLine then some (.str (cutS z lo hi)) else none
  | _, _, _ => none
section
variable {X : Cx}
theorem ix_ALL : IxR X (rD X.K dIx) := by
  intro value slice pins s σ H x y v u Q I rx ry h hs
  obtain ⟨M, d, e, r, k, hd, he, hg, q⟩ := h
  cases d <;> cases e <;> try (simp [dIx] at hg; done)
  case tup.int ds i =>
    cases he
    cases hd with
    | tup h1 a1 =>
      obtain ⟨w, e1, w1⟩ := atI_dat a1 hg
      exact ix_tup value slice pins s σ H _ _ v u Q I rx ry ⟨_, _, i, w, rfl, rfl, h1, e1, q _ H (.refl H) w1⟩ hs
  case lst.int ds i =>
    cases he
    cases hd with
    | lst n h1 a1 =>
      obtain ⟨w, e1, w1⟩ := atI_dat a1 hg
      exact ix_list value slice pins s σ H _ _ v u Q I rx ry ⟨_, _, i, w, rfl, rfl, SqL.of h1, e1, q _ H (.refl H) w1⟩ hs
  case scr.int ns i =>
    cases he
    cases hd with
    | scr h1 =>
      obtain ⟨n, e1, rfl⟩ := map_some hg
      exact ix_list value slice pins s σ H _ _ v u Q I rx ry ⟨_, _, i, .int n, rfl, rfl, fz_sub h1, by rw [atI_map, e1]; rfl, q _ H (.refl H) (.int n)⟩ hs
  case str.int z i =>
    cases he; cases hd
    have hg : (if z.length ≤ sizeLine then (atI z.cps.toList i).map fun c => D.str ⟨#[c]⟩ else none) = some r := hg
    split at hg
    · rename_i hz
      obtain ⟨c, e1, rfl⟩ := map_some hg
      exact ix_str value slice pins s σ H _ _ v u Q I rx ry ⟨z, i, c, rfl, rfl, hz, e1, q _ H (.refl H) (.str _)⟩ hs
    · cases hg
theorem sl_ALL : SlR X (rS X.K dSl) := by
  intro pins s σ H x v vl vu lo hi sl Q I rx hs pl pu h
  obtain ⟨M, d, r, k, hd, hg, q⟩ := h
  cases d <;> try (simp [dSl] at hg; done)
  case tup ds =>
    cases hg
    cases hd with
    | tup h1 a1 =>
      refine sl_tupA pins s σ H _ v vl vu lo hi sl Q I rx hs pl pu ⟨_, _, rfl, h1, fun w => ?_, fun _ p hp => ?_⟩
      · rw [a1.length] at w
        refine q _ H (.refl H) ?_
        rw [cut_whole w]
        exact .tup h1 a1
      · exact q _ _ (dat_tup hp (cut_dat lo hi a1)).1 (dat_tup hp (cut_dat lo hi a1)).2
  case lst ds =>
    cases hg
    cases hd with
    | lst n h1 a1 =>
      refine sl_list pins s σ H _ v vl vu lo hi sl Q I rx hs pl pu ⟨_, _, rfl, SqL.of h1, fun p hp => ?_⟩
      exact q _ _ (dat_lst k hp (cut_dat lo hi a1)).1 (dat_lst k hp (cut_dat lo hi a1)).2
  case scr ns =>
    cases hg
    cases hd with
    | scr h1 =>
      refine sl_list pins s σ H _ v vl vu lo hi sl Q I rx hs pl pu ⟨_, _, rfl, fz_sub h1, fun p hp => ?_⟩
      rw [cut_map]
      have a := dat_lst k hp (DatAll.of_ints (K := X.K) (M := M) (H := H) (cutD ns lo hi))
      exact q _ _ a.1 a.2
  case str z =>
    cases hd
    obtain ⟨hz, rfl⟩ := if_some hg
    exact sl_str pins s σ H _ v vl vu lo hi sl Q I rx hs pl pu ⟨z, rfl, hz, q _ H (.refl H) (.str _)⟩
end
def dLen : List D → Option D
  | [.tup ds] => some (.int ds.length)
  | [.lst ds] => some (.int ds.length)
  | [.scr ns] => some (.int ns.length)
  | [.str z] => if z.length ≤ sizeLine then some (.int z.length) else none
  | _ => none
def dAbs : List D → Option D
  | [.int i] => some (.int (if i < 0 then -i else i))
  | _ => none
def dMax : List D → Option D
  | [.int i, .int j] => some (.int (if j > i then j else i))
  | _ => none
def dMin : List D → Option D
  | [.int i, .int j] => some (.int (if j < i then j else i))
  | _ => none
def dInt : List D → Option D
  | [.int i] => some (.int i)
  | [.bl k] => some (.int (if k then 1 else 0))
  | [.str a] => if a.length ≤ 640 then (PySem.intText? a).map .int else none
  | _ => none
def dStr : List D → Option D
  | [.int i] => if i.natAbs.log2 < 1920 then some (.str (toString i)) else none
  | _ => none
def dTuple : List D → Option D
  | [.lst ds] => some (.tup ds)
  | [.tup ds] => some (.tup ds)
  | _ => none
def dDivmod : List D → Option D
  | [.int i, .int j] => if 0 < j ∧ j.natAbs.log2 < 9000 then some (.tup [.int (i / j), .int (i % j)]) else none
  | _ => none
def bls? : List D → Option (List Bool)
  | [] => some []
  | .bl b :: r => (bls? r).map (b :: ·)
  | _ => none
def dAll : List D → Option D
  | [.lst ds] => (bls? ds).map fun bs => .bl (bs.all id)
  | _ => none
def dRepr : List D → Option D
  | [.lst ds] => if plains ds = true ∧ PyData.showableAll (toPs ds) = true ∧ (toP (.lst ds)).depth ≤ 60 ∧ (toP (.lst ds)).shown.length ≤ sizeLine then some (.str (toP (.lst ds)).shown) else none
  | [.tup ds] => if plains ds = true ∧ PyData.showableAll (toPs ds) = true ∧ (toP (.tup ds)).depth ≤ 60 ∧ (toP (.tup ds)).shown.length ≤ sizeLine then some (.str (toP (.tup ds)).shown) else none
  | [.int i] => if i.natAbs.log2 < 1920 then some (.str (toString i)) else none
  | _ => none
theorem bls_eq : ∀ {ds : List D} {bs : List Bool}, bls? ds = some bs → ds = bs.map D.bl
  | [], _, h => by cases h; rfl
  | .bl b :: r, _, h => by
    obtain ⟨t, e, rfl⟩ := map_some (show (bls? r).map _ = _ from h)
    rw [bls_eq e]; rfl
  | .non :: _, _, h | .int _ :: _, _, h | .str _ :: _, _, h | .tup _ :: _, _, h | .lst _ :: _, _, h | .dic _ _ :: _, _, h | .dit _ _ :: _, _, h | .ins _ _ _ :: _, _, h | .cls _ :: _, _, h | .ty _ :: _, _, h | .scr _ :: _, _, h => by simp [bls?] at h
section
variable {X : Cx}
/-- what the value list of one argument is -/
theorem one_of {K : PySem.W.Frag} {M : Addr → Prop} {H : Hp} {xs : List V} {d : D} (h : DatAll K M H xs [d]) : ∃ v, xs = [v] ∧ Dat K M H v d := by
  cases h with
  | cons a t => cases t; exact ⟨_, rfl, a⟩
theorem two_of {K : PySem.W.Frag} {M : Addr → Prop} {H : Hp} {xs : List V} {d e : D} (h : DatAll K M H xs [d, e]) : ∃ v w, xs = [v, w] ∧ Dat K M H v d ∧ Dat K M H w e := by
  cases h with
  | cons a t => cases t with | cons b t => cases t; exact ⟨_, _, rfl, a, b⟩
theorem dat_ii {K : PySem.W.Frag} {M : Addr → Prop} {H : Hp} (i j : Int) : DatAll K M H [.int i, .int j] [.int i, .int j] := .cons (.int i) (.cons (.int j) .nil)
theorem dat_ii_put {K : PySem.W.Frag} {M : Addr → Prop} {H : Hp} {i j : Int} {p : Addr} {Q : VK} (hp : H p = none) (q : ∀ u H', Same H H' → Dat K M H' u (.tup [.int i, .int j]) → Q u H') : Q (.ref p) (upd H p (.tup [.int i, .int j])) :=
  q _ _ (dat_tup hp (dat_ii (K := K) (M := M) i j)).1 (dat_tup hp (dat_ii i j)).2
theorem call_LEN : CallR X (.builtin "len") (rC X.K dLen) := by
  intro pins s σ H xs us Q I r h
  obtain ⟨M, ds, z, k, hd, hg, q⟩ := h
  unfold dLen at hg
  split at hg <;> try (cases hg; done)
  · cases hg
    obtain ⟨v, rfl, hv⟩ := one_of hd
    cases hv with
    | tup h1 a1 => exact call_len pins s σ H _ us Q I r ⟨_, _, rfl, .inr ⟨_, h1, rfl⟩, by rw [a1.length]; exact q _ H (.refl H) (.int _)⟩
  · cases hg
    obtain ⟨v, rfl, hv⟩ := one_of hd
    cases hv with
    | lst n h1 a1 => exact call_len pins s σ H _ us Q I r ⟨_, _, rfl, .inl ⟨_, SqL.of h1, rfl⟩, by rw [a1.length]; exact q _ H (.refl H) (.int _)⟩
  · cases hg
    obtain ⟨v, rfl, hv⟩ := one_of hd
    cases hv with
    | scr h1 => exact call_len pins s σ H _ us Q I r ⟨_, _, rfl, .inl ⟨_, fz_sub h1, rfl⟩, by rw [List.length_map]; exact q _ H (.refl H) (.int _)⟩
  · obtain ⟨hz, rfl⟩ := if_some hg
    obtain ⟨v, rfl, hv⟩ := one_of hd
    cases hv
    exact call_len pins s σ H _ us Q I r ⟨_, _, rfl, ⟨hz, rfl⟩, q _ H (.refl H) (.int _)⟩
theorem call_ABS : CallR X (.builtin "abs") (rC X.K dAbs) := by
  intro pins s σ H xs us Q I r h
  obtain ⟨M, ds, z, k, hd, hg, q⟩ := h
  unfold dAbs at hg
  split at hg <;> try (cases hg; done)
  cases hg
  obtain ⟨v, rfl, hv⟩ := one_of hd
  cases hv
  exact call_abs pins s σ H _ us Q I r ⟨_, rfl, q _ H (.refl H) (.int _)⟩
theorem call_MAX (hc : X.calm = true) : CallR X (.builtin "max") (rC X.K dMax) := by
  intro pins s σ H xs us Q I r h
  obtain ⟨M, ds, z, k, hd, hg, q⟩ := h
  unfold dMax at hg
  split at hg <;> try (cases hg; done)
  cases hg
  obtain ⟨v, w, rfl, hv, hw⟩ := two_of hd
  cases hv; cases hw
  exact call_max2 hc pins s σ H _ us Q I r ⟨_, _, rfl, q _ H (.refl H) (.int _)⟩
theorem call_MIN (hc : X.calm = true) : CallR X (.builtin "min") (rC X.K dMin) := by
  intro pins s σ H xs us Q I r h
  obtain ⟨M, ds, z, k, hd, hg, q⟩ := h
  unfold dMin at hg
  split at hg <;> try (cases hg; done)
  cases hg
  obtain ⟨v, w, rfl, hv, hw⟩ := two_of hd
  cases hv; cases hw
  exact call_min2 hc pins s σ H _ us Q I r ⟨_, _, rfl, q _ H (.refl H) (.int _)⟩
theorem call_INT : CallR X (.type "int") (rC X.K dInt) := by
  intro pins s σ H xs us Q I r h
  obtain ⟨M, ds, z, k, hd, hg, q⟩ := h
  unfold dInt at hg
  split at hg <;> try (cases hg; done)
  · cases hg
    obtain ⟨v, rfl, hv⟩ := one_of hd
    cases hv
    exact call_int1 pins s σ H _ us Q I r (.inl ⟨_, rfl, q _ H (.refl H) (.int _)⟩)
  · cases hg
    obtain ⟨v, rfl, hv⟩ := one_of hd
    cases hv
    exact call_int1 pins s σ H _ us Q I r (.inr ⟨_, rfl, q _ H (.refl H) (.int _)⟩)
  · split at hg
    · obtain ⟨v, rfl, hv⟩ := one_of hd
      cases hv
      obtain ⟨n, e, rfl⟩ := map_some hg
      exact call_int_str pins s σ H _ us Q I r ⟨_, n, rfl, e, by assumption, q _ H (.refl H) (.int _)⟩
    · cases hg
theorem call_STR : CallR X (.type "str") (rC X.K dStr) := by
  intro pins s σ H xs us Q I r h
  obtain ⟨M, ds, z, k, hd, hg, q⟩ := h
  unfold dStr at hg
  split at hg <;> try (cases hg; done)
  obtain ⟨hz, rfl⟩ := if_some hg
  obtain ⟨v, rfl, hv⟩ := one_of hd
  cases hv
  exact call_str_int pins s σ H _ us Q I r ⟨_, rfl, hz, q _ H (.refl H) (.str _)⟩
theorem call_TUPLE : CallR X (.type "tuple") (rC X.K dTuple) := by
  intro pins s σ H xs us Q I r h
  obtain ⟨M, ds, z, k, hd, hg, q⟩ := h
  unfold dTuple at hg
  split at hg <;> try (cases hg; done)
  · cases hg
    obtain ⟨v, rfl, hv⟩ := one_of hd
    cases hv with
    | lst n h1 a1 => exact call_tuple_of pins s σ H _ us Q I r ⟨_, _, rfl, .inl ⟨SqL.of h1, fun l hl => q _ _ (dat_tup hl a1).1 (dat_tup hl a1).2⟩⟩
  · cases hg
    obtain ⟨v, rfl, hv⟩ := one_of hd
    cases hv with
    | tup h1 a1 => exact call_tuple_of pins s σ H _ us Q I r ⟨_, _, rfl, .inr ⟨h1, q _ H (.refl H) (.tup h1 a1)⟩⟩
theorem call_DIVMOD : CallR X (.builtin "divmod") (rC X.K dDivmod) := by
  intro pins s σ H xs us Q I r h
  obtain ⟨M, ds, z, k, hd, hg, q⟩ := h
  unfold dDivmod at hg
  split at hg <;> try (cases hg; done)
  obtain ⟨hz, rfl⟩ := if_some hg
  obtain ⟨v, w, rfl, hv, hw⟩ := two_of hd
  cases hv; cases hw
  refine call_divmodW pins s σ H _ us Q I r ⟨_, _, rfl, ⟨hz.1, PyProof.noPylong_of_log2 hz.2⟩, fun p hp => ?_⟩
  exact dat_ii_put hp q
theorem call_ALL (hc : X.calm = true) : CallR X (.builtin "all") (rC X.K dAll) := by
  intro pins s σ H xs us Q I r h
  obtain ⟨M, ds, z, k, hd, hg, q⟩ := h
  unfold dAll at hg
  split at hg <;> try (cases hg; done)
  obtain ⟨bs, e, rfl⟩ := map_some hg
  obtain ⟨v, rfl, hv⟩ := one_of hd
  cases hv with
  | lst n h1 a1 =>
    rw [bls_eq e] at a1
    rw [a1.bls] at h1
    exact cr_all hc pins s σ H _ us Q I r ⟨_, bs, rfl, SqL.of h1, q _ H (.refl H) (.bl _)⟩
theorem call_REPR (hg : X.A.guards = some []) (hu : X.A.units + 64 < cLine) : CallR X (.builtin "repr") (rC X.K dRepr) := by
  intro pins s σ H xs us Q I r h
  obtain ⟨M, ds, z, k, hd, hg', q⟩ := h
  have core : ∀ (d : D) (a : Addr) (u : Value), Dat X.K M H (.ref a) d → RelV (.ref a) u → plain d = true → (toP d).showable = true → (toP d).depth ≤ 60 → (toP d).shown.length ≤ sizeLine → Q (.str (toP d).shown) H → us = [u] → wpAny (model X.prog X.w) X.A (call (.builtin "repr") us) (EP X pins σ Q) X.xe s := by
    intro d a u hv ru hp hs hdp hl hq e
    subst e
    obtain ⟨as, hr⟩ := hv.reads I _ _ _ hp ru
    cases ru
    refine repr_of_reads' (h₀ := s.heap) hr hs (PyData.noDict_hsm (noDict d hp)) hg (by omega) (fun b o e => e) (fun h' u tk k => ?_) hl
    exact ⟨.str (toP d).shown, H, I.kept (t' := tk) k, ⟨u, rfl⟩, hq⟩
  unfold dRepr at hg'
  split at hg' <;> try (cases hg'; done)
  · obtain ⟨⟨a1, a2, a3, a4⟩, rfl⟩ := if_some hg'
    obtain ⟨v, rfl, hv⟩ := one_of hd
    obtain ⟨u, rfl, ru⟩ := vals1 r
    obtain ⟨a, rfl⟩ : ∃ a, v = .ref a := by cases hv <;> exact ⟨_, rfl⟩
    exact core _ a u hv ru (by simpa only [plain] using a1) (by simp only [toP, PyData.showable]; exact a2) a3 a4 (q _ H (.refl H) (.str _)) rfl
  · obtain ⟨⟨a1, a2, a3, a4⟩, rfl⟩ := if_some hg'
    obtain ⟨v, rfl, hv⟩ := one_of hd
    obtain ⟨u, rfl, ru⟩ := vals1 r
    obtain ⟨a, rfl⟩ : ∃ a, v = .ref a := by cases hv <;> exact ⟨_, rfl⟩
    exact core _ a u hv ru (by simpa only [plain] using a1) (by simp only [toP, PyData.showable]; exact a2) a3 a4 (q _ H (.refl H) (.str _)) rfl
  · obtain ⟨hz, rfl⟩ := if_some hg'
    obtain ⟨v, rfl, hv⟩ := one_of hd
    cases hv
    exact SkE.call_repr_int pins s σ H _ us Q I r ⟨_, rfl, hz, q _ H (.refl H) (.str _)⟩
end
def tyName : D → Option String
  | .non => some "NoneType" | .bl _ => some "bool" | .int _ => some "int" | .str _ => some "str" | .tup _ => some "tuple"
  | .lst _ | .scr _ => some "list" | .dic _ _ => some "dict" | .dit _ _ | .ins _ _ _ | .cls _ | .ty _ => none
def tyNames : List String := ["NoneType", "bool", "int", "str", "tuple", "list", "dict"]
def isTy (n T : String) : Bool := n == T || (n == "bool" && T == "int")
def dIsT : List D → Option D
  | [d, .ty T] => if T ∈ tyNames then (tyName d).map fun n => .bl (isTy n T) else none
  | _ => none
theorem kit_all : ∀ n ∈ tyNames, ∀ T ∈ tyNames, kitB n T = some (isTy n T) := by decide +kernel
theorem tyName_mem {d : D} {n : String} (h : tyName d = some n) : n ∈ tyNames := by
  cases d <;> simp only [tyName, Option.some.injEq, reduceCtorEq] at h <;> subst h <;> decide
theorem tyX_of {K : PySem.W.Frag} {M : Addr → Prop} {H : Hp} {v : V} {d : D} {n : String} (h : Dat K M H v d) (e : tyName d = some n) : TyX K H v (.type n) := by
  cases h with
  | non => cases e; exact .base .non
  | bl b => cases e; exact .base (.bl b)
  | int b => cases e; exact .base (.int b)
  | str b => cases e; exact .base (.str b)
  | tup h a =>
    cases e
    rcases h with (h | ⟨o, h⟩) | ⟨o, its, n, h, c, _⟩
    · exact .base (.tup h)
    · exact .fTuple h
    · exact .kTuple h c
  | lst n h a => cases e; exact .base (.lst h)
  | dic n h q a =>
    cases e
    rcases h with h | ⟨o, h⟩
    · exact .base (.dK h)
    · exact .fDict h
  | dit n h q a => cases e
  | ins n h q a => cases e
  | cls a => cases e
  | ty a => cases e
  | scr h =>
    cases e
    rcases h with (h | ⟨o, h⟩) | ⟨o, its, n, h, c, _⟩
    · obtain ⟨_, _, z, _⟩ := fz_some h
      cases z
    · obtain ⟨ob, u, z, w⟩ := fz_some h
      cases z
      exact .base (.frz w)
    · exact .kList h c
section
variable {X : Cx}
/-- isinstance(x, T) -/
theorem call_ISIT : CallR X (.builtin "isinstance") (rC X.K dIsT) := by
  intro pins s σ H xs us Q I r h
  obtain ⟨M, ds, z, k, hd, hg, q⟩ := h
  unfold dIsT at hg
  split at hg
  · rename_i d T
    split at hg
    · rename_i hT
      obtain ⟨n, hn, rfl⟩ := map_some hg
      obtain ⟨v, w, rfl, hv, hw⟩ := two_of hd
      cases hw
      exact call_isi pins s σ H _ us Q I r ⟨v, .ty T, _, _, _, rfl, .ty T, tyX_of hv hn, kit_ty (kit_all n (tyName_mem hn) T hT), q _ H (.refl H) (.bl _)⟩
    · cases hg
  · cases hg
end
end DL
set_option autoImplicit false
namespace DL
open PySem PySem.Spec PyProof.Rows L2
def mC {α : Type} (a : α) : Mo α := fun ρ => some (a, ρ)
def mBd {α β : Type} (m : Mo α) (f : α → Mo β) : Mo β := fun ρ => match m ρ with
  | some (a, ρ') => f a ρ'
  | none => none
def mL {α : Type} (o : Option α) : Mo α := fun ρ => match o with
  | some a => some (a, ρ)
  | none => none
def mVar (i : Nat) : Mo D := fun ρ => match ρ[i]? with
  | some (.dat d) => some (d, ρ)
  | some (.own false d) => some (d, ρ.set i (.dat d))
  | _ => none
def mOp (g : D → D → Option D) (a b : Mo D) : Mo D := mBd a fun x => mBd b fun y => mL (g x y)
def mUn (g : D → Option D) (a : Mo D) : Mo D := mBd a fun x => mL (g x)
def bl? : D → Option Bool
  | .bl b => some b
  | _ => none
/-- a bool, as a test -/
def mTst (a : Mo D) : Mo Bool := mBd a fun x => mL (bl? x)
def mAndV (a b : Mo D) : Mo D := mBd (mTst a) fun x => if x = true then b else mC (.bl false)
def mOrV (a b : Mo D) : Mo D := mBd (mTst a) fun x => if x = true then mC (.bl true) else b
def mNotV (a : Mo D) : Mo D := mBd (mTst a) fun x => mC (.bl (!x))
def mAnd (a b : Mo Bool) : Mo Bool := mBd a fun x => if x = true then b else mC false
def mOr (a b : Mo Bool) : Mo Bool := mBd a fun x => if x = true then mC true else b
def mNot (a : Mo Bool) : Mo Bool := mBd a fun x => mC (!x)
def mIf (t : Mo Bool) (a b : Mo D) : Mo D := mBd t fun x => if x = true then a else b
def mChain (g h : D → D → Option D) (a b c : Mo D) : Mo D := mBd a fun x => mBd b fun y => mBd (mL (g x y)) fun z => mBd (mL (bl? z)) fun k => if k = true then mBd c fun w => mL (h y w) else mC z
def aNil : Mo (List D) := mC []
def aCons (a : Mo D) (r : Mo (List D)) : Mo (List D) := mBd a fun x => mBd r fun xs => mC (x :: xs)
def mTup (a : Mo (List D)) : Mo D := mBd a fun xs => mL (if xs.length ≤ sizeLine then some (.tup xs) else none)
def mLst (a : Mo (List D)) : Mo D := mBd a fun xs => mL (if xs.length ≤ sizeLine then some (.lst xs) else none)
def mFn (g : List D → Option D) (a : Mo (List D)) : Mo D := mBd a fun xs => mL (g xs)
def int? : D → Option Int
  | .int i => some i
  | _ => none
def mNo : Mo (Option Int) := mC none
def mPart (a : Mo D) : Mo (Option Int) := mBd a fun x => mBd (mL (int? x)) fun i => mC (some i)
def mSl (g : D → Option Int → Option Int → Option D) (a : Mo D) (l h : Mo (Option Int)) : Mo D := mBd a fun x => mBd l fun i => mBd h fun j => mL (g x i j)
theorem mBd_some {α β : Type} {m : Mo α} {f : α → Mo β} {ρ ρ' : Cs} {b : β} (h : mBd m f ρ = some (b, ρ')) : ∃ a ρ1, m ρ = some (a, ρ1) ∧ f a ρ1 = some (b, ρ') := by
  unfold mBd at h
  split at h
  · exact ⟨_, _, by assumption, h⟩
  · cases h
theorem mL_some {α : Type} {o : Option α} {ρ ρ' : Cs} {a : α} (h : mL o ρ = some (a, ρ')) : o = some a ∧ ρ' = ρ := by
  unfold mL at h
  split at h
  · cases h; exact ⟨rfl, rfl⟩
  · cases h
theorem mC_some {α : Type} {x : α} {ρ ρ' : Cs} {a : α} (h : mC x ρ = some (a, ρ')) : a = x ∧ ρ' = ρ := by
  unfold mC at h
  cases h; exact ⟨rfl, rfl⟩
def ROv {K : PySem.W.Frag} (c : Ctx K) (t : TO) (m : Mo (Option Int)) : Prop := ∀ M σ H ρ, Sta c M σ H ρ → ∀ o ρ', m ρ = some (o, ρ') → ∀ Q : Option Int → Hp → Prop, (∀ M' H', Es σ M H ρ σ M' H' ρ' → Sta c M' σ H' ρ' → Q o H') → t σ H Q
structure DO' (X : Cx) {K : PySem.W.Frag} (c : Ctx K) (e : Option Expr) (t : TO) (m : Mo (Option Int)) : Prop where
  p : PO X e t
  r : ROv c t m
section
variable {K : PySem.W.Frag} {c : Ctx K} {ta tb tc : TE} {ma mb mc : Mo D} {t t' : TT} {m m' : Mo Bool} {tl : TA} {ml : Mo (List D)}
theorem r_const {v : V} {d : D} (h : ∀ M H, Dat K M H v d) : REv c (tC v) (mC d) := by
  intro M σ H ρ S e ρ' hm Q q
  obtain ⟨rfl, rfl⟩ := mC_some hm
  exact q M v H .refl S (h M H)
theorem r_var (i : Nat) : REv c (tVar i) (mVar i) := by
  intro M σ H ρ S d ρ' hm Q q
  unfold mVar at hm
  split at hm
  · rename_i e
    cases hm
    obtain ⟨v, hv, hd⟩ := S.dat e
    exact ⟨v, hv, q M v H .refl S hd⟩
  · rename_i e
    cases hm
    obtain ⟨a, ha, _, _, _⟩ := S.own e
    obtain ⟨E, S', hd⟩ := S.freezeE ha e
    exact ⟨_, ha, q _ _ H E S' hd⟩
  · cases hm
theorem r_op {g : D → D → Option D} (ha : REv c ta ma) (hb : REv c tb mb) : REv c (tOp (rD K g) ta tb) (mOp g ma mb) := by
  intro M σ H ρ S d ρ' hm Q q
  obtain ⟨x, ρ1, h1, hm⟩ := mBd_some hm
  obtain ⟨y, ρ2, h2, hm⟩ := mBd_some hm
  obtain ⟨hg, rfl⟩ := mL_some hm
  refine ha M σ H ρ S x ρ1 h1 _ fun M1 v H1 E1 S1 d1 => hb M1 σ H1 ρ1 S1 y _ h2 _ fun M2 w H2 E2 S2 d2 => ?_
  exact ⟨M2, x, y, d, S2.kind, d1.ev S1.kind E2.ev, d2, hg, fun u H3 s h => q M2 u H3 ((E1.trans E2 S.kind).trans (.same s) S.kind) (S2.same s) h⟩
theorem r_new {M M1 : Addr → Prop} {σ : L2.St} {H H1 H2 : Hp} {ρ ρ1 : Cs} {a : Addr} {o : HO} {d : D} {Q : VK} (S : Sta c M σ H ρ) (E : Es σ M H ρ σ M1 H1 ρ1) (S1 : Sta c M1 σ H1 ρ1) (n : H1 a = none) (s : Same H1 H2) (ho : H2 a = some o) (h : Cont K M1 H1 o d)
    (q : ∀ M' a H', H a = none → Es σ M H ρ σ M' H' ρ1 → Sta c M' σ H' ρ1 → Nw c M' σ H' ρ1 a d → Q (.ref a) H') : Q (.ref a) H2 := by
  obtain ⟨E2, S2, N⟩ := S1.nw n s ho h
  exact q _ a H2 (E.dm a n) (E.trans E2 S.kind) S2 N
theorem bl_of {K : PySem.W.Frag} {M : Addr → Prop} {H : Hp} {v : V} {d : D} {b : Bool} (h : Dat K M H v d) (e : bl? d = some b) : v = .bl b := by
  cases h <;> simp [bl?] at e
  subst e; rfl
theorem r_tst (ha : REv c ta ma) : RTt c (tB ta) (mTst ma) := by
  intro M σ H ρ S b ρ' hm Q q
  obtain ⟨x, ρ1, h1, hm⟩ := mBd_some hm
  obtain ⟨hg, rfl⟩ := mL_some hm
  exact ha M σ H ρ S x _ h1 _ fun M1 v H1 E1 S1 d1 => ⟨b, bl_of d1 hg, q M1 H1 E1 S1⟩
theorem r_test (ha : REv c ta ma) : RTt c (tTest ta) (mTst ma) := r_tst ha
theorem r_andV (ha : REv c ta ma) (hb : REv c tb mb) : REv c (tAndV ta tb) (mAndV ma mb) := by
  intro M σ H ρ S d ρ' hm Q q
  obtain ⟨x, ρ1, h1, hm⟩ := mBd_some hm
  obtain ⟨z, ρ2, h2, h1⟩ := mBd_some h1
  obtain ⟨hg, rfl⟩ := mL_some h1
  refine ha M σ H ρ S z _ h2 _ fun M1 v H1 E1 S1 d1 => ⟨x, bl_of d1 hg, ?_⟩
  cases x with
  | true => exact hb M1 σ H1 _ S1 d ρ' hm Q fun M2 w H2 E2 S2 d2 => q M2 w H2 (E1.trans E2 S.kind) S2 d2
  | false =>
    obtain ⟨rfl, rfl⟩ := mC_some (show mC (D.bl false) ρ1 = some (d, ρ') from hm)
    exact q M1 _ H1 E1 S1 (.bl _)
theorem r_notV (ha : REv c ta ma) : REv c (tNotV ta) (mNotV ma) := by
  intro M σ H ρ S d ρ' hm Q q
  obtain ⟨x, ρ1, h1, hm⟩ := mBd_some hm
  obtain ⟨z, ρ2, h2, h1⟩ := mBd_some h1
  obtain ⟨hg, rfl⟩ := mL_some h1
  obtain ⟨rfl, rfl⟩ := mC_some hm
  exact ha M σ H ρ S z _ h2 _ fun M1 v H1 E1 S1 d1 => ⟨x, bl_of d1 hg, q M1 _ H1 E1 S1 (.bl _)⟩
theorem r_and (ha : RTt c t m) (hb : RTt c t' m') : RTt c (tAnd t t') (mAnd m m') := by
  intro M σ H ρ S b ρ' hm Q q
  obtain ⟨x, ρ1, h1, hm⟩ := mBd_some hm
  refine ha M σ H ρ S x ρ1 h1 _ fun M1 H1 E1 S1 => ?_
  cases x with
  | true => exact hb M1 σ H1 ρ1 S1 b ρ' hm Q fun M2 H2 E2 S2 => q M2 H2 (E1.trans E2 S.kind) S2
  | false =>
    obtain ⟨rfl, rfl⟩ := mC_some (show mC false ρ1 = some (b, ρ') from hm)
    exact q M1 H1 E1 S1
theorem r_or (ha : RTt c t m) (hb : RTt c t' m') : RTt c (tOr t t') (mOr m m') := by
  intro M σ H ρ S b ρ' hm Q q
  obtain ⟨x, ρ1, h1, hm⟩ := mBd_some hm
  refine ha M σ H ρ S x ρ1 h1 _ fun M1 H1 E1 S1 => ?_
  cases x with
  | false => exact hb M1 σ H1 ρ1 S1 b ρ' hm Q fun M2 H2 E2 S2 => q M2 H2 (E1.trans E2 S.kind) S2
  | true =>
    obtain ⟨rfl, rfl⟩ := mC_some (show mC true ρ1 = some (b, ρ') from hm)
    exact q M1 H1 E1 S1
theorem r_not (ha : RTt c t m) : RTt c (tNot t) (mNot m) := by
  intro M σ H ρ S b ρ' hm Q q
  obtain ⟨x, ρ1, h1, hm⟩ := mBd_some hm
  obtain ⟨rfl, rfl⟩ := mC_some hm
  exact ha M σ H ρ S x _ h1 _ fun M1 H1 E1 S1 => q M1 H1 E1 S1
theorem r_if (ht : RTt c t m) (ha : REv c ta ma) (hb : REv c tb mb) : REv c (tIf t ta tb) (mIf m ma mb) := by
  intro M σ H ρ S d ρ' hm Q q
  obtain ⟨x, ρ1, h1, hm⟩ := mBd_some hm
  refine ht M σ H ρ S x ρ1 h1 _ fun M1 H1 E1 S1 => ?_
  cases x with
  | true => exact ha M1 σ H1 ρ1 S1 d ρ' hm Q fun M2 w H2 E2 S2 d2 => q M2 w H2 (E1.trans E2 S.kind) S2 d2
  | false => exact hb M1 σ H1 ρ1 S1 d ρ' hm Q fun M2 w H2 E2 S2 d2 => q M2 w H2 (E1.trans E2 S.kind) S2 d2
theorem r_chain {g h : D → D → Option D} (ha : REv c ta ma) (hb : REv c tb mb) (hc : REv c tc mc) : REv c (tChain (rD K g) (rD K h) ta tb tc) (mChain g h ma mb mc) := by
  intro M σ H ρ S d ρ' hm Q q
  obtain ⟨x, ρ1, h1, hm1⟩ := mBd_some hm
  obtain ⟨y, ρ2, h2, hm2⟩ := mBd_some hm1
  obtain ⟨z, ρ3, h3, hm3⟩ := mBd_some hm2
  obtain ⟨hg, e3⟩ := mL_some h3
  subst e3
  obtain ⟨k, ρ4, h4, hm4⟩ := mBd_some hm3
  obtain ⟨hk, e4⟩ := mL_some h4
  subst e4
  refine ha M σ H ρ S x ρ1 h1 _ fun M1 v H1 E1 S1 d1 => hb M1 σ H1 ρ1 S1 y _ h2 _ fun M2 w H2 E2 S2 d2 => ?_
  refine ⟨M2, x, y, z, S2.kind, d1.ev S1.kind E2.ev, d2, hg, fun u H3 s hu => ⟨k, bl_of hu hk, ?_⟩⟩
  cases k with
  | true =>
    rw [if_pos rfl] at hm4
    obtain ⟨w', ρ5, h5, hm5⟩ := mBd_some hm4
    obtain ⟨hh, e5⟩ := mL_some hm5
    subst e5
    show if true = true then _ else _
    rw [if_pos rfl]
    refine hc M2 σ H3 _ (S2.same s) w' _ h5 _ fun M3 x3 H4 E3 S3 d3 => ?_
    exact ⟨M3, y, w', d, S3.kind, (d2.same s).ev (S2.same s).kind E3.ev, d3, hh, fun u H5 s5 h => q M3 u H5 (((E1.trans E2 S.kind).trans (.same s) S.kind).trans (E3.trans (.same s5) (S2.same s).kind) S.kind) (S3.same s5) h⟩
  | false =>
    rw [if_neg (by decide)] at hm4
    obtain ⟨e6, e7⟩ := mC_some hm4
    subst e6 e7
    show if false = true then _ else _
    rw [if_neg (by decide)]
    have eu := bl_of hu hk
    rw [eu] at hu
    exact q M2 _ H3 ((E1.trans E2 S.kind).trans (.same s) S.kind) (S2.same s) hu
theorem r_anil : RAv c tNil aNil := by
  intro M σ H ρ S d ρ' hm Q q
  obtain ⟨rfl, rfl⟩ := mC_some hm
  exact q M [] H .refl S .nil
theorem r_acons (ha : REv c ta ma) (hr : RAv c tl ml) : RAv c (tCons ta tl) (aCons ma ml) := by
  intro M σ H ρ S ds ρ' hm Q q
  obtain ⟨x, ρ1, h1, hm⟩ := mBd_some hm
  obtain ⟨xs, ρ2, h2, hm⟩ := mBd_some hm
  obtain ⟨rfl, rfl⟩ := mC_some hm
  exact ha M σ H ρ S x ρ1 h1 _ fun M1 v H1 E1 S1 d1 => hr M1 σ H1 ρ1 S1 xs _ h2 _ fun M2 vs H2 E2 S2 d2 => q M2 _ H2 (E1.trans E2 S.kind) S2 (.cons (d1.ev S1.kind E2.ev) d2)
theorem r_tup (h : RAv c tl ml) : REv c (tTup tl) (mTup ml) := by
  intro M σ H ρ S d ρ' hm Q q
  obtain ⟨xs, ρ1, h1, hm⟩ := mBd_some hm
  obtain ⟨hg, rfl⟩ := mL_some hm
  obtain ⟨hl, rfl⟩ := if_some hg
  refine h M σ H ρ S xs _ h1 _ fun M1 vs H1 E1 S1 d1 => ⟨by rw [d1.length]; exact hl, fun p hp => ?_⟩
  have a := dat_tup hp d1
  exact q M1 _ _ (E1.trans (.same a.1) S.kind) (S1.same a.1) a.2
theorem r_lst (h : RAv c tl ml) : RNw c (tLst tl) (mLst ml) := by
  intro M σ H ρ S d ρ' hm Q q
  obtain ⟨xs, ρ1, h1, hm⟩ := mBd_some hm
  obtain ⟨hg, rfl⟩ := mL_some hm
  obtain ⟨hl, rfl⟩ := if_some hg
  exact h M σ H ρ S xs _ h1 _ fun M1 vs H1 E1 S1 d1 => ⟨by rw [d1.length]; exact hl, fun p hp => r_new S E1 S1 hp (same_new hp) upd_same (.lst d1) q⟩
theorem r_fn {g : List D → Option D} (h : RAv c tl ml) : REv c (tCB (rC K g) tl) (mFn g ml) := by
  intro M σ H ρ S d ρ' hm Q q
  obtain ⟨xs, ρ1, h1, hm⟩ := mBd_some hm
  obtain ⟨hg, rfl⟩ := mL_some hm
  exact h M σ H ρ S xs _ h1 _ fun M1 vs H1 E1 S1 d1 => ⟨M1, xs, d, S1.kind, d1, hg, fun u H' s h => q M1 u H' (E1.trans (.same s) S.kind) (S1.same s) h⟩
theorem r_no : ROv c tNoPart mNo := by
  intro M σ H ρ S d ρ' hm Q q
  obtain ⟨rfl, rfl⟩ := mC_some hm
  exact q M H .refl S
theorem int_of {K : PySem.W.Frag} {M : Addr → Prop} {H : Hp} {v : V} {d : D} {b : Int} (h : Dat K M H v d) (e : int? d = some b) : v = .int b := by
  cases h <;> simp [int?] at e
  subst e; rfl
theorem r_part (ha : REv c ta ma) : ROv c (tPart ta) (mPart ma) := by
  intro M σ H ρ S o ρ' hm Q q
  obtain ⟨x, ρ1, h1, hm1⟩ := mBd_some hm
  obtain ⟨i, ρ2, h2, hm2⟩ := mBd_some hm1
  obtain ⟨hg, e1⟩ := mL_some h2
  obtain ⟨e2, e3⟩ := mC_some hm2
  subst e1 e2 e3
  exact ha M σ H ρ S x _ h1 _ fun M1 v H1 E1 S1 d1 => ⟨i, int_of d1 hg, q M1 H1 E1 S1⟩
theorem r_sl {g : D → Option Int → Option Int → Option D} {tl th : TO} {ml mh : Mo (Option Int)} (ha : REv c ta ma) (hl : ROv c tl ml) (hh : ROv c th mh) : REv c (tSl (rS K g) ta tl th) (mSl g ma ml mh) := by
  intro M σ H ρ S d ρ' hm Q q
  obtain ⟨x, ρ1, h1, hm⟩ := mBd_some hm
  obtain ⟨i, ρ2, h2, hm⟩ := mBd_some hm
  obtain ⟨j, ρ3, h3, hm⟩ := mBd_some hm
  obtain ⟨hg, rfl⟩ := mL_some hm
  refine ha M σ H ρ S x ρ1 h1 _ fun M1 v H1 E1 S1 d1 => hl M1 σ H1 ρ1 S1 i ρ2 h2 _ fun M2 H2 E2 S2 => hh M2 σ H2 ρ2 S2 j _ h3 _ fun M3 H3 E3 S3 => ?_
  exact ⟨M3, x, d, S3.kind, (d1.ev S1.kind E2.ev).ev S2.kind E3.ev, hg, fun u H' s h => q M3 u H' (((E1.trans E2 S.kind).trans E3 S.kind).trans (.same s) S.kind) (S3.same s) h⟩
end
section
variable {X : Cx} {K : PySem.W.Frag} {c : Ctx K} {a b e : Expr} {es : List Expr} {pos : Pos} {ta tb tc : TE} {ma mb mc : Mo D} {t t' : TT} {m m' : Mo Bool} {tl : TA} {ml : Mo (List D)} {rest : List Expr}
theorem dv (i : Nat) {x : Str} {pos : Pos} (hN : X.N[i]? = some x := by rfl) (hv : Vis X.env.scope x := by first | exact Or.inl rfl | exact Or.inr (Or.inl rfl) | exact Or.inr (Or.inr rfl)) (hd : (x == ("__debug__" : Str)) = false := by decide)
    (hcd : (x == ("__classdict__" : Str)) = false := by decide) : DE X c (.Name x pos) (tVar i) (mVar i) := ⟨pv i hN hv hd hcd, r_var i⟩
theorem d_int {i : Int} {j pos} : DE X c (.Constant (.int i) j pos) (tC (.int i)) (mC (.int i)) := ⟨pe_int, r_const fun _ _ => .int i⟩
theorem d_bl {b j pos} : DE X c (.Constant (.bool b) j pos) (tC (.bl b)) (mC (.bl b)) := ⟨pe_bl, r_const fun _ _ => .bl b⟩
theorem d_non {j pos} : DE X c (.Constant .none j pos) (tC .non) (mC .non) := ⟨pe_non, r_const fun _ _ => .non⟩
theorem d_str {x j pos} : DE X c (.Constant (.str x) j pos) (tC (.str x)) (mC (.str x)) := ⟨pe_str, r_const fun _ _ => .str x⟩
theorem d_gi {x : Str} {n : Int} {pos : Pos} (T : L2.Ci X.mg x n) (hg : Gl X x := by rfl) (hd : (x == ("__debug__" : Str)) = false := by decide) : DE X c (.Name x pos) (tC (.int n)) (mC (.int n)) := ⟨pe_glob hg T.g ⟨_, rfl⟩ hd, r_const fun _ _ => .int n⟩
theorem d_gs {x z : Str} {pos : Pos} (T : L2.Cs X.mg x z) (hg : Gl X x := by rfl) (hd : (x == ("__debug__" : Str)) = false := by decide) : DE X c (.Name x pos) (tC (.str z)) (mC (.str z)) := ⟨pe_glob hg T.g ⟨_, rfl⟩ hd, r_const fun _ _ => .str z⟩
/-- a constant of the top by what is known of its value -/
theorem d_gd {x : Str} {v : V} {u : Value} {d : D} {pos : Pos} (hm : X.mg x = some u) (r : RelV v u) (h : ∀ M H, Dat K M H v d) (hg : Gl X x := by rfl) (hd : (x == ("__debug__" : Str)) = false := by decide) : DE X c (.Name x pos) (tC v) (mC d) := ⟨pe_glob hg hm r hd, r_const h⟩
theorem d_ty {x : Str} {n : String} {pos : Pos} (hm : X.mg x = none) (hv : bootBuiltins x = some (.type n)) (hg : Gl X x := by rfl) (hn : x ≠ "__name__" := by decide) (hd : (x == ("__debug__" : Str)) = false := by decide) : DE X c (.Name x pos) (tC (.ty n)) (mC (.ty n)) := ⟨pe_bltn hg hm hv rfl hn hd, r_const fun _ _ => .ty n⟩
theorem d_cls {x : Str} {C : Addr} {pos : Pos} (hm : X.mg x = some (.ref C)) (hg : Gl X x := by rfl) (hd : (x == ("__debug__" : Str)) = false := by decide) : DE X c (.Name x pos) (tC (.ref C)) (mC (.cls C)) := ⟨pe_glob hg hm rfl hd, r_const fun _ _ => .cls C⟩
theorem d_op {op : Operator} {g : D → D → Option D} (ho : OpR X (binaryOp op) (rD X.K g)) (ha : DE X c a ta ma) (hb : DE X c b tb mb) (hK : X.K = K := by rfl) : DE X c (.BinOp a op b pos) (tOp (rD K g) ta tb) (mOp g ma mb) := ⟨by rw [← hK]; exact pe_op ho ha.p hb.p, r_op ha.r hb.r⟩
theorem d_notV (ha : DE X c a ta ma) : DE X c (.UnaryOp .Not a pos) (tNotV ta) (mNotV ma) := ⟨pe_not ha.p, r_notV ha.r⟩
theorem d_cmp {op : CmpOp} {g : D → D → Option D} (ho : OpR X (compareOp op) (rD X.K g)) (ha : DE X c a ta ma) (hb : DE X c b tb mb) (hm : behindInMarks op b = false) (hK : X.K = K := by rfl) : DE X c (.Compare a [op] [b] pos) (tOp (rD K g) ta tb) (mOp g ma mb) := ⟨by rw [← hK]; exact pe_cmpR ho ha.p hb.p hm, r_op ha.r hb.r⟩
theorem d_tcmp {op : CmpOp} {g : D → D → Option D} (ho : OpR X (compareOp op) (rD X.K g)) (ha : DE X c a ta ma) (hb : DE X c b tb mb) (hm : behindInMarks op b = false) (hK : X.K = K := by rfl) : DT X c (.Compare a [op] [b] pos) (tTest (tOp (rD K g) ta tb)) (mTst (mOp g ma mb)) := ⟨by rw [← hK]; exact pt_cmpR ho ha.p hb.p hm, r_test (r_op ha.r hb.r)⟩
theorem d_chain {op op' : CmpOp} {g h : D → D → Option D} {d : Expr} (ho : OpR X (compareOp op) (rD X.K g)) (ho' : OpR X (compareOp op') (rD X.K h)) (ha : DE X c a ta ma) (hb : DE X c b tb mb) (hc : DE X c d tc mc) (hm : lastMarks [op, op'] [b, d] = false := by rfl) (hK : X.K = K := by rfl) :
    DE X c (.Compare a [op, op'] [b, d] pos) (tChain (rD K g) (rD K h) ta tb tc) (mChain g h ma mb mc) := ⟨by rw [← hK]; exact pe_chain ho ho' ha.p hb.p hc.p hm, r_chain ha.r hb.r hc.r⟩
theorem d_tchain {op op' : CmpOp} {g h : D → D → Option D} {d : Expr} (ho : OpR X (compareOp op) (rD X.K g)) (ho' : OpR X (compareOp op') (rD X.K h)) (ha : DE X c a ta ma) (hb : DE X c b tb mb) (hc : DE X c d tc mc) (hm : lastMarks [op, op'] [b, d] = false := by rfl) (hK : X.K = K := by rfl) :
    DT X c (.Compare a [op, op'] [b, d] pos) (tTest (tChain (rD K g) (rD K h) ta tb tc)) (mTst (mChain g h ma mb mc)) := ⟨by rw [← hK]; exact pt_chain ho ho' ha.p hb.p hc.p hm, r_test (r_chain ha.r hb.r hc.r)⟩
theorem d_tval (ha : DE X c e ta ma) (he : ∀ whole, isTrue e X.env whole = (do let v ← whole; standAt e.pos; holding [v] (truthy v)) := by intro _; rfl) : DT X c e (tB ta) (mTst ma) := ⟨pt_val ha.p he, r_tst ha.r⟩
theorem d_one {op} (h : DE X c a ta ma) : DE X c (.BoolOp op [a] pos) ta ma := ⟨pe_one h.p, h.r⟩
theorem d_andV (ha : DE X c a ta ma) (hb : DE X c (.BoolOp .And (b :: rest) pos) tb mb) : DE X c (.BoolOp .And (a :: b :: rest) pos) (tAndV ta tb) (mAndV ma mb) := ⟨pe_and ha.p hb.p, r_andV ha.r hb.r⟩
theorem d_and1 (ha : DT X c a t m) : DW X c (.BoolOp .And [a] pos) t m := ⟨pw_and1 ha.p, ha.r⟩
theorem d_or1 (ha : DT X c a t m) : DW X c (.BoolOp .Or [a] pos) t m := ⟨pw_or1 ha.p, ha.r⟩
theorem d_and (ha : DT X c a t m) (hb : DW X c (.BoolOp .And (b :: rest) pos) t' m') : DW X c (.BoolOp .And (a :: b :: rest) pos) (tAnd t t') (mAnd m m') := ⟨pw_and ha.p hb.p, r_and ha.r hb.r⟩
theorem d_or (ha : DT X c a t m) (hb : DW X c (.BoolOp .Or (b :: rest) pos) t' m') : DW X c (.BoolOp .Or (a :: b :: rest) pos) (tOr t t') (mOr m m') := ⟨pw_or ha.p hb.p, r_or ha.r hb.r⟩
theorem DW.dt (h : DW X c e t m) : DT X c e t m := ⟨h.p.pt, h.r⟩
theorem d_not (ha : DT X c a t m) : DT X c (.UnaryOp .Not a pos) (tNot t) (mNot m) := ⟨pt_not ha.p, r_not ha.r⟩
theorem d_if (ht : DT X c e t m) (ha : DE X c a ta ma) (hb : DE X c b tb mb) : DE X c (.IfExp e a b pos) (tIf t ta tb) (mIf m ma mb) := ⟨pe_ifExp ht.p ha.p hb.p, r_if ht.r ha.r hb.r⟩
theorem d_anil : DA X c [] tNil aNil := ⟨pa_nil, r_anil⟩
theorem d_acons (ha : DE X c e ta ma) (hr : DA X c es tl ml) (hs : starEach (e :: es) X.env = (false, eval e X.env) :: starEach es X.env := by rfl) : DA X c (e :: es) (tCons ta tl) (aCons ma ml) := ⟨pa_cons ha.p hr.p hs, r_acons ha.r hr.r⟩
theorem d_tup {x1} (h : DA X c es tl ml) : DE X c (.Tuple es x1 pos) (tTup tl) (mTup ml) := ⟨pe_tup h.p, r_tup h.r⟩
theorem d_lst (h : DA X c es tl ml) : DN X c (.List es pos) (tLst tl) (mLst ml) := ⟨pe_lst h.p, r_lst h.r⟩
theorem d_ix (ha : DE X c a ta ma) (hb : DE X c b tb mb) (hs : PlainIx b) (hK : X.K = K := by rfl) : DE X c (.Subscript a b pos) (tOp (rD K dIx) ta tb) (mOp dIx ma mb) := ⟨by rw [← hK]; exact pe_ix ix_ALL ha.p hb.p hs, r_op ha.r hb.r⟩
theorem d_no : DO' X c none tNoPart mNo := ⟨po_none, r_no⟩
theorem d_part (h : DE X c e ta ma) : DO' X c (some e) (tPart ta) (mPart ma) := ⟨po_some h.p, r_part h.r⟩
theorem d_sl {lo hi : Option Expr} {p2 : Pos} {tl th : TO} {mlo mhi : Mo (Option Int)} (ha : DE X c a ta ma) (hl : DO' X c lo tl mlo) (hh : DO' X c hi th mhi) (hK : X.K = K := by rfl) : DE X c (.Subscript a (.Slice lo hi none p2) pos) (tSl (rS K dSl) ta tl th) (mSl dSl ma mlo mhi) := ⟨by rw [← hK]; exact pe_slice sl_ALL ha.p hl.p hh.p, r_sl ha.r hl.r hh.r⟩
theorem d_blt {x : Str} {id : String} {g : List D → Option D} {p : Pos} (hc : CallR X (.builtin id) (rC X.K g)) (hm : X.mg x = none) (hv : bootBuiltins x = some (.builtin id)) (ha : DA X c (e :: es) tl ml) (hg : Gl X x := by rfl) (hn : x ≠ "__name__" := by decide) (hdb : (x == ("__debug__" : Str)) = false := by decide)
    (he : starEach (e :: es) X.env = (false, eval e X.env) :: starEach es X.env := by rfl) (hpl : (backTo pos (starEach es X.env)).any (·.1) = false := by rfl) (hK : X.K = K := by rfl) : DE X c (.Call (.Name x p) (e :: es) [] pos) (tCB (rC K g) tl) (mFn g ml) := ⟨by rw [← hK]; exact pe_callB hc hg hm hv ha.p hn hdb he hpl, r_fn ha.r⟩
theorem d_cty {x : Str} {T : String} {g : List D → Option D} {p : Pos} (hc : CallR X (.type T) (rC X.K g)) (hm : X.mg x = none) (hv : bootBuiltins x = some (.type T)) (ha : DA X c (e :: es) tl ml) (hg : Gl X x := by rfl) (hn : x ≠ "__name__" := by decide) (hdb : (x == ("__debug__" : Str)) = false := by decide)
    (he : starEach (e :: es) X.env = (false, eval e X.env) :: starEach es X.env := by rfl) (hpl : (backTo pos (starEach es X.env)).any (·.1) = false := by rfl) (hK : X.K = K := by rfl) : DE X c (.Call (.Name x p) (e :: es) [] pos) (tCB (rC K g) tl) (mFn g ml) := ⟨by rw [← hK]; exact pe_callTy hc hg hm hv ha.p hn hdb he hpl, r_fn ha.r⟩
end
end DL
set_option autoImplicit false
namespace DL
open PySem PySem.Spec PyProof.Rows L2
def sNx : Mo Fl := mC .nx
def sSeq (a b : Mo Fl) : Mo Fl := fun ρ => match a ρ with
  | some (.nx, ρ') => b ρ'
  | r => r
def sSet (i : Nat) (a : Mo D) : Mo Fl := mBd a fun d ρ => some (.nx, ρ.set i (.dat d))
def sSetN (i : Nat) (a : Mo D) : Mo Fl := mBd a fun d ρ => some (.nx, ρ.set i (.own false d))
def sRet (a : Mo D) : Mo Fl := mBd a fun d => mC (.rt d)
def sRetN : Mo Fl := mC (.rt .non)
def sRetNew (a : Mo D) : Mo Fl := mBd a fun d => mC (.rn d)
def sIf (t : Mo Bool) (a b : Mo Fl) : Mo Fl := mBd t fun x => if x = true then a else b
def sDrop (a : Mo D) : Mo Fl := mBd a fun _ => sNx
def sNo : Mo Fl := fun _ => none
def sBk : Mo Fl := mC .bk
def sCt : Mo Fl := mC .ct
def sAsg (a : Mo D) (g : D → Mo Unit) : Mo Fl := mBd a fun d => mBd (g d) fun _ => sNx
def gNm (i : Nat) (d : D) : Mo Unit := fun ρ => some ((), ρ.set i (.dat d))
def gsNil (ds : List D) : Mo Unit := match ds with
  | [] => mC ()
  | _ => fun _ => none
def gsCons (g : D → Mo Unit) (r : List D → Mo Unit) (ds : List D) : Mo Unit := match ds with
  | d :: ds => mBd (g d) fun _ => r ds
  | [] => fun _ => none
def gTp (n : Nat) (r : List D → Mo Unit) (d : D) : Mo Unit := match d with
  | .tup ds => if ds.length = n then r ds else fun _ => none
  | _ => fun _ => none
/-- o[k] = v, o an owned list in slot i -/
def putL (i : Nat) (k : D) (d : D) : Mo Unit := fun ρ => match ρ[i]? with
  | some (.own p (.lst ds)) => match int? k with
    | some n => match ixN ds.length n with
      | some j => some ((), ρ.set i (.own p (.lst (ds.set j d))))
      | none => none
    | none => none
  | _ => none
def owns (i : Nat) (ρ : Cs) : Bool := match ρ[i]? with
  | some (.own _ _) => true
  | _ => false
def gPut (i : Nat) (k : Mo D) (d : D) : Mo Unit := fun ρ => if owns i ρ = true then mBd k (fun n => putL i n d) ρ else none
/-- f of what slot i owns (a list's append ..) -/
def sApp (i : Nat) (a : Mo D) : Mo Fl := mBd a fun d ρ => match ρ[i]? with
  | some (.own p (.lst ds)) => if ds.length < sizeLine then some (.nx, ρ.set i (.own p (.lst (ds ++ [d])))) else none
  | _ => none
def goFor (g : D → Mo Unit) (b : Mo Fl) : List D → Mo Fl
  | [], ρ => some (.nx, ρ)
  | d :: ds, ρ => match g d ρ with
    | none => none
    | some (_, ρ1) => match b ρ1 with
      | none => none
      | some (.nx, ρ2) => goFor g b ds ρ2
      | some (.ct, ρ2) => goFor g b ds ρ2
      | some (.bk, ρ2) => some (.nx, ρ2)
      | some (.rt d, ρ2) => some (.rt d, ρ2)
      | some (.rn d, ρ2) => some (.rn d, ρ2)
def sFor (it : Mo (List D)) (g : D → Mo Unit) (b : Mo Fl) : Mo Fl := mBd it fun ds => goFor g b ds
section
variable {K : PySem.W.Frag} {c : Ctx K} {t u : TS} {m k : Mo Fl} {te : TE} {me : Mo D} {tt : TT} {mt : Mo Bool}
theorem r_nx : RSt c tNext sNx := by
  intro M σ H ρ S f ρ' hm D q
  obtain ⟨e1, e2⟩ := mC_some hm
  subst e1 e2
  exact q M σ H .refl S
theorem r_seq (h1 : RSt c t m) (h2 : RSt c u k) : RSt c (tSeq t u) (sSeq m k) := by
  intro M σ H ρ S f ρ' hm D q
  unfold sSeq at hm
  cases e : m ρ with
  | none => rw [e] at hm; cases hm
  | some r =>
    obtain ⟨f1, ρ1⟩ := r
    rw [e] at hm
    cases f1 with
    | nx => exact h1 M σ H ρ S .nx ρ1 e { D with nx := u D } fun M' σ' H' E S' => h2 M' σ' H' ρ1 S' f ρ' hm D (q.ev E)
    | rt d => cases hm; exact h1 M σ H ρ S _ _ e { D with nx := u D } q
    | rn d => cases hm; exact h1 M σ H ρ S _ _ e { D with nx := u D } q
    | bk => cases hm; exact h1 M σ H ρ S _ _ e { D with nx := u D } q
    | ct => cases hm; exact h1 M σ H ρ S _ _ e { D with nx := u D } q
theorem r_set (h : REv c te me) (i : Nat) : RSt c (tAsg te (gName i)) (sSet i me) := by
  intro M σ H ρ S f ρ' hm D q
  obtain ⟨d, ρ1, h1, h2⟩ := mBd_some hm
  cases h2
  exact h M σ H ρ S d ρ1 h1 _ fun M' v H' E S' hd => q M' _ H' E.ev (S'.setDat i hd)
theorem r_setN (h : RNw c te me) (i : Nat) : RSt c (tAsg te (gName i)) (sSetN i me) := by
  intro M σ H ρ S f ρ' hm D q
  obtain ⟨d, ρ1, h1, h2⟩ := mBd_some hm
  cases h2
  exact h M σ H ρ S d ρ1 h1 _ fun M' a H' _ E S' n => q M' _ H' E.ev (S'.takeN n i)
theorem r_ret (h : REv c te me) : RSt c (tRet te) (sRet me) := by
  intro M σ H ρ S f ρ' hm D q
  obtain ⟨d, ρ1, h1, h2⟩ := mBd_some hm
  obtain ⟨e1, e2⟩ := mC_some h2
  subst e1 e2
  exact h M σ H ρ S d _ h1 _ fun M' v H' E S' hd => q M' σ v H' E.ev S' hd
theorem r_retNew (h : RNw c te me) : RSt c (tRet te) (sRetNew me) := by
  intro M σ H ρ S f ρ' hm D q
  obtain ⟨d, ρ1, h1, h2⟩ := mBd_some hm
  obtain ⟨e1, e2⟩ := mC_some h2
  subst e1 e2
  exact h M σ H ρ S d _ h1 _ fun M' a H' _ E S' n => q M' σ a H' E.ev S' n
theorem r_ifS (ht : RTt c tt mt) (ha : RSt c t m) (hb : RSt c u k) : RSt c (tIfS tt t u) (sIf mt m k) := by
  intro M σ H ρ S f ρ' hm D q
  obtain ⟨x, ρ1, h1, h2⟩ := mBd_some hm
  refine ht M σ H ρ S x ρ1 h1 _ fun M1 H1 E1 S1 => ?_
  cases x with
  | true => exact ha M1 σ H1 ρ1 S1 f ρ' h2 D (q.ev E1.ev)
  | false => exact hb M1 σ H1 ρ1 S1 f ρ' h2 D (q.ev E1.ev)
theorem r_never : RSt c tNever sNo := fun M σ H ρ S f ρ' hm D q => by cases hm
theorem r_asg {g : TG} {mg : D → Mo Unit} (h : REv c te me) (hg : RTg c g mg) : RSt c (tAsg te g) (sAsg me mg) := by
  intro M σ H ρ S f ρ' hm D q
  obtain ⟨d, ρ1, h1, h2⟩ := mBd_some hm
  obtain ⟨x, ρ2, h3, h4⟩ := mBd_some h2
  obtain ⟨e1, e2⟩ := mC_some (show mC Fl.nx ρ2 = some (f, ρ') from h4)
  subst e1 e2
  exact h M σ H ρ S d ρ1 h1 _ fun M' v H' E S' hd => hg M' σ H' ρ1 S' v d hd x _ h3 _ fun M2 σ2 H2 E2 S2 => q M2 σ2 H2 (E.ev.trans E2.ev) S2
theorem held_setDat {σ : L2.St} {ρ : Cs} {i : Nat} {x : Option V} {d : D} (b : Addr) (l : σ.length = ρ.length) (h : Held (σ.set i x) (ρ.set i (.dat d)) b) : Held σ ρ b := by
  obtain ⟨j, p, e, h1, h2⟩ := h
  by_cases z : i = j
  · subst z
    have l : i < ρ.length := by
      have := (List.getElem?_eq_some_iff.mp h2).1
      simpa using this
    rw [List.getElem?_set_self l] at h2
    cases h2
  · rw [List.getElem?_set_ne z] at h1 h2
    exact ⟨j, p, e, h1, h2⟩
theorem r_gname (i : Nat) : RTg c (gName i) (gNm i) := by
  intro M σ H ρ S v d hd u ρ' hm Q q
  cases hm
  exact q M _ H ⟨.refl, fun _ _ _ h => h, fun b _ _ => held_setDat b S.len.symm, fun _ h _ => h, fun _ h => h⟩ (S.setDat i hd)
theorem r_gnil : RTgs c gNil gsNil := by
  intro M σ H ρ S vs ds hd u ρ' hm Q q
  cases hd with
  | nil => cases hm; exact ⟨rfl, q M σ H .refl S⟩
  | cons _ _ => cases hm
theorem r_gcons {g : TG} {gs : TGs} {mg : D → Mo Unit} {ms : List D → Mo Unit} (h : RTg c g mg) (hs : RTgs c gs ms) : RTgs c (gCons g gs) (gsCons mg ms) := by
  intro M σ H ρ S vs ds hd u ρ' hm Q q
  cases hd with
  | nil => cases hm
  | cons h1 h2 =>
    obtain ⟨x, ρ1, e1, e2⟩ := mBd_some (show mBd (mg _) (fun _ => ms _) ρ = some (u, ρ') from hm)
    refine ⟨_, _, rfl, h M σ H ρ S _ _ h1 x ρ1 e1 _ fun M1 σ1 H1 E1 S1 => ?_⟩
    exact hs M1 σ1 H1 ρ1 S1 _ _ (h2.ev S.kind E1.ev) u ρ' e2 Q fun M2 σ2 H2 E2 S2 => q M2 σ2 H2 (E1.trans E2 S.kind) S2
theorem r_gtup {n : Nat} {gs : TGs} {ms : List D → Mo Unit} (hs : RTgs c gs ms) : RTg c (gTup K n gs) (gTp n ms) := by
  intro M σ H ρ S v d hd u ρ' hm Q q
  cases hd with
  | tup h a =>
    unfold gTp at hm
    simp only at hm
    split at hm
    · rename_i hl
      exact ⟨_, _, rfl, h, by rw [a.length]; exact hl, hs M σ H ρ S _ _ a u ρ' hm Q q⟩
    · cases hm
  | _ => cases hm
theorem owns_some {i : Nat} {ρ : Cs} (h : owns i ρ = true) : ∃ p d, ρ[i]? = some (.own p d) := by
  unfold owns at h
  split at h
  · exact ⟨_, _, by assumption⟩
  · cases h
/-- o[k] = v -/
theorem r_gput {i : Nat} {ti : TE} {mi : Mo D} (hi : REv c ti mi) : RTg c (gSub (tVar i) ti rSetL) (gPut i mi) := by
  intro M σ H ρ S v d hd u ρ' hm Q q
  unfold gPut at hm
  split at hm
  · rename_i hw
    obtain ⟨p0, d0, e0⟩ := owns_some hw
    obtain ⟨a, ha, _⟩ := S.own e0
    obtain ⟨n, ρ1, h1, h2⟩ := mBd_some hm
    unfold putL at h2
    split at h2
    · rename_i p ds e
      split at h2
      · rename_i n' hn
        split at h2
        · rename_i j hj
          cases h2
          refine ⟨_, ha, hi M σ H ρ S _ _ h1 _ fun M1 w H1 E1 S1 hw => ?_⟩
          obtain ⟨a', ha', hM, _, o, ho, hc⟩ := S1.own e
          rw [ha] at ha'
          cases ha'
          cases hc with
          | lst hx =>
            rename_i xs
            refine ⟨a, xs, n', j, rfl, int_of hw hn, ho, by rw [hx.length]; exact hj, ?_⟩
            have hv := (hd.ev S.kind E1.ev)
            have k2 : Kind M1 (upd H1 a (.lst (xs.set j v))) := fun b hb => by
              by_cases z : b = a
              · subst z; exact ⟨_, upd_same, trivial⟩
              · obtain ⟨o, q, m⟩ := S1.kind b hb
                exact ⟨o, by rw [upd_ne z]; exact q, m⟩
            have ev2 : Ev M1 H1 M1 (upd H1 a (.lst (xs.set j v))) := ⟨fun b h => .inl h, fun b o nb h => by rw [upd_ne (fun z => nb (by rw [z]; exact hM))]; exact h⟩
            have E2 := S1.mutE (d' := .lst (ds.set j d)) (H' := upd H1 a (.lst (xs.set j v))) ha e (fun b o nb h => by rw [upd_ne nb]; exact h) ⟨_, upd_same, .lst ((hx.set hv j).ev S1.kind ev2)⟩
            exact q M1 σ _ (E1.trans E2.1 S.kind) E2.2
        · cases h2
      · cases h2
    · cases h2
  · cases hm
end
end DL
namespace L2
open PySem PySem.Spec PyProof.Rows
def Pu (m : Nat) (H : Hp) (p : Addr) : Prop := ∃ d s c : Int, H p = some (.lst [.int d, .int s, .int c]) ∧ Builtin.Int.intBits d ≤ 1048576 ∧ 0 ≤ s ∧ s < 2147483648 ∧ 0 ≤ c ∧ c + (m : Int) ≤ 1000000000
theorem Pu.mono {m n : Nat} {H : Hp} {p : Addr} (h : Pu m H p) (k : n ≤ m) : Pu n H p := by
  obtain ⟨d, s, c, e, a, b, f, g, i⟩ := h
  exact ⟨d, s, c, e, a, b, f, g, by omega⟩
theorem Pu.same {m : Nat} {H H' : Hp} {p : Addr} (h : Pu m H p) (e : Same H H') : Pu m H' p := by
  obtain ⟨d, s, c, q, r⟩ := h
  exact ⟨d, s, c, e _ _ q, r⟩
theorem Pu.ne {m : Nat} {H : Hp} {p q : Addr} (h : Pu m H p) (e : H q = none) : q ≠ p := by
  obtain ⟨d, s, c, z, _⟩ := h
  intro x; subst x; rw [z] at e; cases e
theorem Pu.free {m : Nat} {H H' : Hp} {p q : Addr} (h : Pu m H' p) (e : Sm p H H') (z : H' q = none) : H q = none := by
  obtain ⟨d, s, c, k, _⟩ := h
  exact e.free k z
theorem bits_mono {i j : Int} (h : i.natAbs ≤ j.natAbs) : Builtin.Int.intBits i ≤ Builtin.Int.intBits j := by
  unfold Builtin.Int.intBits
  by_cases hi : i = 0
  · simp [hi]
  · have hj : j ≠ 0 := by omega
    simp only [beq_iff_eq, hi, hj, if_false]
    have a : i.natAbs ≠ 0 := by omega
    have b : j.natAbs ≠ 0 := by omega
    have : 2 ^ i.natAbs.log2 ≤ j.natAbs := Nat.le_trans (Nat.log2_self_le a) h
    have := (Nat.le_log2 b).mpr this
    omega
theorem bits_div {d n : Int} (hd : 0 ≤ d) (hn : 0 < n) : Builtin.Int.intBits (d / n) ≤ Builtin.Int.intBits d := by
  refine bits_mono ?_
  have h1 : 0 ≤ d / n := Int.ediv_nonneg hd (by omega)
  have h2 : d / n ≤ d := Int.ediv_le_self n hd
  omega
end L2
namespace PySem
open Sem (wp)
open AutoSeq1 (wpAny_loadPart')
theorem my_enum_meets (l : Addr) (items : Array Value) (n : Nat) (dct : Option Addr) (sl : Array (Option Value)) :
    Meets (Builtin.«enumerate.__new__» ⟨[.type "enumerate", .ref l], []⟩) (fun _ R s => s.heap.get? l = some { cls := .type "tuple", dict := dct, data := .seq items n, slots := sl } ∧
      R (.ok (.ret (.ref (s.heap.push { cls := .type "tuple_iterator", data := .fields #[.ref l, .int 0 0] }).objs.size)))
        { s with heap := (s.heap.push { cls := .type "tuple_iterator", data := .fields #[.ref l, .int 0 0] }).push { cls := .type "enumerate", data := .fields #[.none, .bool false, .ref s.heap.objs.size, rawInt 0, .none, .none] } }) := by
  refine .of_wp fun prog w A R s h => ?_
  obtain ⟨hp, g, d, tk, os⟩ := s
  obtain ⟨hl, h⟩ := h
  have hsub := sub_enumerate
  have hL : Heap.IsTuple (Shared.heap ⟨hp, g, d, tk, os⟩) l items := ⟨_, hl, rfl, n, rfl⟩
  wp_walk using wpAny_loadPart' hl
  refine wpAny_stack_any fun st => wpAny_pure ?_
  split
  · rename_i c _ _ _ _ _
    cases (c == Value.type "enumerate") <;> (wp_walk using wpAny_loadPart' hl, wpAny_pyIter_tuple hL; exact ⟨_, rfl, h⟩)
  · wp_walk using wpAny_loadPart' hl, wpAny_pyIter_tuple hL
    exact ⟨_, rfl, h⟩
theorem my_enum_tuple {prog : Program} {w : World} {A : Around} {E : Value → Shared → Prop} {s : Shared} {l : Addr} {items : Array Value} {Q : Value → Shared → Prop} (hL : s.heap.IsTuple l items)
    (h : ∀ h', IsEnum h' (s.heap.objs.size + 1) s.heap.objs.size 0 .none → h'.IsTupleIter s.heap.objs.size l 0 → h'.objs.size = s.heap.objs.size + 2 →
      (∀ b o, s.heap.get? b = some o → h'.get? b = some o) → Q (.ref (s.heap.objs.size + 1)) { s with heap := h' }) :
    wpAny (model prog w) A (call (.type "enumerate") [.ref l]) Q E s := by
  obtain ⟨⟨c, dct, dt, sl⟩, hl, hc, n, hd⟩ := hL
  obtain rfl : c = .type "tuple" := hc
  obtain rfl : dt = .seq items n := hd
  have z : (s.heap.push { cls := .type "tuple_iterator", data := .fields #[.ref l, .int 0 0] }).objs.size = s.heap.objs.size + 1 := Heap.size_push ..
  refine callType_new F.called_enumerate (by decide) (F.typeCall_enumerate_1 _) (F.newCall_enumerate_1 _) (fun obj => F.args_object_init_2 obj _) F.entry_enumerate_new (my_enum_meets l items n dct sl) ⟨hl, ?_⟩
  show _ ∧ _
  rw [z]
  have he : IsEnum ((s.heap.push { cls := .type "tuple_iterator", data := .fields #[.ref l, .int 0 0] }).push { cls := .type "enumerate", data := .fields #[.none, .bool false, .ref s.heap.objs.size, rawInt 0, .none, .none] }) (s.heap.objs.size + 1) s.heap.objs.size 0 .none := by
    have q := Heap.get?_push_size (s.heap.push { cls := .type "tuple_iterator", data := .fields #[.ref l, .int 0 0] }) (o := { cls := .type "enumerate", data := .fields #[.none, .bool false, .ref s.heap.objs.size, rawInt 0, .none, .none] }) rfl
    rw [z] at q
    exact q
  exact ⟨⟨_, he, rfl⟩, h _ he ⟨_, Heap.get?_push_of_some _ (Heap.get?_push_size _ rfl), rfl, rfl⟩ (by rw [Heap.size_push, z]) fun b o x => Heap.get?_push_of_some _ (Heap.get?_push_of_some _ x)⟩
end PySem
namespace L2
open PySem PySem.Spec PyProof.Rows
/-- the tuple at a, each item in a new pair with its place -/
def IteT (K : PySem.W.Frag) (a : Addr) : It :=
  ⟨fun i H => ∃ (xs : List V) (x : V), SqT K H a xs ∧ xs[i]? = some x, fun i H v H' => ∃ T x, v = .ref T ∧ H T = none ∧ H' = upd H T (.tup [.int (i : Nat), x]) ∧ ∀ xs, SqT K H a xs → xs[i]? = some x, fun i H => ∃ xs : List V, SqT K H a xs ∧ xs.length ≤ i⟩
theorem my_turn_enum {P : Program} {w : World} {K : PySem.W.Frag} {elts : List Expr} {kk : Nat} {tpos : Pos} (a e it : Addr) (hne : e ≠ it) :
    Turn P w K (.Tuple elts kk tpos) (IteT K a) [e, it] e (fun i h => (∃ old, IsEnum h e it ((i : Nat) : Int) old) ∧ h.IsTupleIter it a i) := by
  have two : ∀ {b : Addr}, b ∈ [e, it] → b = e ∨ b = it := fun hb => by simpa using hb
  constructor
  case mem => simp
  case obj =>
    rintro i h ⟨⟨old, he⟩, o, ho, hc, hd⟩ b hb
    rcases two hb with z | z
    · rw [z]; exact ⟨_, he, fun v q => nomatch q⟩
    · rw [z]; exact ⟨o, ho, fun v q => by rw [hd] at q; cases q⟩
  case keep => exact fun i h h' ⟨⟨old, he⟩, hi⟩ k => ⟨⟨old, k e (by simp) _ he⟩, hi.at fun o q => k it (by simp) o q⟩
  case self => exact fun A i s Q E ⟨⟨_, he⟩, _⟩ h => wpAny_pyIter_enum he h
  case item =>
    intro X hP hw hK hc i pins s σ H E I hf st hg
    subst hP hw hK
    obtain ⟨⟨old, he⟩, hit⟩ := st
    obtain ⟨xs, x, hq, hx⟩ := hg
    obtain ⟨its, rv, p, hz⟩ := I.tuple hq
    obtain ⟨u, hu, ru⟩ := rv.get hx
    have hel : e < s.heap.objs.size := Heap.lt_size he
    have hil : it < s.heap.objs.size := by obtain ⟨_, q, _⟩ := hit; exact Heap.lt_size q
    have tn : a ≠ it := by
      rintro rfl
      obtain ⟨o1, q1, c1, _⟩ := hit
      obtain ⟨o2, q2, c2, _⟩ := p
      rw [q1] at q2; cases q2; rw [c1] at c2; simp at c2
    have te : a ≠ e := by
      rintro rfl
      obtain ⟨o2, q2, c2, _⟩ := p
      rw [he] at q2; cases q2; simp at c2
    have nef : e ∉ [it, a] := fun z => by
      rcases (show e = it ∨ e = a by simpa using z) with z | z
      · exact hne z
      · exact te z.symm
    have hlt : i < its.toArray.size := by
      have := (List.getElem?_eq_some_iff.mp hu).1
      simpa using this
    refine wpAny_pyNext_enum_itemD (Draws.tuple (prog := X.prog) (w := X.w) (A := X.A.in1) (I.ok.hd hc) it a tn its.toArray) he ⟨hit, p⟩ hlt hne nef fun v h' tk hv ho hst hT hsz hk => ?_
    obtain rfl : v = u := by
      have hu' : its.toArray[i]? = some u := by simpa using hu
      rw [hu'] at hv
      exact (Option.some.inj hv).symm
    refine ⟨_, rfl, wpAny_letOwnedTupleGo_enum (s := { s with heap := h', toks := tk + 1 }) ho fun h'' he' sb => ?_⟩
    have hT2 : h''.get? s.heap.objs.size = some { cls := .type "tuple", data := .seq #[.int i tk, v] } := (sb.2 _ (Nat.ne_of_gt hel)).trans hT
    have new : ObjOk X.prog X.w (upd H s.heap.objs.size (.tup [.int (i : Nat), x])) h'' s.heap.objs.size (.tup [.int (i : Nat), x]) :=
      ⟨by show 2 ≤ sizeLine; decide, [.int i tk, v], .cons ⟨_, rfl⟩ (.cons ru .nil), ⟨_, hT2, rfl, _, rfl⟩⟩
    have I1 : Inv X pins σ (upd H s.heap.objs.size (.tup [.int (i : Nat), x])) { s with heap := h'', toks := tk + 1 } :=
      I.turnedNew (ch := [e, it]) (fun b ob hb q => (sb.2 b (fun z => hb (by simp [z]))).trans (hk b ob (fun z => hb (by simp [z])) (fun z => hb (by simp [z])) q)) hf (Nat.le_refl _) new
    refine ⟨.ref s.heap.objs.size, _, I1, rfl, ⟨_, x, rfl, I.hok.fresh (Nat.le_refl _), rfl, fun ys hy => by rw [I.tuple_inj hy hq]; exact hx⟩, ⟨⟨v, ?_⟩, hst.1.at fun o q => (sb.2 it (Ne.symm hne)).trans q⟩, fun b hb => ?_⟩
    · have e1 : ((i + 1 : Nat) : Int) = (i : Int) + 1 := by omega
      rw [e1]; exact he'
    · have hb' : b < s.heap.objs.size := by
        rcases two hb with z | z
        · rw [z]; exact hel
        · rw [z]; exact hil
      rw [upd_ne (Nat.ne_of_lt hb')]
      exact (hf b hb).1
  case done =>
    intro X hP hw hK hc i pins s σ H E I hf st hg
    subst hP hw hK
    obtain ⟨⟨old, he⟩, hit⟩ := st
    obtain ⟨xs, hq, hx⟩ := hg
    obtain ⟨its, rv, p, hz⟩ := I.tuple hq
    obtain ⟨f0, f1, f2, f3, f4, f5⟩ := hf it (by simp)
    have hl := rv.length
    have D : Draws X.prog X.w X.A.in1 it [it, a] 0 (fun _ _ => False) (fun _ h => h.IsTupleIter it a i ∧ h.IsTuple a its.toArray) :=
      { live := fun _ _ st => let ⟨o, ho, _⟩ := st.1; ⟨o, ho⟩
        frame := fun _ _ _ st hk => ⟨st.1.at fun o e => hk it (by simp) o e, st.2.at fun o e => hk a (by simp) o e⟩
        item := fun j s Q E hj => absurd hj (Nat.not_lt_zero _)
        done := fun s Q E st hE => wpAny_nextOf_tuple_end (I.ok.hd hc) st.1 st.2 (by simp; omega) hE }
    exact wpAny_pyNext_enum_endD D he ⟨hit, p⟩ fun h' eb => ⟨rfl, I.turned (t' := s.toks) (fun b o hb q => eb b o hb q) f0 f1 f3 f4 f5⟩
def iEnumT (K : PySem.W.Frag) (ta : TA) : TI := fun σ H R => ta σ H fun vs H1 => ∃ a xs, vs = [.ref a] ∧ SqT K H1 a xs ∧ R (IteT K a) H1
theorem pi_enumT {X : Cx} {e : Expr} {ta : TA} {p pos tpos : Pos} {elts : List Expr} {kk : Nat} (hg : Gl X "enumerate") (hm : X.mg "enumerate" = none) (ha : PA X [e] ta) (hs : starEach [e] X.env = [(false, eval e X.env)] := by rfl) :
    PI X (.Tuple elts kk tpos) (.Call (.Name "enumerate" p) [e] [] pos) (iEnumT X.K ta) := by
  constructor
  intro pins s σ H R I h
  refine Call_ (ld_blt I hg hm boot_enumerate (PyProof.Rows.callWith_type1 (thn (ha.run pos pins s σ H _ I h) fun us s1 ⟨vs, H1, I1, r1, a, xs, ex, hq, q⟩ => ?_) hs rfl))
  subst ex
  obtain ⟨u, rfl, r⟩ := vals1 r1
  cases r
  obtain ⟨its, rv, p', hz⟩ := I1.tuple hq
  refine my_enum_tuple p' fun h' he hit hsz hk => wpAny_pyIter_enum he ?_
  have I2 : Inv X pins σ H1 { s1 with heap := h' } := I1.kept (t' := s1.toks) hk
  refine ⟨s1.heap.objs.size + 1, [s1.heap.objs.size + 1, s1.heap.objs.size], _, _, H1, rfl, I2, my_turn_enum a _ _ (Nat.succ_ne_self _), ⟨⟨.none, he⟩, hit⟩, fun b hb => ?_, q⟩
  have hle : s1.heap.objs.size ≤ b := by
    rcases (show b = s1.heap.objs.size + 1 ∨ b = s1.heap.objs.size by simpa using hb) with z | z
    · rw [z]; exact Nat.le_add_right _ _
    · rw [z]; exact Nat.le_refl _
  exact I1.fpOk hle (I1.hok.fresh hle)
theorem walk_enumT {K : PySem.W.Frag} {a : Addr} {xs : List V} : Walk (IteT K a) xs.length (fun H => SqT K H a xs) (YPair (fun i => some (.int (i : Nat))) (fun i => xs[i]?)) :=
  ⟨fun i _ hi q => ⟨xs, xs[i], q, by simp [hi]⟩, fun _ q => ⟨xs, q, Nat.le_refl _⟩, fun i H v H' _ q ⟨T, x, h1, h2, h3, h4⟩ => ⟨T, .int (i : Nat), x, h1, h2, h3, rfl, h4 xs q⟩⟩
end L2
set_option autoImplicit false
namespace DL
open PySem PySem.Spec PyProof.Rows L2
structure Wk {K : PySem.W.Frag} (c : Ctx K) (M : Addr → Prop) (H : Hp) (J : It) (ds : List D) (G : Hp → Prop) (Y : Nat → Hp → V → Hp → Prop) : Prop where
  w : Walk J ds.length G Y
  g : ∀ M1 H1, Ev M H M1 H1 → G H1
  y : ∀ i M1 H1 x H2, Ev M H M1 H1 → Kind M1 H1 → i < ds.length → Y i H1 x H2 → Same H1 H2 ∧ ∃ d, ds[i]? = some d ∧ Dat K M1 H2 x d
def RIt {K : PySem.W.Frag} (c : Ctx K) (wi : TI) (m : Mo (List D)) : Prop := ∀ M σ H ρ, Sta c M σ H ρ → ∀ ds ρ', m ρ = some (ds, ρ') → ∀ R : It → Hp → Prop,
  (∀ M' H' J G Y, Es σ M H ρ σ M' H' ρ' → Sta c M' σ H' ρ' → Wk c M' H' J ds G Y → R J H') → wi σ H R
structure DI (X : Cx) {K : PySem.W.Frag} (c : Ctx K) (tg e : Expr) (wi : TI) (m : Mo (List D)) : Prop where
  p : PI X tg e wi
  r : RIt c wi m
def seqL : D → Option (List D)
  | .lst ds => some ds
  | _ => none
def seqT : D → Option (List D)
  | .tup ds => some ds
  | _ => none
def iSeq (f : D → Option (List D)) (a : Mo D) : Mo (List D) := mBd a fun d => mL (f d)
def rngD (lo : Int) (n : Nat) : List D := (List.range n).map fun (k : Nat) => D.int (lo + k)
def rng1? : List D → Option (List D)
  | [.int j] => if -(2 ^ 62) ≤ j ∧ j < 2 ^ 62 then some (rngD 0 j.toNat) else none
  | _ => none
def iFn (f : List D → Option (List D)) (a : Mo (List D)) : Mo (List D) := mBd a fun ds => mL (f ds)
def enumD (k : Nat) : List D → List D
  | [] => []
  | d :: r => .tup [.int (k : Nat), d] :: enumD (k + 1) r
def enumT? : List D → Option (List D)
  | [.tup ds] => some (enumD 0 ds)
  | _ => none
theorem rngD_length (lo : Int) (n : Nat) : (rngD lo n).length = n := by simp [rngD]
theorem rngD_get {lo : Int} {n i : Nat} (h : i < n) : (rngD lo n)[i]? = some (.int (lo + i)) := by
  unfold rngD
  rw [List.getElem?_map, List.getElem?_range h]
  rfl
theorem enumD_length : ∀ (k : Nat) (ds : List D), (enumD k ds).length = ds.length
  | _, [] => rfl
  | k, d :: r => by rw [enumD, List.length_cons, List.length_cons, enumD_length]
theorem enumD_get : ∀ {k i : Nat} {ds : List D} {d : D}, ds[i]? = some d → (enumD k ds)[i]? = some (.tup [.int ((k + i : Nat) : Int), d])
  | k, 0, d :: r, _, h => by simp at h; subst h; rfl
  | k, i + 1, d :: r, e, h => by
    have h' : r[i]? = some e := by simpa using h
    have := enumD_get (k := k + 1) h'
    rw [enumD, List.getElem?_cons_succ, this, show k + 1 + i = k + (i + 1) by omega]
  | _, _, [], _, h => by simp at h
section
variable {K : PySem.W.Frag} {c : Ctx K} {te : TE} {me : Mo D} {ta : TA} {ma : Mo (List D)}
theorem r_ilist (h : REv c te me) : RIt c (iList K te) (iSeq seqL me) := by
  intro M σ H ρ S ds ρ' hm R q
  obtain ⟨d, ρ1, h1, h2⟩ := mBd_some hm
  obtain ⟨h3, e⟩ := mL_some h2
  subst e
  refine h M σ H ρ S d _ h1 _ fun M' v H' E S' hd => ?_
  cases d <;> simp [seqL] at h3
  subst h3
  cases hd with
  | lst n hH a =>
    refine ⟨_, rfl, ⟨_, SqL.of hH⟩, q M' H' _ _ _ E S' ⟨by rw [← a.length]; exact walk_list, fun M1 H1 e => SqL.of (e.h _ _ n hH), fun i M1 H1 x H2 e k hi y => ?_⟩⟩
    obtain ⟨rfl, hx⟩ := y
    obtain ⟨d, e1, hd⟩ := (a.ev S'.kind e).get hx
    exact ⟨.refl _, d, e1, hd⟩
theorem r_itup (h : REv c te me) : RIt c (iTup K te) (iSeq seqT me) := by
  intro M σ H ρ S ds ρ' hm R q
  obtain ⟨d, ρ1, h1, h2⟩ := mBd_some hm
  obtain ⟨h3, e⟩ := mL_some h2
  subst e
  refine h M σ H ρ S d _ h1 _ fun M' v H' E S' hd => ?_
  cases d <;> simp [seqT] at h3
  subst h3
  cases hd with
  | tup hH a =>
    refine ⟨_, rfl, ⟨_, hH⟩, q M' H' _ _ _ E S' ⟨by rw [← a.length]; exact walk_tup, fun M1 H1 e => S'.kind.sqT e hH, fun i M1 H1 x H2 e k hi y => ?_⟩⟩
    obtain ⟨rfl, hx⟩ := y
    obtain ⟨d, e1, hd⟩ := (a.ev S'.kind e).get hx
    exact ⟨.refl _, d, e1, hd⟩
theorem wk_range {M : Addr → Prop} {H : Hp} (lo : Int) (n : Nat) : Wk c M H (Itr lo n) (rngD lo n) (fun _ => True) (YFn fun i => .int (lo + i)) := by
  refine ⟨by rw [rngD_length]; exact walk_range, fun _ _ _ => trivial, fun i M1 H1 x H2 e k hi y => ?_⟩
  obtain ⟨rfl, rfl⟩ := y
  rw [rngD_length] at hi
  exact ⟨.refl _, _, rngD_get hi, .int _⟩
theorem r_irng1 (h : RAv c ta ma) : RIt c (iRng1 ta) (iFn rng1? ma) := by
  intro M σ H ρ S ds ρ' hm R q
  obtain ⟨d, ρ1, h1, h2⟩ := mBd_some hm
  obtain ⟨h3, e⟩ := mL_some h2
  subst e
  refine h M σ H ρ S d _ h1 _ fun M' vs H' E S' hd => ?_
  unfold rng1? at h3
  split at h3 <;> try (cases h3; done)
  obtain ⟨⟨a1, a2⟩, rfl⟩ := if_some h3
  obtain ⟨v, rfl, hv⟩ := one_of hd
  cases hv
  exact ⟨_, rfl, a1, a2, q M' H' _ _ _ E S' (wk_range 0 _)⟩
theorem pair_y {M M1 : Addr → Prop} {H1 H2 : Hp} {T : Addr} {x y : V} {d e : D} (hT : H1 T = none) (hH : H2 = upd H1 T (.tup [x, y])) (hd : Dat K M1 H1 x d) (he : Dat K M1 H1 y e) : Same H1 H2 ∧ Dat K M1 H2 (.ref T) (.tup [d, e]) := by
  subst hH
  exact dat_tup hT (.cons hd (.cons he .nil))
theorem r_ienumT (h : RAv c ta ma) : RIt c (iEnumT K ta) (iFn enumT? ma) := by
  intro M σ H ρ S ds ρ' hm R q
  obtain ⟨d, ρ1, h1, h2⟩ := mBd_some hm
  obtain ⟨h3, e⟩ := mL_some h2
  subst e
  refine h M σ H ρ S d _ h1 _ fun M' vs H' E S' hd => ?_
  unfold enumT? at h3
  split at h3 <;> try (cases h3; done)
  cases h3
  obtain ⟨v, rfl, hv⟩ := one_of hd
  cases hv with
  | tup hH a =>
    refine ⟨_, _, rfl, hH, q M' H' _ _ _ E S' ⟨by rw [enumD_length, ← a.length]; exact walk_enumT, fun M1 H1 e => S'.kind.sqT e hH, fun i M1 H1 x H2 e k hi y => ?_⟩⟩
    obtain ⟨T, x1, x2, rfl, hT, hH2, e1, e2⟩ := y
    cases e1
    obtain ⟨d, e3, hd⟩ := (a.ev S'.kind e).get e2
    obtain ⟨s, t⟩ := pair_y (M := M1) hT hH2 (.int _) hd
    exact ⟨s, _, by rw [enumD_get e3, Nat.zero_add], t⟩
end
end DL
set_option autoImplicit false
namespace DL
open PySem PySem.Spec PyProof.Rows L2
section
variable {K : PySem.W.Frag} {c : Ctx K} {wi : TI} {mi : Mo (List D)} {g : TG} {mg : D → Mo Unit} {tb : TS} {mb : Mo Fl}
theorem drop_get {α : Type} {l : List α} {i : Nat} {d : α} (h : l[i]? = some d) : l.drop i = d :: l.drop (i + 1) := by
  obtain ⟨hl, e⟩ := List.getElem?_eq_some_iff.mp h
  rw [← e]
  exact List.drop_eq_getElem_cons hl
theorem r_for (hi : RIt c wi mi) (hg : RTg c g mg) (hb : RSt c tb mb) : RSt c (tFor wi g tb) (sFor mi mg mb) := by
  intro M σ H ρ S f ρ' hm D q
  obtain ⟨ds, ρ1, h1, h2⟩ := mBd_some hm
  refine hi M σ H ρ S ds ρ1 h1 _ fun M' H' J G Y E S' W => ?_
  have q' : Post c M' H' D f ρ' := q.ev E.ev
  refine for_it W.w (fun i σ2 H2 => ∃ M2 ρ2, Ev M' H' M2 H2 ∧ Sta c M2 σ2 H2 ρ2 ∧ goFor mg mb (ds.drop i) ρ2 = some (f, ρ')) ⟨M', ρ1, .refl, S', by rw [List.drop_zero]; exact h2⟩ (fun i σ2 H2 _ ⟨M2, ρ2, e, _, _⟩ => W.g M2 H2 e) ?_ ?_
  · rintro i x σ2 H2 H3 hlt ⟨M2, ρ2, e2, S2, go⟩ y
    obtain ⟨s3, d, hd, dx⟩ := W.y i M2 H2 x H3 e2 S2.kind hlt y
    rw [drop_get hd] at go
    unfold goFor at go
    cases e3 : mg d ρ2 with
    | none => rw [e3] at go; cases go
    | some r =>
      obtain ⟨u, ρ3⟩ := r
      rw [e3] at go
      simp only at go
      refine hg M2 σ2 H3 ρ2 (S2.same s3) x d dx u ρ3 e3 _ fun M4 σ4 H4 E4 S4 => ?_
      have e4 : Ev M' H' M4 H4 := (e2.trans (.same s3)).trans E4.ev
      cases e5 : mb ρ3 with
      | none => rw [e5] at go; cases go
      | some r5 =>
        obtain ⟨f5, ρ5⟩ := r5
        rw [e5] at go
        refine hb M4 σ4 H4 ρ3 S4 f5 ρ5 e5 _ ?_
        cases f5 with
        | nx => exact fun M6 σ6 H6 E6 S6 => ⟨M6, ρ5, e4.trans E6, S6, go⟩
        | ct => exact fun M6 σ6 H6 E6 S6 => ⟨M6, ρ5, e4.trans E6, S6, go⟩
        | bk =>
          cases go
          exact fun M6 σ6 H6 E6 S6 => q' M6 σ6 H6 (e4.trans E6) S6
        | rt d =>
          cases go
          exact fun M6 σ6 v H6 E6 S6 hd => q' M6 σ6 v H6 (e4.trans E6) S6 hd
        | rn d =>
          cases go
          exact fun M6 σ6 a H6 E6 S6 n => q' M6 σ6 a H6 (e4.trans E6) S6 n
  · rintro σ2 H2 ⟨M2, ρ2, e2, S2, go⟩
    rw [List.drop_length] at go
    cases go
    exact q' M2 σ2 H2 e2 S2
end
/-- the comprehension's own slots, forgotten; put back -/
def clr : List Nat → Cs → Cs
  | [], ρ => ρ
  | v :: vs, ρ => (clr vs ρ).set v .no
def back : List Nat → Cs → Cs → Cs
  | [], _, ρ => ρ
  | v :: vs, ρ0, ρ => match ρ0[v]? with
    | some x => (back vs ρ0 ρ).set v x
    | none => back vs ρ0 ρ
/-- none of them is owned -/
def free (vs : List Nat) (ρ : Cs) : Bool := vs.all fun v => match ρ[v]? with
  | some (.own _ _) => false
  | _ => true
def goLc (vs : List Nat) (g : D → Mo Unit) (t : Mo Bool) (e : Mo D) : List D → List D → Mo (List D)
  | [], acc, ρ => some (acc, ρ)
  | d :: ds, acc, ρ => match g d (clr vs ρ) with
    | none => none
    | some (_, ρ1) => match t ρ1 with
      | none => none
      | some (false, ρ2) => goLc vs g t e ds acc ρ2
      | some (true, ρ2) => match e ρ2 with
        | none => none
        | some (y, ρ3) => if acc.length < sizeLine then goLc vs g t e ds (acc ++ [y]) ρ3 else none
def mLc (vs : List Nat) (it : Mo (List D)) (g : D → Mo Unit) (t : Mo Bool) (e : Mo D) : Mo D := mBd it fun ds ρ0 => if free vs ρ0 = true then (match goLc vs g t e ds [] (clr vs ρ0) with
  | some (acc, ρ1) => some (.lst acc, back vs ρ0 (clr vs ρ1))
  | none => none) else none
theorem clr_length : ∀ (vs : List Nat) (ρ : Cs), (clr vs ρ).length = ρ.length
  | [], _ => rfl
  | v :: vs, ρ => by rw [clr, List.length_set, clr_length vs ρ]
theorem clr_out : ∀ {vs : List Nat} {ρ : Cs} {i : Nat}, i ∉ vs → (clr vs ρ)[i]? = ρ[i]?
  | [], _, _, _ => rfl
  | v :: vs, ρ, i, h => by
    rw [clr, List.getElem?_set_ne (fun z => h (by rw [z]; exact List.mem_cons_self)), clr_out fun z => h (List.mem_cons_of_mem _ z)]
theorem clr_in : ∀ {vs : List Nat} {ρ : Cs} {i : Nat}, i ∈ vs → i < ρ.length → (clr vs ρ)[i]? = some .no
  | v :: vs, ρ, i, h, hl => by
    rw [clr]
    by_cases z : v = i
    · subst z
      rw [List.getElem?_set_self (by rw [clr_length]; exact hl)]
    · rw [List.getElem?_set_ne z]
      exact clr_in ((List.mem_cons.mp h).elim (fun e => (z e.symm).elim) id) hl
theorem back_length : ∀ (vs : List Nat) (ρ0 ρ : Cs), (back vs ρ0 ρ).length = ρ.length
  | [], _, _ => rfl
  | v :: vs, ρ0, ρ => by
    rw [back]
    split
    · rw [List.length_set, back_length vs ρ0 ρ]
    · exact back_length vs ρ0 ρ
theorem back_out : ∀ {vs : List Nat} {ρ0 ρ : Cs} {i : Nat}, i ∉ vs → (back vs ρ0 ρ)[i]? = ρ[i]?
  | [], _, _, _, _ => rfl
  | v :: vs, ρ0, ρ, i, h => by
    rw [back]
    split
    · rw [List.getElem?_set_ne (fun z => h (by rw [z]; exact List.mem_cons_self)), back_out fun z => h (List.mem_cons_of_mem _ z)]
    · exact back_out fun z => h (List.mem_cons_of_mem _ z)
theorem back_in : ∀ {vs : List Nat} {ρ0 ρ : Cs} {i : Nat} {x : Cell}, i ∈ vs → ρ0[i]? = some x → i < ρ.length → (back vs ρ0 ρ)[i]? = some x
  | v :: vs, ρ0, ρ, i, x, h, hx, hl => by
    rw [back]
    by_cases z : v = i
    · subst z
      rw [hx]
      simp only
      rw [List.getElem?_set_self (by rw [back_length]; exact hl)]
    · have h' : i ∈ vs := (List.mem_cons.mp h).elim (fun e => (z e.symm).elim) id
      split
      · rw [List.getElem?_set_ne z]
        exact back_in h' hx hl
      · exact back_in h' hx hl
theorem wipe_no : ∀ {vs : List Nat} {σ : L2.St} {i : Nat}, i ∈ vs → i < σ.length → (wipe σ vs)[i]? = some none
  | v :: vs, σ, i, h, hl => by
    show ((wipe σ vs).set v none)[i]? = some none
    by_cases z : v = i
    · subst z
      rw [List.getElem?_set_self (by rw [wipe_length]; exact hl)]
    · rw [List.getElem?_set_ne z]
      exact wipe_no ((List.mem_cons.mp h).elim (fun e => (z e.symm).elim) id) hl
section
variable {K : PySem.W.Frag} {c : Ctx K} {M M1 : Addr → Prop} {σ : L2.St} {H H1 : Hp} {ρ ρ1 : Cs}
/-- the state within the comprehension -/
theorem Sta.clr (S : Sta c M σ H ρ) (vs : List Nat) : Sta c M (wipe σ vs) H (DL.clr vs ρ) := by
  refine ⟨S.pm, S.sub, S.new, S.kind, S.base, by rw [clr_length, wipe_length]; exact S.len, fun i x y h1 h2 => ?_, fun i j a p q d e a1 a2 a3 a4 => ?_⟩
  · by_cases z : i ∈ vs
    · have hl : i < ρ.length := by
        have := (List.getElem?_eq_some_iff.mp h2).1
        rw [clr_length] at this; exact this
      rw [clr_in z hl] at h2
      cases h2
      exact .no _
    · rw [clr_out z] at h2
      rw [wipe_out z] at h1
      exact S.cell i x y h1 h2
  · have out : ∀ {n : Nat} {q : Bool} {e : D}, (DL.clr vs ρ)[n]? = some (.own q e) → n ∉ vs := fun {n q e} h z => by
      have hl : n < ρ.length := by
        have := (List.getElem?_eq_some_iff.mp h).1
        rw [clr_length] at this; exact this
      rw [clr_in z hl] at h
      cases h
    rw [clr_out (out a2)] at a2
    rw [clr_out (out a4)] at a4
    have w : ∀ {n : Nat} {b : Addr}, (wipe σ vs)[n]? = some (some (.ref b)) → σ[n]? = some (some (.ref b)) := fun h => (wipe_some h).1
    exact S.inj i j a p q d e (w a1) a2 (w a3) a4
theorem held_clr {vs : List Nat} {b : Addr} (hl : σ.length = ρ.length) : Held (wipe σ vs) (clr vs ρ) b → Held σ ρ b := by
  rintro ⟨i, p, d, h1, h2⟩
  have out : i ∉ vs := fun z => by
    have hl : i < ρ.length := by
      have := (List.getElem?_eq_some_iff.mp h2).1
      rw [clr_length] at this; exact this
    rw [clr_in z hl] at h2
    cases h2
  rw [clr_out out] at h2
  exact ⟨i, p, d, (wipe_some h1).1, h2⟩
/-- .. and behind it -/
theorem wipe_same {σ σ1 : L2.St} {vs : List Nat} (hw : wipe σ1 vs = wipe σ vs) {i : Nat} (z : i ∉ vs) : σ1[i]? = σ[i]? := by
  rw [← wipe_out (σ := σ1) z, hw, wipe_out z]
theorem Sta.back {σ1 : L2.St} (S : Sta c M σ H ρ) (vs : List Nat) (hf : DL.free vs ρ = true) (E : Ev M H M1 H1) (hw : wipe σ1 vs = wipe σ vs) (S1 : Sta c M1 σ1 H1 ρ1) : Sta c M1 σ H1 (DL.back vs ρ (DL.clr vs ρ1)) := by
  have len1 : ρ1.length = σ.length := by rw [S1.len, ← wipe_length σ1 vs, hw, wipe_length]
  have own_out : ∀ {n : Nat} {q : Bool} {e : D}, (DL.back vs ρ (DL.clr vs ρ1))[n]? = some (.own q e) → n ∉ vs ∧ ρ1[n]? = some (.own q e) := fun {n q e} h => by
    have hl : n < ρ1.length := by
      have := (List.getElem?_eq_some_iff.mp h).1
      rw [back_length, clr_length] at this; exact this
    by_cases z : n ∈ vs
    · exfalso
      have hn : n < ρ.length := by rw [S.len, ← len1]; exact hl
      have e1 : ρ[n]? = some ρ[n] := List.getElem?_eq_getElem hn
      rw [back_in z e1 (by rw [clr_length]; exact hl)] at h
      have h' := Option.some.inj h
      have := List.all_eq_true.mp hf n z
      rw [e1, h'] at this
      cases this
    · rw [back_out z, clr_out z] at h
      exact ⟨z, h⟩
  refine ⟨S.pm, S1.sub, S1.new, S1.kind, S1.base, by rw [back_length, clr_length]; exact len1, fun i x y h1 h2 => ?_, fun i j a p q d e a1 a2 a3 a4 => ?_⟩
  · by_cases z : i ∈ vs
    · have hl : i < ρ1.length := by
        have := (List.getElem?_eq_some_iff.mp h2).1
        rw [back_length, clr_length] at this; exact this
      have hn : i < ρ.length := by rw [S.len, ← len1]; exact hl
      have e1 : ρ[i]? = some ρ[i] := List.getElem?_eq_getElem hn
      rw [back_in z e1 (by rw [clr_length]; exact hl)] at h2
      have h' := Option.some.inj h2
      have hc := S.cell i x _ h1 e1
      rw [h'] at hc
      cases hc with
      | no => exact .no _
      | dat q => exact .dat (q.ev S.kind E)
      | own m p q =>
        have := List.all_eq_true.mp hf i z
        rw [e1, h'] at this
        cases this
    · rw [back_out z, clr_out z] at h2
      exact S1.cell i x y (by rw [wipe_same hw z]; exact h1) h2
  · obtain ⟨z1, b1⟩ := own_out a2
    obtain ⟨z2, b2⟩ := own_out a4
    exact S1.inj i j a p q d e (by rw [wipe_same hw z1]; exact a1) b1 (by rw [wipe_same hw z2]; exact a3) b2
theorem held_back {σ1 : L2.St} {vs : List Nat} {ρ0 : Cs} {b : Addr} (l0 : ρ0.length = σ.length) (l1 : ρ1.length = σ.length) (hf : free vs ρ0 = true) (hw : wipe σ1 vs = wipe σ vs) : Held σ (back vs ρ0 (clr vs ρ1)) b → Held σ1 ρ1 b := by
  rintro ⟨i, p, d, h1, h2⟩
  have hl : i < ρ1.length := by
    have := (List.getElem?_eq_some_iff.mp h2).1
    rw [back_length, clr_length] at this; exact this
  by_cases z : i ∈ vs
  · exfalso
    have hn : i < ρ0.length := by rw [l0, ← l1]; exact hl
    have e1 : ρ0[i]? = some ρ0[i] := List.getElem?_eq_getElem hn
    rw [back_in z e1 (by rw [clr_length]; exact hl)] at h2
    have h' := Option.some.inj h2
    have := List.all_eq_true.mp hf i z
    rw [e1, h'] at this
    cases this
  · rw [back_out z, clr_out z] at h2
    exact ⟨i, p, d, by rw [wipe_same hw z]; exact h1, h2⟩
/-- an object that is being made, not yet in a slot, is changed -/
theorem Sta.put {a : Addr} {o : HO} (S : Sta c M σ H ρ) (hM : M a) (h0 : c.H0 a = none) (nh : ¬ Held σ ρ a) (hm : MutK o) : Ev M H M (upd H a o) ∧ Sta c M σ (upd H a o) ρ := by
  have E : Ev M H M (upd H a o) := ⟨fun b h => .inl h, fun b u n h => by rw [upd_ne (fun z => n (by rw [z]; exact hM))]; exact h⟩
  refine ⟨E, S.pm, S.sub, S.new, fun b hb => ?_, fun b u n h => ?_, S.len, fun i x y h1 h2 => ?_, S.inj⟩
  · by_cases z : b = a
    · subst z; exact ⟨_, upd_same, hm⟩
    · obtain ⟨u, q, m⟩ := S.kind b hb
      exact ⟨u, by rw [upd_ne z]; exact q, m⟩
  · rw [upd_ne (fun z => by rw [z, h0] at h; cases h)]
    exact S.base b u n h
  · cases S.cell i x y h1 h2 with
    | no => exact .no _
    | dat q => exact .dat (q.ev S.kind E)
    | own m q w =>
      rename_i p' a' d'
      have ne : a' ≠ a := fun z => nh ⟨i, p', d', by rw [← z]; exact h1, h2⟩
      exact .own m q (w.elim fun u r => ⟨u, by rw [upd_ne ne]; exact r.1, r.2.ev S.kind E⟩)
end
/-- the target is the comprehension's own -/
def OwnG (g : TG) (vs : List Nat) : Prop := ∀ v σ H w (Q : L2.St → Hp → Prop), wipe σ vs = w → g v σ H (fun σ2 H2 => wipe σ2 vs = w → Q σ2 H2) → g v σ H fun σ2 H2 => wipe σ2 vs = w ∧ Q σ2 H2
def OwnGs (g : TGs) (vs : List Nat) : Prop := ∀ v σ H w (Q : L2.St → Hp → Prop), wipe σ vs = w → g v σ H (fun σ2 H2 => wipe σ2 vs = w → Q σ2 H2) → g v σ H fun σ2 H2 => wipe σ2 vs = w ∧ Q σ2 H2
theorem wipe_set {σ : L2.St} {vs : List Nat} {i : Nat} {x : Option V} (h : i ∈ vs) : wipe (σ.set i x) vs = wipe σ vs := by
  refine List.ext_getElem? fun j => ?_
  by_cases z : j ∈ vs
  · by_cases l : j < σ.length
    · rw [wipe_no z (by rw [List.length_set]; exact l), wipe_no z l]
    · rw [List.getElem?_eq_none (by rw [wipe_length, List.length_set]; omega), List.getElem?_eq_none (by rw [wipe_length]; omega)]
  · rw [wipe_out z, wipe_out z, List.getElem?_set_ne fun e => z (by rw [← e]; exact h)]
theorem wipe_wipe {σ : L2.St} {vs : List Nat} : wipe (wipe σ vs) vs = wipe σ vs := by
  refine List.ext_getElem? fun j => ?_
  by_cases z : j ∈ vs
  · by_cases l : j < σ.length
    · rw [wipe_no z (by rw [wipe_length]; exact l), wipe_no z l]
    · rw [List.getElem?_eq_none (by rw [wipe_length, wipe_length]; omega), List.getElem?_eq_none (by rw [wipe_length]; omega)]
  · rw [wipe_out z]
theorem own_name {i : Nat} {vs : List Nat} (h : i ∈ vs) : OwnG (gName i) vs := fun v σ H w Q e q => ⟨by rw [wipe_set h]; exact e, q (by rw [wipe_set h]; exact e)⟩
theorem own_nil {vs : List Nat} : OwnGs gNil vs := fun v σ H w Q e q => ⟨q.1, e, q.2 e⟩
/-- a target that asks less when less is wanted -/
theorem own_cons {g : TG} {gs : TGs} {vs : List Nat} (h : OwnG g vs) (hs : OwnGs gs vs) (mono : ∀ v σ H (Q Q' : L2.St → Hp → Prop), (∀ s h, Q s h → Q' s h) → g v σ H Q → g v σ H Q') : OwnGs (gCons g gs) vs := fun v σ H w Q e q => by
  obtain ⟨x, r, rfl, q⟩ := q
  refine ⟨x, r, rfl, mono _ _ _ _ _ (fun s h' z => z.2) (h x σ H w (fun σ' H' => gs r σ' H' fun σ2 H2 => wipe σ2 vs = w ∧ Q σ2 H2) e ?_)⟩
  exact mono _ _ _ _ _ (fun s h' z e' => hs r s h' w Q e' z) q
theorem own_tup {K : PySem.W.Frag} {n : Nat} {gs : TGs} {vs : List Nat} (hs : OwnGs gs vs) : OwnG (gTup K n gs) vs := fun v σ H w Q e q => by
  obtain ⟨a, xs, h1, h2, h3, q⟩ := q
  exact ⟨a, xs, h1, h2, h3, hs xs σ H w Q e q⟩
theorem mono_name {i : Nat} : ∀ v σ H (Q Q' : L2.St → Hp → Prop), (∀ s h, Q s h → Q' s h) → gName i v σ H Q → gName i v σ H Q' := fun _ _ _ _ _ h q => h _ _ q
section
variable {K : PySem.W.Frag} {c : Ctx K} {wi : TI} {mi : Mo (List D)} {g : TG} {mg : D → Mo Unit} {tt : TT} {mt : Mo Bool} {te : TE} {me : Mo D}
theorem r_yes : RTt c tYes (mC true) := by
  intro M σ H ρ S b ρ' hm Q q
  obtain ⟨e1, e2⟩ := mC_some hm
  subst e1 e2
  exact q M H .refl S
theorem r_lc {vs : List Nat} (hi : RIt c wi mi) (hg : RTg c g mg) (ho : OwnG g vs) (ht : RTt c tt mt) (he : REv c te me) : RNw c (tLc wi g tt te vs) (mLc vs mi mg mt me) := by
  intro M σ H ρ S d ρ' hm Q q
  obtain ⟨ds, ρ0, h1, h2⟩ := mBd_some hm
  split at h2
  case isFalse => cases h2
  rename_i hf
  refine hi M σ H ρ S ds ρ0 h1 _ fun M' H' J G Y E S' W => fun D hD => ?_
  cases go0 : goLc vs mg mt me ds [] (clr vs ρ0) with
  | none => rw [go0] at h2; cases h2
  | some r0 =>
    obtain ⟨accf, ρf⟩ := r0
    rw [go0] at h2
    cases h2
    obtain ⟨eD, sD, nD⟩ := S'.nw (o := .lst []) (d := .lst []) hD (same_new hD) upd_same (.lst .nil)
    have h0D := nD.h0
    have n0D := nD.n0
    -- the invariant
    refine lc_it W.w (fun i Hi => ∃ M1 σ1 ρ1 acc accd, wipe σ1 vs = wipe σ vs ∧ Sta c M1 σ1 Hi ρ1 ∧ Es σ M' H' ρ0 σ1 M1 Hi ρ1 ∧ M1 D ∧ ¬ Held σ1 ρ1 D ∧ Hi D = some (.lst acc) ∧ DatAll K M1 Hi acc accd ∧ goLc vs mg mt me (ds.drop i) accd ρ1 = some (accf, ρf)) ?_ (fun i Hi _ ⟨M1, σ1, ρ1, _, _, _, _, e, _⟩ => W.g M1 Hi e.ev) ?_ ?_
    · refine ⟨_, wipe σ vs, clr vs ρ0, [], [], wipe_wipe, sD.clr vs, ⟨eD.ev, eD.kp, fun b o h z => held_clr S'.len.symm z, eD.mc, eD.dm⟩, nD.m, fun z => nD.nh (held_clr S'.len.symm z), upd_same, .nil, by rw [List.drop_zero]; exact go0⟩
    · rintro i x Hi H3 hlt ⟨M1, σ1, ρ1, acc, accd, hw, S1, E1, mD, hD1, aD, dacc, go⟩ y
      obtain ⟨s3, dv, hd, dx⟩ := W.y i M1 Hi x H3 E1.ev S1.kind hlt y
      rw [drop_get hd] at go
      unfold goLc at go
      have S3 : Sta c M1 (wipe σ vs) H3 (clr vs ρ1) := by rw [← hw]; exact (S1.same s3).clr vs
      have E3 : Es σ1 M1 Hi ρ1 (wipe σ vs) M1 H3 (clr vs ρ1) := by
        rw [← hw]
        exact ⟨.same s3, fun b o _ h => s3 b o h, fun b o _ z => held_clr S1.len.symm z, fun _ h _ => h, fun _ h => s3.free h⟩
      cases e4 : mg dv (clr vs ρ1) with
      | none => rw [e4] at go; cases go
      | some r4 =>
        obtain ⟨u4, ρ4⟩ := r4
        rw [e4] at go
        simp only at go
        refine ho x (wipe σ vs) H3 (wipe σ vs) _ wipe_wipe (hg M1 (wipe σ vs) H3 (clr vs ρ1) S3 x dv dx u4 ρ4 e4 _ fun M4 σ4 H4 E4 S4 => ?_)
        · intro hw4
          have E14 : Es σ1 M1 Hi ρ1 σ4 M4 H4 ρ4 := E3.trans E4 S1.kind
          cases e5 : mt ρ4 with
          | none => rw [e5] at go; cases go
          | some r5 =>
            obtain ⟨b5, ρ5⟩ := r5
            rw [e5] at go
            refine ht M4 σ4 H4 ρ4 S4 b5 ρ5 e5 _ fun M5 H5 E5 S5 => ?_
            have E15 : Es σ1 M1 Hi ρ1 σ4 M5 H5 ρ5 := E14.trans E5 S1.kind
            cases b5 with
            | false =>
              rw [if_neg (by decide)]
              exact ⟨M5, σ4, ρ5, acc, accd, hw4, S5, E1.trans E15 S'.kind, E15.mc D mD hD1, fun z => hD1 (E15.hs D _ aD z), E15.kp D _ hD1 aD, dacc.ev S1.kind E15.ev, go⟩
            | true =>
              rw [if_pos rfl]
              simp only at go
              cases e6 : me ρ5 with
              | none => rw [e6] at go; cases go
              | some r6 =>
                obtain ⟨dy, ρ6⟩ := r6
                rw [e6] at go
                simp only at go
                split at go
                case isFalse => cases go
                rename_i hlen
                refine he M5 σ4 H5 ρ5 S5 dy ρ6 e6 _ fun M6 yv H6 E6 S6 dyv => ?_
                have E16 : Es σ1 M1 Hi ρ1 σ4 M6 H6 ρ6 := E15.trans E6 S1.kind
                have a6 := E16.kp D _ hD1 aD
                have m6 := E16.mc D mD hD1
                have h6 : ¬ Held σ4 ρ6 D := fun z => hD1 (E16.hs D _ aD z)
                obtain ⟨E7, S7⟩ := S6.put (o := .lst (acc ++ [yv])) m6 h0D h6 trivial
                refine ⟨acc, a6, by rw [dacc.length]; exact hlen, M6, σ4, ρ6, acc ++ [yv], accd ++ [dy], hw4, S7, ?_, m6, h6, upd_same, ((dacc.ev S1.kind E16.ev).append (.cons dyv .nil)).ev S6.kind E7, go⟩
                have E' := E1.trans E16 S'.kind
                refine ⟨E'.ev.trans E7, fun b o n h => ?_, E'.hs, E'.mc, fun b h => E'.dm b ?_⟩
                · rw [upd_ne (fun z => by rw [z, hD] at h; cases h)]
                  exact E'.kp b o n h
                · by_cases z : b = D
                  · subst z; rw [upd_same] at h; cases h
                  · rw [upd_ne z] at h; exact h
    · rintro Hi ⟨M1, σ1, ρ1, acc, accd, hw, S1, E1, mD, hD1, aD, dacc, go⟩
      rw [List.drop_length] at go
      cases go
      have len1 : ρf.length = σ.length := by rw [S1.len, ← wipe_length σ1 vs, hw, wipe_length]
      have Sb := S'.back vs hf E1.ev hw S1
      have hb : ∀ b, Held σ (back vs ρ0 (clr vs ρf)) b → Held σ1 ρf b := fun b => held_back S'.len len1 hf hw
      exact q M1 D Hi (E.dm D hD) (E.trans ⟨E1.ev, E1.kp, fun b o h z => E1.hs b o h (hb b z), E1.mc, E1.dm⟩ S.kind) Sb ⟨mD, fun z => hD1 (hb D z), h0D, n0D, _, aD, .lst dacc⟩
end
end DL
set_option autoImplicit false
namespace DL
open PySem PySem.Spec PyProof.Rows L2
inductive Items {K : PySem.W.Frag} (c : Ctx K) (M : Addr → Prop) (σ : L2.St) (H : Hp) (ρ : Cs) : List V → List D → List Bool → List Addr → Prop
  | nil : Items c M σ H ρ [] [] [] []
  | dat {v : V} {d : D} {vs : List V} {ds : List D} {fs : List Bool} {as : List Addr} : Dat K M H v d → Items c M σ H ρ vs ds fs as → Items c M σ H ρ (v :: vs) (d :: ds) (false :: fs) as
  | new {a : Addr} {d : D} {vs : List V} {ds : List D} {fs : List Bool} {as : List Addr} : Nw c M σ H ρ a d → a ∉ as → Items c M σ H ρ vs ds fs as → Items c M σ H ρ (.ref a :: vs) (d :: ds) (true :: fs) (a :: as)
def stAll : List Nat → List Bool → List D → Cs → Option Cs
  | [], [], [], ρ => some ρ
  | i :: is, b :: bs, d :: ds, ρ => stAll is bs ds (ρ.set i (if b = true then .own false d else .dat d))
  | _, _, _, _ => none
def svAll : List Nat → List V → L2.St → L2.St
  | i :: is, v :: vs, σ => svAll is vs (σ.set i (some v))
  | _, _, σ => σ
section
variable {K : PySem.W.Frag} {c : Ctx K} {M M' : Addr → Prop} {σ σ' : L2.St} {H H' : Hp} {ρ ρ' : Cs}
theorem Items.es (k : Kind M H) (e : Es σ M H ρ σ' M' H' ρ') {vs : List V} {ds : List D} {fs : List Bool} {as : List Addr} (h : Items c M σ H ρ vs ds fs as) : Items c M' σ' H' ρ' vs ds fs as := by
  induction h with
  | nil => exact .nil
  | dat q _ ih => exact .dat (q.ev k e.ev) ih
  | new q n _ ih => exact .new (q.es k e) n ih
/-- a name takes a new object: the others stay -/
theorem Items.taken {i : Nat} {a : Addr} {d : D} {vs : List V} {ds : List D} {fs : List Bool} {as : List Addr} (h : Items c M σ H ρ vs ds fs as) (n : a ∉ as) : Items c M (σ.set i (some (.ref a))) H (ρ.set i (.own false d)) vs ds fs as := by
  induction h with
  | nil => exact .nil
  | dat q _ ih => exact .dat q (ih n)
  | @new b _ _ _ _ _ q n' _ ih =>
    have nb : b ≠ a := fun z => n (by rw [z]; exact List.mem_cons_self)
    refine .new ⟨q.m, fun z => ?_, q.h0, q.n0, q.o⟩ n' (ih fun z => n (List.mem_cons_of_mem _ z))
    obtain ⟨j, p, e, h1, h2⟩ := z
    by_cases w : i = j
    · subst w
      by_cases l : i < σ.length
      · rw [List.getElem?_set_self l] at h1
        cases h1
        exact nb rfl
      · rw [List.getElem?_eq_none (by rw [List.length_set]; omega)] at h1
        cases h1
    · rw [List.getElem?_set_ne w] at h1 h2
      exact q.nh ⟨j, p, e, h1, h2⟩
theorem Items.setDat {i : Nat} {v : V} {d : D} {vs : List V} {ds : List D} {fs : List Bool} {as : List Addr} (l : σ.length = ρ.length) (h : Items c M σ H ρ vs ds fs as) : Items c M (σ.set i (some v)) H (ρ.set i (.dat d)) vs ds fs as := by
  induction h with
  | nil => exact .nil
  | dat q _ ih => exact .dat q ih
  | new q n' _ ih => exact .new ⟨q.m, fun z => q.nh (held_setDat _ l z), q.h0, q.n0, q.o⟩ n' ih
theorem Items.store : ∀ {is : List Nat} {vs : List V} {ds : List D} {fs : List Bool} {as : List Addr} {σ : L2.St} {ρ ρ' : Cs}, Sta c M σ H ρ → Items c M σ H ρ vs ds fs as → stAll is fs ds ρ = some ρ' → Sta c M (svAll is vs σ) H ρ'
  | [], _, _, _, _, σ, ρ, ρ', S, .nil, e => by cases e; exact S
  | [], _, _, _, _, σ, ρ, ρ', S, .dat _ _, e => by cases e
  | [], _, _, _, _, σ, ρ, ρ', S, .new _ _ _, e => by cases e
  | _ :: _, _, _, _, _, σ, ρ, ρ', S, .nil, e => by cases e
  | i :: is, _, _, _, _, σ, ρ, ρ', S, .dat q r, e => Items.store (is := is) (S.setDat i q) (r.setDat S.len.symm) e
  | i :: is, _, _, _, _, σ, ρ, ρ', S, .new q n r, e => Items.store (is := is) (S.takeN q i) (r.taken n) e
end
def RAf {K : PySem.W.Frag} (c : Ctx K) (t : TA) (fs : List Bool) (m : Mo (List D)) : Prop := ∀ M σ H ρ, Sta c M σ H ρ → ∀ ds ρ', m ρ = some (ds, ρ') → ∀ Q : List V → Hp → Prop,
  (∀ M' vs H' as, (∀ a ∈ as, H a = none) → Es σ M H ρ σ M' H' ρ' → Sta c M' σ H' ρ' → Items c M' σ H' ρ' vs ds fs as → Q vs H') → t σ H Q
structure DF (X : Cx) {K : PySem.W.Frag} (c : Ctx K) (es : List Expr) (t : TA) (fs : List Bool) (m : Mo (List D)) : Prop where
  p : PA X es t
  r : RAf c t fs m
def sPar (is : List Nat) (fs : List Bool) (m : Mo (List D)) : Mo Fl := mBd m fun ds ρ => match stAll is fs ds ρ with
  | some ρ' => some (.nx, ρ')
  | none => none
def gNames : List Nat → TGs
  | [] => gNil
  | i :: is => gCons (gName i) (gNames is)
theorem gNames_run : ∀ {is : List Nat} {vs : List V} {σ : L2.St} {H : Hp} {Q : L2.St → Hp → Prop}, vs.length = is.length → Q (svAll is vs σ) H → gNames is vs σ H Q
  | [], [], _, _, _, _, q => ⟨rfl, q⟩
  | i :: is, v :: vs, σ, H, Q, h, q => ⟨v, vs, rfl, gNames_run (by simpa using h) q⟩
  | [], _ :: _, _, _, _, h, _ => by simp at h
  | _ :: _, [], _, _, _, h, _ => by simp at h
section
variable {K : PySem.W.Frag} {c : Ctx K} {te : TE} {me : Mo D} {tl : TA} {ml : Mo (List D)} {fs : List Bool}
theorem r_fnil : RAf c tNil [] aNil := by
  intro M σ H ρ S ds ρ' hm Q q
  obtain ⟨e1, e2⟩ := mC_some hm
  subst e1 e2
  exact q M [] H [] (fun _ h => nomatch h) .refl S .nil
theorem r_fdat (ha : REv c te me) (hr : RAf c tl fs ml) : RAf c (tCons te tl) (false :: fs) (aCons me ml) := by
  intro M σ H ρ S ds ρ' hm Q q
  obtain ⟨x, ρ1, h1, hm1⟩ := mBd_some hm
  obtain ⟨xs, ρ2, h2, hm2⟩ := mBd_some hm1
  obtain ⟨e1, e2⟩ := mC_some hm2
  subst e1 e2
  exact ha M σ H ρ S x ρ1 h1 _ fun M1 v H1 E1 S1 d1 => hr M1 σ H1 ρ1 S1 xs _ h2 _ fun M2 vs H2 as hf E2 S2 d2 => q M2 _ H2 as (fun a ha => E1.dm a (hf a ha)) (E1.trans E2 S.kind) S2 (.dat (d1.ev S1.kind E2.ev) d2)
theorem r_fnew (ha : RNw c te me) (hr : RAf c tl fs ml) : RAf c (tCons te tl) (true :: fs) (aCons me ml) := by
  intro M σ H ρ S ds ρ' hm Q q
  obtain ⟨x, ρ1, h1, hm1⟩ := mBd_some hm
  obtain ⟨xs, ρ2, h2, hm2⟩ := mBd_some hm1
  obtain ⟨e1, e2⟩ := mC_some hm2
  subst e1 e2
  refine ha M σ H ρ S x ρ1 h1 _ fun M1 a H1 hfa E1 S1 n1 => hr M1 σ H1 ρ1 S1 xs _ h2 _ fun M2 vs H2 as hf E2 S2 d2 => q M2 _ H2 (a :: as) (fun b hb => ?_) (E1.trans E2 S.kind) S2 (.new (n1.es S1.kind E2) (fun z => ?_) d2)
  · rcases List.mem_cons.mp hb with rfl | hb
    · exact hfa
    · exact E1.dm b (hf b hb)
  · obtain ⟨o, ho, _⟩ := n1.o
    rw [hf a z] at ho; cases ho
theorem Items.len {M : Addr → Prop} {σ : L2.St} {H : Hp} {ρ : Cs} {vs : List V} {ds : List D} {as : List Addr} (h : Items c M σ H ρ vs ds fs as) : vs.length = ds.length := by
  induction h with
  | nil => rfl
  | dat _ _ ih => rw [List.length_cons, List.length_cons, ih]
  | new _ _ _ ih => rw [List.length_cons, List.length_cons, ih]
theorem stAll_len : ∀ {is : List Nat} {fs : List Bool} {ds : List D} {ρ ρ' : Cs}, stAll is fs ds ρ = some ρ' → ds.length = is.length
  | [], [], [], _, _, _ => rfl
  | i :: is, b :: bs, d :: ds, ρ, ρ', h => by rw [List.length_cons, List.length_cons, stAll_len (is := is) (fs := bs) (ds := ds) h]
  | [], [], _ :: _, _, _, h => by cases h
  | [], _ :: _, _, _, _, h => by cases h
  | _ :: _, [], _, _, _, h => by cases h
  | _ :: _, _ :: _, [], _, _, h => by cases h
theorem r_par2 {i j : Nat} (h : RAf c tl fs ml) : RSt c (tPar i j tl) (sPar [i, j] fs ml) := by
  intro M σ H ρ S f ρ' hm D q
  obtain ⟨ds, ρ1, h1, h2⟩ := mBd_some hm
  cases e : stAll [i, j] fs ds ρ1 with
  | none => simp only [e] at h2; cases h2
  | some ρ2 =>
    simp only [e] at h2
    cases h2
    refine h M σ H ρ S ds ρ1 h1 _ fun M1 vs H1 as _ E1 S1 it => ?_
    have l : vs.length = 2 := by rw [it.len, stAll_len e]; rfl
    match vs, l with
    | [v, w], _ => exact ⟨v, w, rfl, q M1 _ H1 E1.ev (it.store S1 e)⟩
theorem r_par3 {i j k : Nat} (h : RAf c tl fs ml) : RSt c (tPar3 i j k tl) (sPar [i, j, k] fs ml) := by
  intro M σ H ρ S f ρ' hm D q
  obtain ⟨ds, ρ1, h1, h2⟩ := mBd_some hm
  cases e : stAll [i, j, k] fs ds ρ1 with
  | none => simp only [e] at h2; cases h2
  | some ρ2 =>
    simp only [e] at h2
    cases h2
    refine h M σ H ρ S ds ρ1 h1 _ fun M1 vs H1 as _ E1 S1 it => ?_
    have l : vs.length = 3 := by rw [it.len, stAll_len e]; rfl
    match vs, l with
    | [v, w, x], _ => exact ⟨v, w, x, rfl, q M1 _ H1 E1.ev (it.store S1 e)⟩
def ownsL (i : Nat) (ρ : Cs) : Bool := match ρ[i]? with
  | some (.own _ (.lst _)) => true
  | _ => false
theorem ownsL_some {i : Nat} {ρ : Cs} (h : ownsL i ρ = true) : ∃ p ds, ρ[i]? = some (.own p (.lst ds)) := by
  unfold ownsL at h
  split at h
  · exact ⟨_, _, by assumption⟩
  · cases h
def sAppV (i : Nat) (me : Mo D) : Mo Fl := fun ρ => if ownsL i ρ = true then sApp i me ρ else none
theorem grown {M M1 : Addr → Prop} {σ : L2.St} {H H1 : Hp} {ρ ρ1 : Cs} {i : Nat} {a : Addr} {p : Bool} {ds es : List D} {ys : List V} (ha : σ[i]? = some (some (.ref a))) (e1 : ρ1[i]? = some (.own p (.lst ds))) (E1 : Es σ M H ρ σ M1 H1 ρ1) (S1 : Sta c M1 σ H1 ρ1) (hv : DatAll K M1 H1 ys es) :
    ∃ xs, H1 a = some (.lst xs) ∧ xs.length = ds.length ∧ (Ev M H M1 (upd H1 a (.lst (xs ++ ys))) ∧ Sta c M1 σ (upd H1 a (.lst (xs ++ ys))) (ρ1.set i (.own p (.lst (ds ++ es))))) := by
  obtain ⟨a', ha', hM, _, o, ho, hc⟩ := S1.own e1
  rw [ha] at ha'
  cases ha'
  cases hc with
  | lst hx =>
    rename_i xs
    refine ⟨xs, ho, hx.length, ?_⟩
    have ev2 : Ev M1 H1 M1 (upd H1 a (.lst (xs ++ ys))) := ⟨fun b h => .inl h, fun b o nb h => by rw [upd_ne (fun z => nb (by rw [z]; exact hM))]; exact h⟩
    have E2 := S1.mut (d' := .lst (ds ++ es)) (H' := upd H1 a (.lst (xs ++ ys))) ha e1 (fun b o nb h => by rw [upd_ne nb]; exact h) ⟨_, upd_same, .lst ((hx.append hv).ev S1.kind ev2)⟩
    exact ⟨E1.ev.trans E2.1, E2.2⟩
theorem r_app {i : Nat} (h : REv c te me) : RSt c (tDrop (tBM K "list" rAppend (tVar i) (tCons te tNil))) (sAppV i me) := by
  intro M σ H ρ S f ρ' hm D q
  unfold sAppV at hm
  split at hm
  case isFalse => cases hm
  rename_i hw
  obtain ⟨p0, d0, e0⟩ := ownsL_some hw
  obtain ⟨a, ha, _, _, o0, ho0, hc0⟩ := S.own e0
  obtain ⟨d, ρ1, h1, h2⟩ := mBd_some hm
  split at h2
  · rename_i p ds e1
    obtain ⟨hl, e2⟩ := if_some h2
    cases e2
    cases hc0 with
    | lst _ =>
      refine ⟨_, ha, .inl ⟨rfl, _, SqL.of ho0⟩, h M σ H ρ S d ρ1 h1 _ fun M1 v H1 E1 S1 hv => ?_⟩
      obtain ⟨xs, hx, hlx, E2, S2⟩ := grown ha e1 E1 S1 (.cons hv .nil)
      exact ⟨a, xs, v, rfl, rfl, hx, by rw [hlx]; exact hl, q M1 _ _ E2 S2⟩
  · cases h2
end
end DL
set_option autoImplicit false
namespace DL
open PySem PySem.Spec PyProof.Rows L2
def scal : D → Bool
  | .non | .bl _ | .int _ | .str _ => true
  | _ => false
theorem scal_dat {K : PySem.W.Frag} {M M' : Addr → Prop} {H : Hp} {v : V} {d : D} (h : Dat K M H v d) (s : scal d = true) : Dat K M' H v d := by
  cases d <;> simp [scal] at s <;> cases h <;> constructor
/-- the object of slot i, which the def owns, read as data -/
theorem Sta.peek {K : PySem.W.Frag} {c : Ctx K} {M : Addr → Prop} {σ : L2.St} {H : Hp} {ρ : Cs} (S : Sta c M σ H ρ) {i : Nat} {p : Bool} {d : D} (h : ρ[i]? = some (.own p d)) :
    ∃ a, σ[i]? = some (some (.ref a)) ∧ Kind (fun b => M b ∧ b ≠ a) H ∧ (∀ b, (M b ∧ b ≠ a) → M b) ∧ Dat K (fun b => M b ∧ b ≠ a) H (.ref a) d := by
  obtain ⟨a, ha, _, _, o, ho, hc⟩ := S.own h
  exact ⟨a, ha, fun b hb => S.kind b hb.1, fun b hb => hb.1, (hc.less fun b hb => hb.1).dat (fun z => z.2 rfl) ho⟩
def sc? (o : Option D) : Option D := match o with
  | some d => if scal d = true then some d else none
  | none => none
theorem sc_some {o : Option D} {d : D} (h : sc? o = some d) : o = some d ∧ scal d = true := by
  unfold sc? at h
  split at h
  · obtain ⟨a, rfl⟩ := if_some h
    exact ⟨rfl, a⟩
  · cases h
/-- x op e, x the name in slot i -/
def mOpL (g : D → D → Option D) (i : Nat) (b : Mo D) : Mo D := fun ρ => match ρ[i]? with
  | some (.own _ _) => mBd b (fun y ρ1 => match ρ1[i]? with
    | some (.own _ d) => mL (sc? (g d y)) ρ1
    | _ => none) ρ
  | _ => mOp g (mVar i) b ρ
/-- e op x -/
def mOpRt (g : D → D → Option D) (a : Mo D) (i : Nat) : Mo D := mBd a fun x ρ => match ρ[i]? with
  | some (.own _ d) => mL (sc? (g x d)) ρ
  | _ => mBd (mVar i) (fun y => mL (g x y)) ρ
/-- f(x) -/
def mFnP (g : List D → Option D) (i : Nat) : Mo D := fun ρ => match ρ[i]? with
  | some (.own _ d) => mL (sc? (g [d])) ρ
  | _ => mFn g (aCons (mVar i) aNil) ρ
section
variable {K : PySem.W.Frag} {c : Ctx K} {ta tb : TE} {ma mb : Mo D}
theorem r_opRt {g : D → D → Option D} {i : Nat} (ha : REv c ta ma) : REv c (tOp (rD K g) ta (tVar i)) (mOpRt g ma i) := by
  intro M σ H ρ S d ρ' hm Q q
  obtain ⟨x, ρ1, h1, h2⟩ := mBd_some hm
  split at h2
  · rename_i p1 d1 e1
    obtain ⟨h3, e3⟩ := mL_some h2
    subst e3
    obtain ⟨hg, hs⟩ := sc_some h3
    refine ha M σ H ρ S x _ h1 _ fun M1 w H1 E1 S1 dw => ?_
    obtain ⟨a', ha', k, L, dd⟩ := S1.peek e1
    exact ⟨_, ha', _, x, d1, d, k, dw.less L, dd, hg, fun u H2 s h => q M1 u H2 (E1.trans (.same s) S.kind) (S1.same s) (scal_dat h hs)⟩
  · refine r_op ha (r_var i) M σ H ρ S d ρ' ?_ Q q
    show mBd ma (fun x => mBd (mVar i) fun y => mL (g x y)) ρ = _
    unfold mBd
    rw [h1]
    exact h2
theorem r_fnP {g : List D → Option D} {i : Nat} : REv c (tCB (rC K g) (tCons (tVar i) tNil)) (mFnP g i) := by
  intro M σ H ρ S d ρ' hm Q q
  unfold mFnP at hm
  split at hm
  · rename_i p1 d1 e1
    obtain ⟨h3, e3⟩ := mL_some hm
    subst e3
    obtain ⟨hg, hs⟩ := sc_some h3
    obtain ⟨a', ha', k, L, dd⟩ := S.peek e1
    exact ⟨_, ha', _, [d1], d, k, .cons dd .nil, hg, fun u H2 s h => q M u H2 (.same s) (S.same s) (scal_dat h hs)⟩
  · exact r_fn (r_acons (r_var i) r_anil) M σ H ρ S d ρ' hm Q q
end
def rIxO (K : PySem.W.Frag) : R2 := fun x y H Q => rD K dIx x y H Q ∨ ∃ p q xs i v, x = .ref p ∧ y = .int i ∧ SqL q H p xs ∧ q = K ∧ atI xs i = some v ∧ Q v H
def mIxV (i : Nat) (b : Mo D) : Mo D := fun ρ => match ρ[i]? with
  | some (.own _ (.lst _)) => mBd b (fun y ρ1 => match ρ1[i]? with
    | some (.own _ (.lst ds)) => (match y with
      | .int k => mL (atI ds k) ρ1
      | _ => none)
    | _ => none) ρ
  | _ => mOp dIx (mVar i) b ρ
section
variable {X : Cx}
theorem ix_OWN : IxR X (rIxO X.K) := by
  intro value slice pins s σ H x y v u Q I rx ry h hs
  rcases h with h | ⟨p, q, xs, i, w, rfl, rfl, h1, rfl, e1, h2⟩
  · exact ix_ALL value slice pins s σ H x y v u Q I rx ry h hs
  · exact ix_list value slice pins s σ H _ _ v u Q I rx ry ⟨_, _, i, w, rfl, rfl, h1, e1, h2⟩ hs
end
theorem r_ixV {K : PySem.W.Frag} {c : Ctx K} {i : Nat} {tb : TE} {mb : Mo D} (hb : REv c tb mb) : REv c (tOp (rIxO K) (tVar i) tb) (mIxV i mb) := by
  intro M σ H ρ S d ρ' hm Q q
  unfold mIxV at hm
  split at hm
  · rename_i p d0 e0
    obtain ⟨y, ρ1, h1, h2⟩ := mBd_some hm
    split at h2
    · rename_i p1 ds e1
      split at h2
      · rename_i k
        obtain ⟨h3, e3⟩ := mL_some h2
        subst e3
        obtain ⟨a, ha, _⟩ := S.own e0
        refine ⟨_, ha, hb M σ H ρ S _ _ h1 _ fun M1 w H1 E1 S1 dw => ?_⟩
        cases dw
        obtain ⟨a', ha', _, _, o, ho, hc⟩ := S1.own e1
        rw [ha] at ha'; cases ha'
        cases hc with
        | lst hx =>
          obtain ⟨v, hv, dv⟩ := atI_dat hx h3
          exact .inr ⟨_, _, _, k, v, rfl, rfl, SqL.of ho, rfl, hv, q M1 v H1 E1 S1 dv⟩
      · cases h2
    · cases h2
  · obtain ⟨x, ρ1, h1, hm⟩ := mBd_some hm
    obtain ⟨y, ρ2, h2, hm⟩ := mBd_some hm
    obtain ⟨hg, rfl⟩ := mL_some hm
    refine r_var i M σ H ρ S x ρ1 h1 _ fun M1 v H1 E1 S1 d1 => hb M1 σ H1 ρ1 S1 y _ h2 _ fun M2 w H2 E2 S2 d2 => ?_
    exact .inl ⟨M2, x, y, d, S2.kind, d1.ev S1.kind E2.ev, d2, hg, fun u H3 s h => q M2 u H3 ((E1.trans E2 S.kind).trans (.same s) S.kind) (S2.same s) h⟩
section
variable {X : Cx} {K : PySem.W.Frag} {c : Ctx K} {a b e : Expr} {es : List Expr} {pos : Pos} {ta tb tc : TE} {ma mb mc : Mo D}
theorem d_ixV (i : Nat) {x : Str} {p : Pos} (hb : DE X c b tb mb) (hs : PlainIx b) (hN : X.N[i]? = some x := by rfl) (hv : Vis X.env.scope x := by first | exact Or.inl rfl | exact Or.inr (Or.inl rfl) | exact Or.inr (Or.inr rfl)) (hd : (x == ("__debug__" : Str)) = false := by decide)
    (hcd : (x == ("__classdict__" : Str)) = false := by decide) (hK : X.K = K := by rfl) : DE X c (.Subscript (.Name x p) b pos) (tOp (rIxO K) (tVar i) tb) (mIxV i mb) := ⟨by rw [← hK]; exact pe_ix ix_OWN (pv i hN hv hd hcd) hb.p hs, r_ixV hb.r⟩
theorem d_tcmpRt {op : CmpOp} {g : D → D → Option D} (i : Nat) {x : Str} {p : Pos} (ho : OpR X (compareOp op) (rD X.K g)) (ha : DE X c a ta ma) (hm : behindInMarks op (.Name x p) = false) (hN : X.N[i]? = some x := by rfl) (hv : Vis X.env.scope x := by first | exact Or.inl rfl | exact Or.inr (Or.inl rfl) | exact Or.inr (Or.inr rfl)) (hd : (x == ("__debug__" : Str)) = false := by decide)
    (hcd : (x == ("__classdict__" : Str)) = false := by decide) (hK : X.K = K := by rfl) : DT X c (.Compare a [op] [.Name x p] pos) (tTest (tOp (rD K g) ta (tVar i))) (mTst (mOpRt g ma i)) := ⟨by rw [← hK]; exact pt_cmpR ho ha.p (pv i hN hv hd hcd) hm, r_test (r_opRt ha.r)⟩
theorem d_bltP {x y : Str} {id : String} {g : List D → Option D} {p p2 : Pos} (i : Nat) (hc : CallR X (.builtin id) (rC X.K g)) (hm : X.mg x = none) (hv : bootBuiltins x = some (.builtin id)) (hg : Gl X x := by rfl) (hn : x ≠ "__name__" := by decide) (hdb : (x == ("__debug__" : Str)) = false := by decide)
    (he : starEach [.Name y p2] X.env = (false, eval (.Name y p2) X.env) :: starEach [] X.env := by rfl) (hpl : (backTo pos (starEach [] X.env)).any (·.1) = false := by rfl)
    (hN : X.N[i]? = some y := by rfl) (hv' : Vis X.env.scope y := by first | exact Or.inl rfl | exact Or.inr (Or.inl rfl) | exact Or.inr (Or.inr rfl)) (hd : (y == ("__debug__" : Str)) = false := by decide)
    (hcd : (y == ("__classdict__" : Str)) = false := by decide) (hK : X.K = K := by rfl) : DE X c (.Call (.Name x p) [.Name y p2] [] pos) (tCB (rC K g) (tCons (tVar i) tNil)) (mFnP g i) := ⟨by rw [← hK]; exact pe_callB hc hg hm hv (pa_cons (pv i hN hv' hd hcd) pa_nil he) hn hdb he hpl, r_fnP⟩
end
section
variable {X : Cx} {K : PySem.W.Frag} {c : Ctx K} {a b e st : Expr} {es : List Expr} {pos pos' : Pos} {te : TE} {me : Mo D} {t u : TS} {m k : Mo Fl} {tt : TT} {mt : Mo Bool} {tl : TA} {ml : Mo (List D)} {g : TG} {mg : D → Mo Unit} {gs : TGs} {ms : List D → Mo Unit} {wi : TI} {mi : Mo (List D)}
theorem b_nil : DB X c [] tNext sNx := ⟨pss_nil, r_nx⟩
theorem b_cons {s : Stmt} {rest : List Stmt} (h : DS X c s t m) (hr : DB X c rest u k) : DB X c (s :: rest) (tSeq t u) (sSeq m k) := ⟨pss_cons h.p hr.p, r_seq h.r hr.r⟩
theorem b_one {s : Stmt} (h : DS X c s t m) : DB X c [s] t m := ⟨pss_one h.p, h.r⟩
theorem s_never {s : Stmt} : DS X c s tNever sNo := ⟨ps_never, r_never⟩
theorem s_ret (h : DE X c e te me) : DS X c (.Return (some e) pos) (tRet te) (sRet me) := ⟨ps_ret h.p, r_ret h.r⟩
theorem s_retNew (h : DN X c e te me) : DS X c (.Return (some e) pos) (tRet te) (sRetNew me) := ⟨ps_ret h.p, r_retNew h.r⟩
theorem s_if {x : Expr} {p q : List Stmt} (ht : DT X c x tt mt) (ha : DB X c p t m) (hb : DB X c q u k) : DS X c (.If x p q pos) (tIfS tt t u) (sIf mt m k) := ⟨ps_if ht.p ha.p hb.p, r_ifS ht.r ha.r hb.r⟩
theorem s_set {i : Nat} {x : Str} (hN : X.N.Nodup) (hi : X.N[i]? = some x) (hx : Loc X.env.scope x) (he : DE X c e te me) (hs : swapsWith e (some (.Name x pos')) pos.line X.env = pure false := by rfl) (hf : X.fn x = true ∨ X.env.scope.names.lookup x = some .local := by first | exact .inl rfl | exact .inr rfl | assumption) :
    DS X c (.Assign [.Name x pos'] e pos) (tAsg te (gName i)) (sSet i me) := ⟨ps_set hN hi hx he.p hs hf, r_set he.r i⟩
theorem s_setN {i : Nat} {x : Str} (hN : X.N.Nodup) (hi : X.N[i]? = some x) (hx : Loc X.env.scope x) (he : DN X c e te me) (hs : swapsWith e (some (.Name x pos')) pos.line X.env = pure false := by rfl) (hf : X.fn x = true ∨ X.env.scope.names.lookup x = some .local := by first | exact .inl rfl | exact .inr rfl | assumption) :
    DS X c (.Assign [.Name x pos'] e pos) (tAsg te (gName i)) (sSetN i me) := ⟨ps_set hN hi hx he.p hs hf, r_setN he.r i⟩
theorem s_asg {tg : Expr} (he : DE X c e te me) (hg : DG X c tg g mg) (hs : swapsWithSole [tg] e pos.line X.env = pure false := by rfl) (hw : swappedStores [tg] e X.env = pure none := by rfl)
    (h1 : (assignEach [tg] X.env).map (·.2) = [assign tg X.env] := by rfl) : DS X c (.Assign [tg] e pos) (tAsg te g) (sAsg me mg) := ⟨ps_asg he.p hg.p hs hw h1, r_asg he.r hg.r⟩
/-- i, j = a, b -/
theorem s_par {fs : List Bool} {i j : Nat} {x y : Str} {px py pt : Pos} {kt k2 pt2} (hc : X.calm = true) (hN : X.N.Nodup) (hi : X.N[i]? = some x) (hj : X.N[j]? = some y) (hij : i ≠ j)
    (hx : X.env.scope.names.lookup x = some .local) (hy : X.env.scope.names.lookup y = some .local) (ha : DF X c [a, b] tl fs ml)
    (hw : swappedStores [.Tuple [.Name x px, .Name y py] kt pt] (.Tuple [a, b] k2 pt2) X.env = pure (some [x, y]))
    (hs : swapsWithSole [.Tuple [.Name x px, .Name y py] kt pt] (.Tuple [a, b] k2 pt2) pos.line X.env = pure false := by rfl) :
    DS X c (.Assign [.Tuple [.Name x px, .Name y py] kt pt] (.Tuple [a, b] k2 pt2) pos) (tPar i j tl) (sPar [i, j] fs ml) := ⟨ps_par hc hN hi hj hij hx hy ha.p hw hs, r_par2 ha.r⟩
theorem s_par3 {fs : List Bool} {d : Expr} {i j l : Nat} {x y z : Str} {px py pz pt : Pos} {kt k2 pt2} (hc : X.calm = true) (hN : X.N.Nodup) (hi : X.N[i]? = some x) (hj : X.N[j]? = some y) (hl : X.N[l]? = some z) (hij : i ≠ j) (hil : i ≠ l) (hjl : j ≠ l)
    (hx : X.env.scope.names.lookup x = some .local) (hy : X.env.scope.names.lookup y = some .local) (hz : X.env.scope.names.lookup z = some .local) (ha : DF X c [a, b, d] tl fs ml)
    (hw : swappedStores [.Tuple [.Name x px, .Name y py, .Name z pz] kt pt] (.Tuple [a, b, d] k2 pt2) X.env = pure (some [x, y, z]))
    (hs : swapsWithSole [.Tuple [.Name x px, .Name y py, .Name z pz] kt pt] (.Tuple [a, b, d] k2 pt2) pos.line X.env = pure false := by rfl) :
    DS X c (.Assign [.Tuple [.Name x px, .Name y py, .Name z pz] kt pt] (.Tuple [a, b, d] k2 pt2) pos) (tPar3 i j l tl) (sPar [i, j, l] fs ml) := ⟨ps_par3 hc hN hi hj hl hij hil hjl hx hy hz ha.p hw hs, r_par3 ha.r⟩
theorem s_for {tg iter : Expr} {body : List Stmt} (hp : PassesOwn (model X.prog X.w) X.A X.env X.xe) (hc : X.calm = true) (hi : DI X c tg iter wi mi) (hg : DG X c tg g mg) (hb : DB X c body t m)
    (hs : ∀ x, foldedSetIterable iter X.env x = pure x := by intro _; rfl) : DS X c (.For tg iter body [] pos) (tFor wi g t) (sFor mi mg m) := ⟨ps_for hp hc hi.p hg.p hb.p hs, r_for hi.r hg.r hb.r⟩
theorem f_nil : DF X c [] tNil [] aNil := ⟨pa_nil, r_fnil⟩
theorem f_dat {fs : List Bool} (he : DE X c e te me) (hr : DF X c es tl fs ml) (hs : starEach (e :: es) X.env = (false, eval e X.env) :: starEach es X.env := by rfl) : DF X c (e :: es) (tCons te tl) (false :: fs) (aCons me ml) := ⟨pa_cons he.p hr.p hs, r_fdat he.r hr.r⟩
theorem f_new {fs : List Bool} (he : DN X c e te me) (hr : DF X c es tl fs ml) (hs : starEach (e :: es) X.env = (false, eval e X.env) :: starEach es X.env := by rfl) : DF X c (e :: es) (tCons te tl) (true :: fs) (aCons me ml) := ⟨pa_cons he.p hr.p hs, r_fnew he.r hr.r⟩
theorem g_name {i : Nat} {x : Str} (hN : X.N.Nodup) (hi : X.N[i]? = some x) (hx : Loc X.env.scope x) (hf : X.fn x = true ∨ X.env.scope.names.lookup x = some .local := by first | exact .inl rfl | exact .inr rfl | assumption) : DG X c (.Name x pos) (gName i) (gNm i) := ⟨pg_name hN hi hx hf, r_gname i⟩
theorem gs_nil : DGs X c [] gNil gsNil := ⟨pgs_nil, r_gnil⟩
theorem gs_cons (h1 : DG X c e g mg) (h2 : DGs X c es gs ms) (hs : (assignEach (e :: es) X.env).map (·.2) = assign e X.env :: (assignEach es X.env).map (·.2) := by rfl) : DGs X c (e :: es) (gCons g gs) (gsCons mg ms) := ⟨pgs_cons h1.p h2.p hs, r_gcons h1.r h2.r⟩
theorem g_tup {k : Nat} {n : Nat} (hc : X.calm = true) (h : DGs X c es gs ms) (hn : (assignEach es X.env).length = n := by rfl) (hst : (assignEach es X.env).findIdx? (·.1) = none := by rfl) (hK : X.K = K := by rfl) :
    DG X c (.Tuple es k pos) (gTup K n gs) (gTp n ms) := ⟨by rw [← hK]; exact pg_tup hc h.p hn hst, r_gtup h.r⟩
theorem i_list {tg : Expr} (h : DE X c e te me) (hK : X.K = K := by rfl) : DI X c tg e (iList K te) (iSeq seqL me) := ⟨by rw [← hK]; exact pi_list h.p, r_ilist h.r⟩
theorem i_tup {tg : Expr} (h : DE X c e te me) (hK : X.K = K := by rfl) : DI X c tg e (iTup K te) (iSeq seqT me) := ⟨by rw [← hK]; exact pi_tup h.p, r_itup h.r⟩
theorem i_rng1 {tg : Expr} {p : Pos} (hm : X.mg "range" = none) (ha : DA X c [a] tl ml) (hg : Gl X "range" := by rfl) (hs : starEach [a] X.env = [(false, eval a X.env)] := by rfl) : DI X c tg (.Call (.Name "range" p) [a] [] pos) (iRng1 tl) (iFn rng1? ml) := ⟨pi_range1 hg hm ha.p hs, r_irng1 ha.r⟩
end
end DL
set_option autoImplicit false
namespace DL
open PySem PySem.Spec PyProof.Rows L2
abbrev ctx (K : PySem.W.Frag) (M0 P : Addr → Prop) (H0 : Hp) : Ctx K := ⟨M0, P, H0⟩
def cells (ds : List D) (n : Nat) : Cs := ds.map .dat ++ List.replicate n .no
def fin1 : Option (Fl × Cs) → Option D
  | some (.rt d, _) => some d
  | some (.rn d, _) => some d
  | some (.nx, _) => some .non
  | _ => none
/-- m parameters, n more slots -/
def runF (m n : Nat) (b : Mo Fl) (ds : List D) : Option D := if ds.length = m then fin1 (b (cells ds n)) else none
def own0 : Cs → Option D
  | .own true d :: _ => some d
  | _ => none
def fin2 : Option (Fl × Cs) → Option (D × D)
  | some (.rt d, ρ) => (own0 ρ).map fun e => (d, e)
  | some (.rn d, ρ) => (own0 ρ).map fun e => (d, e)
  | some (.nx, ρ) => (own0 ρ).map fun e => (.non, e)
  | _ => none
/-- the first parameter may be changed -/
def runO (m n : Nat) (b : Mo Fl) (d0 : D) (ds : List D) : Option (D × D) := if ds.length + 1 = m then fin2 (b (.own true d0 :: cells ds n)) else none
def fin3 : Option (Fl × Cs) → Option D
  | some (.rn d, _) => some d
  | _ => none
/-- the value is a new object, the caller's own -/
def runN (m n : Nat) (b : Mo Fl) (ds : List D) : Option D := if ds.length = m then fin3 (b (cells ds n)) else none
def spF (K : PySem.W.Frag) (m : Nat) (F : List D → Option D) : Sp := fun vs H Q _ => ∃ M ds d, Kind M H ∧ DatAll K M H vs ds ∧ ds.length = m ∧ F ds = some d ∧ ∀ u H', Same H H' → Dat K M H' u d → Q u H'
def spN (K : PySem.W.Frag) (m : Nat) (F : List D → Option D) : Sp := fun vs H Q _ => ∃ M ds d, Kind M H ∧ DatAll K M H vs ds ∧ ds.length = m ∧ F ds = some d ∧ ∀ a H' o, H a = none → Same H H' → H' a = some o → Cont K (fun b => M b ∨ b = a) H' o d → Q (.ref a) H'
def spO (K : PySem.W.Frag) (m : Nat) (F : D → List D → Option (D × D)) : Sp := fun vs H Q _ => ∃ M a d0 xs ds r d1, vs = .ref a :: xs ∧ Kind M H ∧ M a ∧ Own K M H a d0 ∧ DatAll K M H xs ds ∧ ds.length + 1 = m ∧ F d0 ds = some (r, d1) ∧
  ∀ u H', (∀ b o, b ≠ a → H b = some o → H' b = some o) → Own K M H' a d1 → Dat K M H' u r → Q u H'
section
variable {K : PySem.W.Frag} {M : Addr → Prop} {H : Hp} {vs : List V} {ds : List D} {N : List Str} {t : TS} {b : Mo Fl} {m n : Nat} {Q : VK} {E : XK}
theorem cells_len : (cells ds n).length = ds.length + n := by simp [cells]
theorem cells_lt {i : Nat} {d : D} (h : ds[i]? = some d) : (cells ds n)[i]? = some (.dat d) := by
  have hl := (List.getElem?_eq_some_iff.mp h).1
  unfold cells
  rw [List.getElem?_append_left (by simpa using hl)]
  simp [h]
theorem cells_ge {i : Nat} {x : Cell} (hi : ds.length ≤ i) (h : (cells ds n)[i]? = some x) : x = .no := by
  unfold cells at h
  rw [List.getElem?_append_right (by simpa using hi)] at h
  rw [List.getElem?_replicate] at h
  exact (if_some h).2.symm
theorem start_lt {i : Nat} {v : V} (h : vs[i]? = some v) : (start N vs)[i]? = some (some v) := by
  have hl := (List.getElem?_eq_some_iff.mp h).1
  unfold L2.start
  rw [List.getElem?_append_left (by simpa using hl)]
  simp [h]
theorem start_len (h : vs.length ≤ N.length) : (start N vs).length = N.length := by
  unfold L2.start
  simp; omega
/-- the state at a def's entry -/
theorem sta_start (k : Kind M H) (h : DatAll K M H vs ds) (hn : N.length = ds.length + n) : Sta (ctx K M (fun _ => False) H) M (start N vs) H (cells ds n) := by
  refine ⟨fun _ z => z.elim, fun _ z => z, fun b z w => absurd z w, k, fun _ _ _ z => z, ?_, fun i x y h1 h2 => ?_, fun i j a p q d e a1 a2 a3 a4 => ?_⟩
  · rw [cells_len, start_len (by rw [h.length]; omega), hn]
  · cases hd : ds[i]? with
    | some d =>
      obtain ⟨v, hv, hdv⟩ := h.getD hd
      rw [start_lt hv] at h1
      rw [cells_lt hd] at h2
      cases h1; cases h2
      exact .dat hdv
    | none =>
      obtain rfl := cells_ge (List.getElem?_eq_none_iff.mp hd) h2
      exact .no _
  · exfalso
    cases hd : ds[i]? with
    | some d => rw [cells_lt hd] at a2; cases a2
    | none => cases cells_ge (List.getElem?_eq_none_iff.mp hd) a2
theorem sta_startO {a : Addr} {d0 : D} (k : Kind M H) (hM : M a) (ho : Own K M H a d0) (h : DatAll K M H vs ds) (hn : N.length = ds.length + 1 + n) : Sta (ctx K M (fun b => b = a) H) M (start N (.ref a :: vs)) H (.own true d0 :: cells ds n) := by
  have ne : ∀ {i : Nat} {p : Bool} {d : D}, (Cell.own true d0 :: cells ds n)[i]? = some (.own p d) → i = 0 := fun {i p d} z => by
    cases i with
    | zero => rfl
    | succ i =>
      rw [List.getElem?_cons_succ] at z
      cases hd : ds[i]? with
      | some d => rw [cells_lt hd] at z; cases z
      | none => cases cells_ge (List.getElem?_eq_none_iff.mp hd) z
  refine ⟨fun b z => by rw [show b = a from z]; exact hM, fun _ z => z, fun b z w => absurd z w, k, fun _ _ _ z => z, ?_, fun i x y h1 h2 => ?_, fun i j a p q d e a1 a2 a3 a4 => by rw [ne a2, ne a4]⟩
  · rw [List.length_cons, cells_len, start_len (by rw [List.length_cons, h.length]; omega), hn]; omega
  · cases i with
    | zero =>
      rw [start_lt (v := .ref a) (by rfl)] at h1
      cases h1; cases h2
      exact .own hM (by simp) ho
    | succ i =>
      rw [List.getElem?_cons_succ] at h2
      cases hd : ds[i]? with
      | some d =>
        obtain ⟨v, hv, hdv⟩ := h.getD hd
        rw [start_lt (v := v) (by simpa using hv)] at h1
        rw [cells_lt hd] at h2
        cases h1; cases h2
        exact .dat hdv
      | none =>
        obtain rfl := cells_ge (List.getElem?_eq_none_iff.mp hd) h2
        exact .no _
theorem own0_some {ρ : Cs} {d : D} (h : own0 ρ = some d) : ρ[0]? = some (.own true d) := by
  unfold own0 at h
  split at h
  · cases h; rfl
  · cases h
theorem run_F (hn : N.length = m + n) (h : ∀ (M0 : Addr → Prop) (P : Addr → Prop) (H0 : Hp), RSt (ctx K M0 P H0) t b) (sp : spF K m (runF m n b) vs H Q E) : t { nx := fun _ H' => Q .non H', rt := Q } (start N vs) H := by
  obtain ⟨M, ds, d, k, hd, hl, hF, q⟩ := sp
  have hF := (if_pos hl).symm.trans hF
  have S := sta_start (N := N) (n := n) k hd (by rw [hl]; exact hn)
  have sm : ∀ {M' : Addr → Prop} {σ' : L2.St} {H' : Hp} {ρ' : Cs}, Sta (ctx K M (fun _ => False) H) M' σ' H' ρ' → Same H H' := fun S b o z => S.base b o id z
  cases e : b (cells ds n) with
  | none => rw [e] at hF; cases hF
  | some r =>
    obtain ⟨f, ρ'⟩ := r
    rw [e] at hF
    refine h M _ H M _ H _ S f ρ' e _ ?_
    cases f with
    | nx => cases hF; exact fun M' σ' H' _ S' => q _ H' (sm S') .non
    | rt r => cases hF; exact fun M' σ' v H' _ S' hv => q v H' (sm S') (hv.less S'.sub)
    | rn r => cases hF; exact fun M' σ' a H' _ S' nw => (nw.give S').elim fun _ z => q _ H' (sm S') (z.2.less fun b hb => ⟨S'.sub b hb, fun w => nw.n0 (by rw [← w]; exact hb)⟩)
    | bk => cases hF
    | ct => cases hF
theorem run_N (hn : N.length = m + n) (h : ∀ (M0 : Addr → Prop) (P : Addr → Prop) (H0 : Hp), RSt (ctx K M0 P H0) t b) (sp : spN K m (runN m n b) vs H Q E) : t { nx := fun _ H' => Q .non H', rt := Q } (start N vs) H := by
  obtain ⟨M, ds, d, k, hd, hl, hF, q⟩ := sp
  have hF := (if_pos hl).symm.trans hF
  have S := sta_start (N := N) (n := n) k hd (by rw [hl]; exact hn)
  cases e : b (cells ds n) with
  | none => rw [e] at hF; cases hF
  | some r =>
    obtain ⟨f, ρ'⟩ := r
    rw [e] at hF
    refine h M _ H M _ H _ S f ρ' e _ ?_
    cases f with
    | rn r =>
      cases hF
      intro M' σ' a H' _ S' nw
      obtain ⟨o, ho, hc⟩ := nw.o
      exact q a H' o nw.h0 (fun b o z => S'.base b o id z) ho (hc.less fun b hb => hb.elim (S'.sub b) fun z => by rw [z]; exact nw.m)
    | nx => cases hF
    | rt r => cases hF
    | bk => cases hF
    | ct => cases hF
theorem run_O (hn : N.length = m + n) (h : ∀ (M0 : Addr → Prop) (P : Addr → Prop) (H0 : Hp), RSt (ctx K M0 P H0) t b) (sp : spO K m (runO m n b) vs H Q E) : t { nx := fun _ H' => Q .non H', rt := Q } (start N vs) H := by
  obtain ⟨M, a, d0, xs, ds, r0, d1, rfl, k, hM, ho, hd, hl, hF, q⟩ := sp
  have hF := (if_pos hl).symm.trans hF
  have S := sta_startO (N := N) (n := n) k hM ho hd (by rw [hl]; exact hn)
  have fin : ∀ {M' : Addr → Prop} {σ' : L2.St} {H' : Hp} {ρ' : Cs} {e : D}, Sta (ctx K M (fun b => b = a) H) M' σ' H' ρ' → own0 ρ' = some e → (∀ b o, b ≠ a → H b = some o → H' b = some o) ∧ Own K M H' a e := fun {M' σ' H' ρ' e} S' w => by
    obtain ⟨a', _, _, hp, o, ho', hc⟩ := S'.own (own0_some w)
    have ea : a' = a := by simpa using hp
    subst ea
    exact ⟨fun b o ne z => S'.base b o (fun z => ne z) z, o, ho', hc.less S'.sub⟩
  cases e : b (.own true d0 :: cells ds n) with
  | none => rw [e] at hF; cases hF
  | some r =>
    obtain ⟨f, ρ'⟩ := r
    rw [e] at hF
    refine h M _ H M _ H _ S f ρ' e _ ?_
    cases f with
    | nx =>
      obtain ⟨x, hx, ex⟩ := map_some (show (own0 ρ').map _ = _ from hF)
      cases ex
      exact fun M' σ' H' _ S' => q _ H' (fin S' hx).1 (fin S' hx).2 .non
    | rt r =>
      obtain ⟨x, hx, ex⟩ := map_some (show (own0 ρ').map _ = _ from hF)
      cases ex
      exact fun M' σ' v H' _ S' hv => q v H' (fin S' hx).1 (fin S' hx).2 (hv.less S'.sub)
    | rn r =>
      obtain ⟨x, hx, ex⟩ := map_some (show (own0 ρ').map _ = _ from hF)
      cases ex
      exact fun M' σ' a H' _ S' nw => (nw.give S').elim fun _ z => q _ H' (fin S' hx).1 (fin S' hx).2 (z.2.less fun b hb => ⟨S'.sub b hb, fun w => nw.n0 (by rw [← w]; exact hb)⟩)
    | bk => cases hF
    | ct => cases hF
end
section
variable {P : Program} {w : World} {K : PySem.W.Frag} {mg : Str → Option Value} {base : Heap} {x qual : Str} {st : Stmt} {f : Addr} {fd : FuncData} {N ps : List Str} {k m n : Nat} {b : Mo Fl}
/-- a body's derivation, for whatever the callers own -/
def BodyD (P : Program) (w : World) (K : PySem.W.Frag) (mg : Str → Option Value) (base : Heap) (qual : Str) (st : Stmt) (f : Addr) (N : List Str) (k : Nat) (b : Mo Fl) : Prop :=
  ∀ (cdv : Value) (A : Around) (outer : List Env) (s : Shared) (H : Hp) (E : XK), Room k (A.deeper (envOfC qual (defScope st) s.heap.objs.size f cdv)) →
    ∃ t, ∀ (M0 : Addr → Prop) (P0 : Addr → Prop) (H0 : Hp), DB (cxOf CX0 P w K mg base N qual (defScope st) f cdv A outer s H E).nox (ctx K M0 P0 H0) (defBody st) t b
/-- .. where no repr is under way -/
def BodyG (P : Program) (w : World) (K : PySem.W.Frag) (mg : Str → Option Value) (base : Heap) (qual : Str) (st : Stmt) (f : Addr) (N : List Str) (k : Nat) (b : Mo Fl) : Prop :=
  ∀ (cdv : Value) (A : Around) (outer : List Env) (s : Shared) (H : Hp) (E : XK), A.guards = some [] → Room k (A.deeper (envOfC qual (defScope st) s.heap.objs.size f cdv)) →
    ∃ t, ∀ (M0 : Addr → Prop) (P0 : Addr → Prop) (H0 : Hp), DB (cxOf CX0 P w K mg base N qual (defScope st) f cdv A outer s H E).nox (ctx K M0 P0 H0) (defBody st) t b
theorem okF (F : Fun K x qual st f fd) (S : FnScope N ps (defScope st)) (hm : ps.length = m) (hn : N.length = m + n) (B : BodyD P w K mg base qual st f N k b) : FnOk P w K mg base CX0 (k + 1) f fd ps (spF K m (runF m n b)) := by
  refine F.ok S (fun vs H Q E h => ?_) (fun cdv A outer s H vs Q E hr h => ?_)
  · obtain ⟨M, ds, d, _, hd, hl, _⟩ := h
    rw [hd.length, hl, hm]
  · obtain ⟨t, d⟩ := B cdv A outer s H E hr
    exact ⟨t, (d (fun _ => False) (fun _ => False) H).p, run_F hn (fun M0 P0 H0 => (d M0 P0 H0).r) h⟩
theorem okN (F : Fun K x qual st f fd) (S : FnScope N ps (defScope st)) (hm : ps.length = m) (hn : N.length = m + n) (B : BodyD P w K mg base qual st f N k b) : FnOk P w K mg base CX0 (k + 1) f fd ps (spN K m (runN m n b)) := by
  refine F.ok S (fun vs H Q E h => ?_) (fun cdv A outer s H vs Q E hr h => ?_)
  · obtain ⟨M, ds, d, _, hd, hl, _⟩ := h
    rw [hd.length, hl, hm]
  · obtain ⟨t, d⟩ := B cdv A outer s H E hr
    exact ⟨t, (d (fun _ => False) (fun _ => False) H).p, run_N hn (fun M0 P0 H0 => (d M0 P0 H0).r) h⟩
theorem okO (F : Fun K x qual st f fd) (S : FnScope N ps (defScope st)) (hm : ps.length = m) (hn : N.length = m + n) (B : BodyD P w K mg base qual st f N k b) : FnOk P w K mg base CX0 (k + 1) f fd ps (spO K m (runO m n b)) := by
  refine F.ok S (fun vs H Q E h => ?_) (fun cdv A outer s H vs Q E hr h => ?_)
  · obtain ⟨M, a, d0, xs, ds, r, d1, rfl, _, _, _, hd, hl, _⟩ := h
    rw [List.length_cons, hd.length, hl, hm]
  · obtain ⟨t, d⟩ := B cdv A outer s H E hr
    exact ⟨t, (d (fun _ => False) (fun _ => False) H).p, run_O hn (fun M0 P0 H0 => (d M0 P0 H0).r) h⟩
theorem bodyN {sp : Sp} (F : Fun K x qual st f fd) (S : FnScope N ps (defScope st)) (len : ∀ vs H Q E, sp vs H Q E → vs.length = ps.length) (B : BodyG P w K mg base qual st f N k b)
    (h : ∀ (t : TS) vs H Q E, (∀ (M0 : Addr → Prop) (P0 : Addr → Prop) (H0 : Hp), RSt (ctx K M0 P0 H0) t b) → sp vs H Q E → t { nx := fun _ H' => Q .non H', rt := Q } (start N vs) H) : FnG P w K mg base CX0 (k + 1) f fd ps sp := by
  refine F.okG S len fun cdv A outer s H vs Q E hg hr hsp => ?_
  obtain ⟨t, d⟩ := B cdv A outer s H E hg hr
  exact ⟨t, (d (fun _ => False) (fun _ => False) H).p.nox, h t vs H Q E (fun M0 P0 H0 => (d M0 P0 H0).r) hsp⟩
theorem okFG (F : Fun K x qual st f fd) (S : FnScope N ps (defScope st)) (hm : ps.length = m) (hn : N.length = m + n) (B : BodyG P w K mg base qual st f N k b) : FnG P w K mg base CX0 (k + 1) f fd ps (spF K m (runF m n b)) := by
  refine bodyN F S (fun vs H Q E h => ?_) B fun t vs H Q E hr h => run_F hn hr h
  obtain ⟨M, ds, d, _, hd, hl, _⟩ := h
  rw [hd.length, hl, hm]
theorem okOG (F : Fun K x qual st f fd) (S : FnScope N ps (defScope st)) (hm : ps.length = m) (hn : N.length = m + n) (B : BodyG P w K mg base qual st f N k b) : FnG P w K mg base CX0 (k + 1) f fd ps (spO K m (runO m n b)) := by
  refine bodyN F S (fun vs H Q E h => ?_) B fun t vs H Q E hr h => run_O hn hr h
  obtain ⟨M, a, d0, xs, ds, r, d1, rfl, _, _, _, hd, hl, _⟩ := h
  rw [List.length_cons, hd.length, hl, hm]
end
end DL
namespace L2
open PySem PySem.Spec PyProof.Rows
def tyName : PyData → String
  | .none => "NoneType" | .bool _ => "bool" | .int _ => "int" | .str _ => "str" | .list _ => "list" | .tuple _ => "tuple" | .dict _ => "dict"
section
variable {K : PySem.W.Frag} {p : Addr} {H H' : Hp} {x : V} {d : PyData} {Q : VK}
theorem ty_list {a : Addr} {xs : List V} (h : SqL K H a xs) : TyX K H (.ref a) (.type "list") := by
  rcases h with (h | ⟨o, h⟩) | ⟨o, its, n, h, c, _⟩
  · exact .base (.lst h)
  · exact .base (.frz h)
  · exact .kList h c
theorem ty_tup {a : Addr} {xs : List V} (h : SqT K H a xs) : TyX K H (.ref a) (.type "tuple") := by
  rcases h with (h | ⟨o, h⟩) | ⟨o, its, n, h, c, _⟩
  · exact .base (.tup h)
  · exact .fTuple h
  · exact .kTuple h c
theorem Dn.ty (h : Dn K p H x d) : TyX K H x (.type (tyName d)) := by
  cases h with
  | non => exact .base .non
  | bl b => exact .base (.bl b)
  | int i => exact .base (.int i)
  | str y _ => exact .base (.str y)
  | lst _ h _ => exact ty_list h
  | tup h _ => exact ty_tup h
  | dic h _ _ => exact .base (.dK h)
end
def getI : PyData → Int | .int i => i | _ => 0
def btw (d : PyData) (lo hi : Int) : Bool := match d with | .int i => decide (lo ≤ i ∧ i ≤ hi) | _ => false
def letters : Str := "abcdefghijklmnopqrstuvwxyz"
def alnums : Str := "abcdefghijklmnopqrstuvwxyz0123456789"
def headOk (x : Str) : Bool := match x.cps.toList with | c :: _ => decide (c ∈ letters.cps.toList) | [] => false
def nameOk (x : Str) : Bool := (decide (1 ≤ x.length) && decide (x.length ≤ 8)) && (headOk x && x.cps.toList.all fun c => decide (c ∈ alnums.cps.toList))
def isName : PyData → Bool | .str x => nameOk x | _ => false
def isWord (d : PyData) (ws : List Str) : Bool := match d with | .str x => ws.contains x | _ => false
def isStretch (d : PyData) (lo hi : Int) : Bool := match d with | .tuple [a, b] => btw a lo hi && btw b (getI a + 1) hi | _ => false
def sndI : PyData → Int | .tuple [_, b] => getI b | _ => 0
def touchesFrom (hi : Int) : List PyData → Int → Bool
  | [], _ => true
  | d :: r, lo => isStretch d lo hi && touchesFrom hi r (sndI d + 1)
def touchesOk (d : PyData) (lo hi : Int) : Bool := match d with | .tuple ds => decide (ds.length ≤ 6) && touchesFrom hi ds lo | _ => false
def modes : List Str := ["write", "latch", "touch", "trim"]
def tails : List Str := ["stop", "on"]
def isOld : PyData → Bool | .str x => decide (x = "old") | _ => false
def isPass (L : Int) (d : PyData) : Bool := match d with
  | .tuple [n, m, f, t, u, g, e] => (isName n && !isOld n) && ((isWord m modes && isWord e tails) && (isStretch (.tuple [f, t]) 0 L && (touchesOk u (getI f) (getI t) && btw g 0 100)))
  | _ => false
def nameOf : PyData → Str | .tuple (.str x :: _) => x | _ => ""
def firstWrong (L : Int) : List PyData → Nat → List Str → Option Nat
  | [], _, _ => none
  | d :: r, i, ns => if decide (8 ≤ i) || (!isPass L d || ns.contains (nameOf d)) then some i else firstWrong L r (i + 1) (ns ++ [nameOf d])
def plOf (x : Str) : List PyData → Nat → Option Nat
  | [], _ => none
  | d :: r, i => if nameOf d = x then some i else plOf x r (i + 1)
/-- data whose outermost tuple may stand anywhere -/
def Dt (K : PySem.W.Frag) (p : Addr) (H : Hp) (x : V) (d : PyData) : Prop := Dn K p H x d ∨ ∃ a xs ds, x = .ref a ∧ d = .tuple ds ∧ SqT K H a xs ∧ DnAll K p H xs ds
theorem Dt.ty {K : PySem.W.Frag} {p : Addr} {H : Hp} {x : V} {d : PyData} (h : Dt K p H x d) : TyX K H x (.type (tyName d)) := by
  rcases h with h | ⟨a, xs, ds, rfl, rfl, h, _⟩
  · exact h.ty
  · exact ty_tup h
end L2
namespace L2
open PySem PySem.Spec PyProof.Rows
theorem DnAll.c1 {K : PySem.W.Frag} {p : Addr} {H : Hp} {xs : List V} {d : PyData} {ds : List PyData} (h : DnAll K p H xs (d :: ds)) : ∃ v r, xs = v :: r ∧ Dn K p H v d ∧ DnAll K p H r ds := by
  cases h with
  | cons a b => exact ⟨_, _, rfl, a, b⟩
theorem DnAll.c0 {K : PySem.W.Frag} {p : Addr} {H : Hp} {xs : List V} (h : DnAll K p H xs []) : xs = [] := by
  cases h
  rfl
theorem DnAll.seven {K : PySem.W.Frag} {p : Addr} {H : Hp} {xs : List V} {a b c d e f g : PyData} (h : DnAll K p H xs [a, b, c, d, e, f, g]) :
    ∃ x1 x2 x3 x4 x5 x6 x7, xs = [x1, x2, x3, x4, x5, x6, x7] ∧ Dn K p H x1 a ∧ Dn K p H x2 b ∧ Dn K p H x3 c ∧ Dn K p H x4 d ∧ Dn K p H x5 e ∧ Dn K p H x6 f ∧ Dn K p H x7 g := by
  obtain ⟨x1, r, rfl, h1, h⟩ := h.c1
  obtain ⟨x2, r, rfl, h2, h⟩ := h.c1
  obtain ⟨x3, r, rfl, h3, h⟩ := h.c1
  obtain ⟨x4, r, rfl, h4, h⟩ := h.c1
  obtain ⟨x5, r, rfl, h5, h⟩ := h.c1
  obtain ⟨x6, r, rfl, h6, h⟩ := h.c1
  obtain ⟨x7, r, rfl, h7, h⟩ := h.c1
  obtain rfl := h.c0
  exact ⟨x1, x2, x3, x4, x5, x6, x7, rfl, h1, h2, h3, h4, h5, h6, h7⟩
theorem stretch_inv {d : PyData} {lo hi : Int} (h : isStretch d lo hi = true) : ∃ i j, d = .tuple [.int i, .int j] ∧ lo ≤ i ∧ i < j ∧ j ≤ hi := by
  cases d with
  | tuple es =>
    match es, h with
    | [u, v], h =>
      have e : (btw u lo hi && btw v (getI u + 1) hi) = true := h
      obtain ⟨e1, e2⟩ := Bool.and_eq_true_iff.mp e
      cases u with
      | int i =>
        cases v with
        | int j =>
          have a : lo ≤ i ∧ i ≤ hi := of_decide_eq_true e1
          have b : i + 1 ≤ j ∧ j ≤ hi := of_decide_eq_true e2
          exact ⟨i, j, rfl, a.1, by omega, b.2⟩
        | _ => simp [btw] at e2
      | _ => simp [btw] at e1
  | _ => simp [isStretch] at h
end L2
namespace L2
open PySem PySem.Spec PyProof.Rows
theorem seven_of {α : Type} {l : List α} (h : l.length = 7) : ∃ a b c d e f g, l = [a, b, c, d, e, f, g] := by
  match l, h with
  | [a, b, c, d, e, f, g], _ => exact ⟨a, b, c, d, e, f, g, rfl⟩
theorem isPass_eq (L : Int) (n m f t u g e : PyData) : isPass L (.tuple [n, m, f, t, u, g, e]) = ((isName n && !isOld n) && ((isWord m modes && isWord e tails) && (isStretch (.tuple [f, t]) 0 L && (touchesOk u (getI f) (getI t) && btw g 0 100)))) := rfl
theorem isPass_len {L : Int} {ds : List PyData} (h : ds.length ≠ 7) : isPass L (.tuple ds) = false := by
  match ds, h with
  | [], _ => rfl
  | [_], _ => rfl
  | [_, _], _ => rfl
  | [_, _, _], _ => rfl
  | [_, _, _, _], _ => rfl
  | [_, _, _, _, _], _ => rfl
  | [_, _, _, _, _, _], _ => rfl
  | [_, _, _, _, _, _, _], h => exact absurd rfl h
  | _ :: _ :: _ :: _ :: _ :: _ :: _ :: _ :: _, _ => rfl
theorem passable {L : Int} {d : PyData} (h : isPass L d = true) : ∃ x m f t u g e, d = .tuple [.str x, m, .int f, .int t, u, .int g, e] ∧ nameOk x = true ∧ isWord m modes = true ∧ isWord e tails = true ∧ 0 ≤ f ∧ f < t ∧ t ≤ L ∧ touchesOk u f t = true ∧ 0 ≤ g ∧ g ≤ 100 ∧ x ≠ "old" := by
  cases d with
  | tuple ds =>
    by_cases l : ds.length = 7
    · obtain ⟨n, m, f, t, u, g, e, rfl⟩ := seven_of l
      rw [isPass_eq] at h
      obtain ⟨k1, k2⟩ := Bool.and_eq_true_iff.mp h
      obtain ⟨a1, a2⟩ := Bool.and_eq_true_iff.mp k1
      obtain ⟨b1, b2⟩ := Bool.and_eq_true_iff.mp k2
      obtain ⟨c1, c2⟩ := Bool.and_eq_true_iff.mp b1
      obtain ⟨d1, d2⟩ := Bool.and_eq_true_iff.mp b2
      obtain ⟨e1, e2⟩ := Bool.and_eq_true_iff.mp d2
      obtain ⟨i, j, ed, y1, y2, y3⟩ := stretch_inv d1
      injection ed with ed
      injection ed with u1 u2
      injection u2 with u2
      subst u1 u2
      cases n with
      | str x =>
        cases g with
        | int g =>
          have b := of_decide_eq_true e2
          refine ⟨x, m, i, j, u, g, e, rfl, a1, c1, c2, y1, y2, y3, e1, b.1, b.2, fun z => ?_⟩
          subst z
          simp [isOld] at a2
        | _ => simp [btw] at e2
      | _ => simp [isName] at a1
    · rw [isPass_len l] at h
      cases h
  | _ => simp [isPass] at h
end L2
namespace L2
open PySem PySem.Spec PyProof.Rows
def Trk (K : PySem.W.Frag) (C p x : Addr) (H : Hp) (L : Int) (ds : List PyData) : Prop :=
  ∃ dx t, H x = some (.ins C dx [("_length", .int L), ("_passes", .ref t)]) ∧ Dn K p H (.ref t) (.tuple ds) ∧ (1 ≤ L ∧ L ≤ 1000000000000) ∧ firstWrong L ds 0 [] = none
theorem Trk.same {K : PySem.W.Frag} {C p x : Addr} {H H' : Hp} {L : Int} {ds : List PyData} (h : Trk K C p x H L ds) (e : Same H H') : Trk K C p x H' L ds :=
  let ⟨dx, t, h1, h2, h3⟩ := h; ⟨dx, t, e _ _ h1, h2.same e, h3⟩
def partIx : Str → Option Nat := fun z => if z = "mode" then some 1 else if z = "from" then some 2 else if z = "to" then some 3 else if z = "touches" then some 4 else if z = "glide" then some 5 else if z = "tail" then some 6 else none
def parts : List Str := ["mode", "from", "to", "touches", "glide", "tail"]
end L2
namespace L2
open PySem PySem.Spec PyProof.Rows
/-- part in d, d a dict of the top -/
def myInKd (K : PySem.W.Frag) (w : World) : R2 := fun x y H Q => ∃ (a : Addr) (z : Str) (es : Array DictEntry) (n : Nat) (r : Option Value), x = .str z ∧ y = .ref a ∧ K.lookup a = some ⟨.type "dict", none, .dict es n, #[]⟩ ∧ PySem.W.KeysLit w.params es.toList ∧ PySem.W.nsIn K a z = some r ∧ (a == sysModules) = false ∧ Q (.bl r.isSome) H
theorem my_in_kd {X : Cx} : OpR X (compareOp .In) (myInKd X.K X.w) := by
  intro pins s σ H x y v u Q I rx ry h
  obtain ⟨a, z, es, n, r, rfl, rfl, hl, hk, e, lo, q⟩ := h
  obtain ⟨t, rfl⟩ := rx
  cases ry
  obtain ⟨m, F⟩ := I.fr
  exact PySem.W.topIn_K F I.ok.mod.kin hl hk e lo ⟨.bl r.isSome, H, I.tok _, rfl, q⟩
end L2
namespace L2
open PySem PySem.Spec PyProof.Rows
/-- a change of a part that there is: (z, pt, e) at c; pass i of ds, its part j -/
structure Chg (K : PySem.W.Frag) (p c : Addr) (H : Hp) (ds : List PyData) (z pt : Str) (e : PyData) (i j : Nat) (es : List PyData) : Prop where
  at_ : ∃ v, SqT K H c [.str z, .str pt, v] ∧ Dn K p H v e
  lz : Sok z
  place : plOf z ds 0 = some i
  part : partIx pt = some j
  pass : ds[i]? = some (.tuple es)
  seven : es.length = 7
theorem Chg.same {K : PySem.W.Frag} {p c : Addr} {H H' : Hp} {ds : List PyData} {z pt : Str} {e : PyData} {i j : Nat} {es : List PyData} (h : Chg K p c H ds z pt e i j es) (s : Same H H') : Chg K p c H' ds z pt e i j es :=
  ⟨h.at_.elim fun v q => ⟨v, s.seqT q.1, q.2.same s⟩, h.lz, h.place, h.part, h.pass, h.seven⟩
theorem DnAll.set {K : PySem.W.Frag} {p : Addr} {H : Hp} {v : V} {d : PyData} (h : Dn K p H v d) : ∀ {xs : List V} {ds : List PyData} (i : Nat), DnAll K p H xs ds → DnAll K p H (xs.set i v) (ds.set i d)
  | _, _, _, .nil => .nil
  | _, _, 0, .cons _ t => .cons h t
  | _, _, i + 1, .cons q t => .cons q (DnAll.set h i t)
end L2
namespace L2
open PySem PySem.Spec PyProof.Rows
theorem Sm.same {p : Addr} {H H1 H2 : Hp} (a : Sm p H H1) (b : Same H1 H2) : Sm p H H2 := a.trans (.of_same b)
def words : List Str := ["a", "b", "olds", "z9", "write", "c", "on", "pass", "abcdefgh", "t0000001", "ol", "track", "ab", "aa"]
def turned (i : Nat) : List Str := (words.drop i ++ words.take i).take 8
end L2
namespace L2
open PySem PySem.Spec PyProof.Rows
/-- pairs of ints, each at its own place -/
inductive Cells (H : Hp) : List V → List PyData → Prop
  | nil : Cells H [] []
  | cons {t : Addr} {a b : Int} {vs : List V} {ds : List PyData} : H t = some (.tup [.int a, .int b]) → Cells H vs ds → Cells H (.ref t :: vs) (.tuple [.int a, .int b] :: ds)
theorem Cells.mono {H H' : Hp} (e : ∀ b xs, H b = some (.tup xs) → H' b = some (.tup xs)) : ∀ {vs : List V} {ds : List PyData}, Cells H vs ds → Cells H' vs ds
  | _, _, .nil => .nil
  | _, _, .cons h t => .cons (e _ _ h) (Cells.mono e t)
theorem Cells.snoc {H : Hp} {t : Addr} {a b : Int} (h : H t = some (.tup [.int a, .int b])) : ∀ {vs : List V} {ds : List PyData}, Cells H vs ds → Cells H (vs ++ [.ref t]) (ds ++ [.tuple [.int a, .int b]])
  | _, _, .nil => .cons h .nil
  | _, _, .cons q r => .cons q (Cells.snoc h r)
theorem Cells.all {K : PySem.W.Frag} {p : Addr} {H : Hp} : ∀ {vs : List V} {ds : List PyData}, Cells H vs ds → DnAll K p H vs ds
  | _, _, .nil => .nil
  | _, _, .cons h t => .cons (.tup (.inl (.inl h)) (.cons (.int _) (.cons (.int _) .nil))) (Cells.all t)
theorem Cells.length {H : Hp} : ∀ {vs : List V} {ds : List PyData}, Cells H vs ds → vs.length = ds.length
  | _, _, .nil => rfl
  | _, _, .cons _ t => congrArg Nat.succ (Cells.length t)
end L2
namespace L2
open PySem PySem.Spec PyProof.Rows
end L2
namespace L2
open PySem PySem.Spec PyProof.Rows
/-- tuples stay -/
def Tk (H H' : Hp) : Prop := ∀ b xs, (H b = some (.tup xs) → H' b = some (.tup xs)) ∧ ∀ o, H b = some (.frz o (.tup xs)) → H' b = some (.frz o (.tup xs))
theorem Tk.refl (H : Hp) : Tk H H := fun _ _ => ⟨id, fun _ => id⟩
theorem Tk.trans {H H1 H2 : Hp} (a : Tk H H1) (b : Tk H1 H2) : Tk H H2 := fun c xs => ⟨fun h => (b c xs).1 ((a c xs).1 h), fun o h => (b c xs).2 o ((a c xs).2 o h)⟩
theorem Tk.of_same {H H' : Hp} (e : Same H H') : Tk H H' := fun b xs => ⟨fun h => e _ _ h, fun o h => e _ _ h⟩
theorem Tk.put {H : Hp} {o : Addr} {l l' : List V} (ho : H o = some (.lst l)) : Tk H (upd H o (.lst l')) := fun b xs =>
  ⟨fun h => by rw [upd_ne (by rintro rfl; rw [ho] at h; cases h)]; exact h, fun q h => by rw [upd_ne (by rintro rfl; rw [ho] at h; cases h)]; exact h⟩
theorem word_inv {d : PyData} {ws : List Str} (h : isWord d ws = true) : ∃ x, d = .str x ∧ x ∈ ws := by
  cases d with
  | str x => exact ⟨x, rfl, by simpa [isWord] using h⟩
  | _ => simp [isWord] at h
theorem nameOk_len {z : Str} (h : nameOk z = true) : z.length ≤ 8 := by
  unfold nameOk at h
  exact of_decide_eq_true (Bool.and_eq_true_iff.mp (Bool.and_eq_true_iff.mp h).1).2
theorem alnum_small : ∀ c ∈ alnums.cps.toList, c < 0x110000 := by decide +kernel
theorem nameOk_ok {z : Str} (h : nameOk z = true) : Sok z := by
  refine ⟨Nat.le_trans (nameOk_len h) (by decide), ?_⟩
  unfold nameOk at h
  have h2 := (Bool.and_eq_true_iff.mp (Bool.and_eq_true_iff.mp h).2).2
  unfold PyData.strOk
  rw [Array.all_eq_true]
  intro i hi
  have h3 := List.all_eq_true.mp h2 z.cps[i] (by rw [Array.mem_toList_iff]; exact Array.getElem_mem hi)
  exact decide_eq_true (alnum_small _ (of_decide_eq_true h3))
end L2
namespace L2
open PySem PySem.Spec PyProof.Rows
end L2
namespace L2
open PySem PySem.Spec PyProof.Rows
structure Sh (n k : Nat) (d : PyData) : Prop where
  nd : d.hasDict = false
  sh : d.showable = true
  lv : d.leavesShort 20 = true
  bk : d.bulk ≤ n
  dp : d.depth ≤ k
structure ShA (n k : Nat) (ds : List PyData) : Prop where
  nd : PyData.hasDictAll ds = false
  sh : PyData.showableAll ds = true
  lv : PyData.leavesShortAll 20 ds = true
  bk : PyData.bulkAll ds ≤ n
  dp : PyData.depthAll ds ≤ k
theorem Sh.int {i : Int} (h : i.natAbs < 10 ^ 15) : Sh 0 0 (.int i) := by
  refine ⟨by simp [PyData.hasDict], ?_, ?_, by simp [PyData.bulk], by simp [PyData.depth]⟩
  · simp only [PyData.showable]
    refine decide_eq_true ?_
    by_cases z : i.natAbs = 0
    · rw [z]; decide
    · have : i.natAbs < 2 ^ 60 := Nat.lt_trans h (by decide)
      have := (Nat.log2_lt z).mpr this
      omega
  · simp only [PyData.leavesShort]
    refine decide_eq_true ?_
    show (Str.ofString (toString i)).length ≤ 20
    rw [PySem.ofString_length]
    exact Nat.le_trans (int_text_length_le10 (k := 15) (by decide) h) (by decide)
theorem Sh.str {x : Str} (h : Sok x) : Sh x.length 0 (.str x) := by
  refine ⟨by simp [PyData.hasDict], by simp [PyData.showable], ?_, by simp only [PyData.bulk]; exact Nat.le_refl _, by simp [PyData.depth]⟩
  simp only [PyData.leavesShort]
  rw [List.all_eq_true]
  intro c hc
  have h2 := h.2
  unfold PyData.strOk at h2
  obtain ⟨i, hi, e⟩ := List.getElem_of_mem hc
  have h3 := Array.all_eq_true.mp h2 i (by simpa using hi)
  have h4 : c < 0x110000 := by rw [← e]; simpa using h3
  exact decide_eq_true (Nat.lt_trans h4 (by decide))
theorem ShA.nil : ShA 0 0 [] := ⟨by simp [PyData.hasDictAll], by simp [PyData.showableAll], by simp [PyData.leavesShortAll], by simp [PyData.bulkAll], by simp [PyData.depthAll]⟩
theorem ShA.cons {n m k l : Nat} {d : PyData} {ds : List PyData} (h : Sh n k d) (t : ShA m l ds) : ShA (n + 1 + m) (max k l) (d :: ds) := by
  refine ⟨?_, ?_, ?_, ?_, ?_⟩
  · simp only [PyData.hasDictAll, h.nd, t.nd]; rfl
  · simp only [PyData.showableAll, h.sh, t.sh]; rfl
  · simp only [PyData.leavesShortAll, h.lv, t.lv]; rfl
  · simp only [PyData.bulkAll]; have := h.bk; have := t.bk; omega
  · simp only [PyData.depthAll]; have := h.dp; have := t.dp; omega
theorem ShA.tup {n k : Nat} {ds : List PyData} (h : ShA n k ds) : Sh n (k + 1) (.tuple ds) := ⟨by simp only [PyData.hasDict]; exact h.nd, by simp only [PyData.showable]; exact h.sh, by simp only [PyData.leavesShort]; exact h.lv, by simp only [PyData.bulk]; exact h.bk, by simp only [PyData.depth]; have := h.dp; omega⟩
theorem ShA.lst {n k : Nat} {ds : List PyData} (h : ShA n k ds) : Sh n (k + 1) (.list ds) := ⟨by simp only [PyData.hasDict]; exact h.nd, by simp only [PyData.showable]; exact h.sh, by simp only [PyData.leavesShort]; exact h.lv, by simp only [PyData.bulk]; exact h.bk, by simp only [PyData.depth]; have := h.dp; omega⟩
theorem Sh.mono {n m k l : Nat} {d : PyData} (h : Sh n k d) (a : n ≤ m) (b : k ≤ l) : Sh m l d := ⟨h.nd, h.sh, h.lv, Nat.le_trans h.bk a, Nat.le_trans h.dp b⟩
theorem ShA.mono {n m k l : Nat} {ds : List PyData} (h : ShA n k ds) (a : n ≤ m) (b : k ≤ l) : ShA m l ds := ⟨h.nd, h.sh, h.lv, Nat.le_trans h.bk a, Nat.le_trans h.dp b⟩
theorem ShA.all {n k : Nat} : ∀ {ds : List PyData}, (∀ d ∈ ds, Sh n k d) → ShA (ds.length * (n + 1)) k ds
  | [], _ => ShA.nil.mono (Nat.zero_le _) (Nat.zero_le _)
  | d :: r, h => by
    have a := ShA.cons (h d List.mem_cons_self) (ShA.all (ds := r) fun e he => h e (List.mem_cons_of_mem _ he))
    refine a.mono ?_ (by omega)
    rw [List.length_cons, Nat.succ_mul]
    omega
theorem Sh.shown {n k : Nat} {d : PyData} (h : Sh n k d) (hn : n ≤ 700000) : d.shown.length ≤ sizeLine := by
  have a := PyData.shown_le_bulk 20 (by decide) d h.lv
  have b := h.bk
  rw [sizeLine_eq]
  omega
theorem touches_sh {lo hi : Int} (h0 : 0 ≤ lo) (h1 : hi ≤ 1000000000000) : ∀ {ds : List PyData} {l : Int}, lo ≤ l → touchesFrom hi ds l = true → ∀ d ∈ ds, Sh 2 1 d
  | d :: r, l, hl, h, e, he => by
    have h' : (isStretch d l hi && touchesFrom hi r (sndI d + 1)) = true := h
    obtain ⟨a, b⟩ := Bool.and_eq_true_iff.mp h'
    obtain ⟨i, j, rfl, c1, c2, c3⟩ := stretch_inv a
    rcases List.mem_cons.mp he with rfl | he
    · exact (ShA.tup (.cons (.int (by omega)) (.cons (.int (by omega)) .nil))).mono (by omega) (by omega)
    · exact touches_sh h0 h1 (show lo ≤ j + 1 by omega) b e he
theorem pass_sh {L : Int} {d : PyData} (hL : L ≤ 1000000000000) (h : isPass L d = true) : Sh 60 4 d := by
  obtain ⟨x, m, f, t, u, g, e, rfl, hx, hm, he, f0, ft, tL, hu, g0, g1, _⟩ := passable h
  obtain ⟨y, rfl, hy⟩ := word_inv hm
  obtain ⟨z, rfl, hz⟩ := word_inv he
  have ly : ∀ x ∈ modes, Sok x ∧ x.length ≤ 5 := by decide +kernel
  have lz : ∀ x ∈ tails, Sok x ∧ x.length ≤ 4 := by decide +kernel
  have lx := nameOk_len hx
  cases u with
  | tuple ds =>
    have h2 : (decide (ds.length ≤ 6) && touchesFrom t ds f) = true := hu
    obtain ⟨a, b⟩ := Bool.and_eq_true_iff.mp h2
    have l6 : ds.length ≤ 6 := of_decide_eq_true a
    have sU : Sh 18 2 (.tuple ds) := (ShA.all (touches_sh f0 (by omega) (Int.le_refl f) b)).tup.mono (by omega) (Nat.le_refl _)
    have q := ShA.tup (.cons (.str (nameOk_ok hx)) (.cons (.str (ly y hy).1) (.cons (.int (i := f) (by omega)) (.cons (.int (i := t) (by omega)) (.cons sU (.cons (.int (i := g) (by omega)) (.cons (.str (lz z hz).1) .nil)))))))
    have := (ly y hy).2
    have := (lz z hz).2
    exact q.mono (by omega) (by omega)
  | _ => simp [touchesOk] at hu
end L2
namespace L2
open PySem PySem.Spec PyProof.Rows
end L2
namespace L2
open PySem PySem.Spec PyProof.Rows
end L2
namespace L2
open PySem PySem.Spec PyProof.Rows
end L2
namespace L2
open PySem PySem.Spec PyProof.Rows
end L2
namespace L2
open PySem PySem.Spec PyProof.Rows
end L2
namespace L2
open PySem PySem.Spec PyProof.Rows
end L2
namespace PySem.W
open PySem PySem.Spec
section
variable {prog : Program} {w : World} {A : Around} {E : Value → Shared → Prop} {s : Shared} {K : Frag} {x C L f : Addr} {h₀ : Heap} {m : Str → Option Value} {ox : Obj} {od : Option Obj} {b tb : Value}
/-- != by an own __eq__ (and no own __ne__) -/
theorem myNe_entry (X : K.In s.heap) (I : InstAt s.heap x ox C od) (hs : findIn K (.ref C) "__eq__" = some (some (.ref f))) (hf : isFn K (.ref f) = true) (hu : A.units < cLine) {Q : Fin → Shared → Prop}
    (h : wpAny (model prog w) A (call (.ref f) [.ref x, b]) (fun v s' => ∃ r, v = .bool r ∧ Q (.done (.ret (.bool (!r)))) s') E s) :
    wpAny (model prog w) A (Builtin.«object.__ne__» ⟨[.ref x, b], []⟩) Q E s := by
  unfold Builtin.«object.__ne__»
  repeat (first
    | with_reducible refine wpAny_cRoomFor hu ?_
    | (refine wpAny_bind (m := callSpecialIfBound? (.ref x) (Str.ofString "__eq__") [b])
        (ifBound_K X I hs hf (wpAny_mono h (fun r s' hr => by
          obtain ⟨b, rfl, hq⟩ := hr
          repeat (first | exact hq | exact wpAny_pure hq | exact wpAny_truthy_bool hq | (refine wpAny_bind (m := truthy (.bool _)) (wpAny_truthy_bool ?_)) | wp_step)) fun _ _ e => e)))
    | wp_step)
theorem myNe_K {Q : Value → Shared → Prop} (hu : A.units + 1 < cLine) (Fk : PyProof.Rows.Fr h₀ L s.heap m) (X₀ : K.In h₀) (I : InstAt s.heap x ox C od) (hb : Looks (model prog w) s.heap (typeOf b) tb) (hn : notFirst K C tb = true)
    (hne : findIn K (.ref C) "__ne__" = some (some (.builtin "object.__ne__"))) (hob : subIn K (.ref C) (.type "object") = some true)
    (hs : findIn K (.ref C) "__eq__" = some (some (.ref f))) (hf : isFn K (.ref f) = true)
    (h : wpAny (model prog w) A.in1 (call (.ref f) [.ref x, b]) (fun v s' => ∃ r, v = .bool r ∧ Q (.bool (!r)) s') E s) : wpAny (model prog w) A (richCompare .NotEq (.ref x) b) Q E s := by
  have X := X₀.keeps Fk.keep
  have one : wpAny (model prog w) A (tryCompare (.ref x) "__ne__" b) (fun r s' => ∃ v, r = some v ∧ Q v s') E s := by
    unfold tryCompare
    simp only [callSpecialIfBound?, bindSpecialIfBound?]
    refine wpAny_bind (wpAny_holding (wpAny_bind (wpAny_bind (wpAny_bind (I.type.here ((looks_findIn X hne).here ?_))))))
    simp only [PySem.F.cmp_object.ne.bind]
    refine wpAny_bind (wpAny_askSetting (wpAny_ite ?_))
    have run : wpAny (model prog w) A (call (.builtin "object.__ne__") [.ref x, b]) (fun v s' => v ≠ .notImplemented ∧ Q v s') E s := by
      refine wpAny_call (codeAny_call_builtin PySem.F.cmp_object.ne.plain PySem.F.cmpEntry_ne
        (check_slot PySem.F.cmpKind_ne PySem.F.cmpSplit_ne (I.type.andThen (looks_subIn X hob)) (PySem.F.cmpArgs_ne _ _) ?_))
      refine myNe_entry (A := A.in1) X I hs hf hu (wpAny_mono h (fun v s' hv => ?_) fun _ _ e => e)
      obtain ⟨r, rfl, hq⟩ := hv
      exact ⟨r, rfl, fun z => (nomatch z), hq⟩
    have fin : wpAny (model prog w) A (call (.builtin "object.__ne__") ([.ref x] ++ [b]) >>= fun v => pure (some v)) (fun a s' => wpAny (model prog w) A (match a with | some .notImplemented => pure none | none => pure none | some v => pure (some v)) (fun r s' => ∃ v, r = some v ∧ Q v s') E s') E s :=
      wpAny_bind (wpAny_mono run (fun v s' h' => wpAny_pure (by
        obtain ⟨hn', hq⟩ := h'
        cases v <;> first | exact absurd rfl hn' | exact wpAny_pure ⟨_, rfl, hq⟩)) fun _ _ h' => h')
    split
    · exact wpAny_bind (wpAny_pure (wpAny_pure (by exact fin)))
    · exact wpAny_tryCatch (wpAny_bind (wpAny_pure (wpAny_pure (by exact fin))))
  unfold richCompare
  simp only [oneThing_ref]
  refine wpAny_holding (wpAny_bind (wpAny_cRoomFor (Nat.lt_of_succ_lt hu) ?_))
  refine wpAny_bind (I.type.here (wpAny_bind (hb.here ?_)))
  split
  · rename_i q
    have e : subIn K tb (.ref C) = some false := by
      rcases Bool.or_eq_true_iff.mp hn with e | e
      · rw [beq_iff_eq.mp e] at q; simp at q
      · exact beq_iff_eq.mp e
    refine wpAny_bind ((looks_subIn X e).here ?_)
    simp only [Bool.false_eq_true, if_false]
    refine wpAny_bind (wpAny_mono one (fun r s' z => ?_) fun _ _ e => e)
    obtain ⟨v, rfl, hq⟩ := z
    exact wpAny_pure hq
  · refine wpAny_bind (wpAny_pure ?_)
    simp only [Bool.false_eq_true, if_false]
    refine wpAny_bind (wpAny_mono one (fun r s' z => ?_) fun _ _ e => e)
    obtain ⟨v, rfl, hq⟩ := z
    exact wpAny_pure hq
end
end PySem.W
namespace L2
open PySem PySem.Spec PyProof.Rows
end L2
namespace L2
open PySem PySem.Spec PyProof.Rows
def aD : PyData := .tuple [.str "a", .str "touch", .int 2, .int 8, .tuple [.tuple [.int 3, .int 5]], .int 3, .str "stop"]
end L2
namespace L2
open PySem PySem.Spec PyProof.Rows
end L2
namespace PySem.W
open PySem PySem.Spec PySem.Calls PyProof.Rows
section
variable {prog : Program} {w : World} {A : Around} {E : Value → Shared → Prop} {s : Shared}
/-- a, .., *r = a list: the first i, then a new list of the others -/
theorem myStar {l : Addr} {its : Array Value} {i : Nat} {Q : List Value → Shared → Prop} (hh : A.handled = none) (hl : s.heap.IsList l its) (hle : i ≤ its.size) (hz : its.size ≤ sizeLine)
    (hQ : ∀ (h' : Heap) (tk : Nat), (∀ b o, s.heap.get? b = some o → h'.get? b = some o) → Q (its.toList.take i ++ [.ref h'.objs.size]) { s with heap := h'.push { cls := .type "list", data := .seq (its.toList.drop i).toArray }, toks := tk }) :
    wpAny (model prog w) A (unpackItems (.ref l) (i + 1) (some i)) Q E s := by
  have ne : l ≠ s.heap.objs.size := by obtain ⟨o, ho, _⟩ := hl; exact Nat.ne_of_lt (Heap.lt_size ho)
  unfold unpackItems
  refine wpAny_bind (m := notIterableAtAll (.ref l)) ?_
  unfold notIterableAtAll
  refine wpAny_bind (wpAny_specialOf hl.typeIs slot_list_iter.lookup (wpAny_pure ?_))
  simp only [Bool.false_eq_true, if_false]
  refine wpAny_bind (m := holding [.ref l] _) (wpAny_holding (wpAny_pyIter_list hl ?_))
  refine wpAny_bind (m := holding _ _) (wpAny_holding (kun_draw ne i 0 _ _ ⟨_, Heap.get?_push_size _ rfl, rfl, rfl⟩ (hl.push _) (by omega) fun h1 it1 sb1 => ?_))
  have hl1 : h1.IsList l its := (hl.push _).extBut sb1.extBut ne
  rw [Nat.zero_add] at it1
  obtain ⟨oi, hoi, _⟩ := id it1
  obtain ⟨ol, hol, _⟩ := id hl1
  rw [List.drop_zero]
  have lf : (its.toList.take i).length = i := by rw [List.length_take, Array.length_toList]; omega
  rw [if_neg (by rw [lf]; omega)]
  refine wpAny_bind (m := holding _ _) (wpAny_holding (kun_collect (s := { s with heap := h1 }) (T := "list_iterator") (.inr (.inr (.inl rfl))) (Walks.list (A := A.in1) hh s.heap.objs.size l ne its) (fun j u st => st.1.typeIs) (k := i) hle ⟨it1, hl1⟩ (Heap.lt_size hoi) (Heap.lt_size hol) (fun h2 tk hk => ?_) hz))
  have lr : (its.toList.drop i).length - (i + 1 - 1 - i) = (its.toList.drop i).length := by omega
  show wpAny _ _ (if (its.toList.drop i).length < i + 1 - 1 - i then _ else _) _ _ _
  rw [if_neg (by omega)]
  show wpAny _ _ (newList ((its.toList.drop i).take ((its.toList.drop i).length - (i + 1 - 1 - i))) >>= fun d => pure (its.toList.take i ++ [d] ++ (its.toList.drop i).drop ((its.toList.drop i).length - (i + 1 - 1 - i)))) _ _ _
  rw [lr, List.take_length, List.drop_length]
  refine wpAny_bind (wpAny_newList (wpAny_pure ?_) (by rw [List.length_drop, Array.length_toList]; omega))
  rw [List.append_nil]
  refine hQ h2 tk fun b o e => ?_
  have nb : b ≠ s.heap.objs.size := Nat.ne_of_lt (Heap.lt_size e)
  exact hk b o nb (sb1.extBut b o nb (Heap.get?_push_of_some _ e))
end
end PySem.W
namespace L2
open PySem PySem.Spec PyProof.Rows
/-- a, .., *r = a list -/
def gStar (K : PySem.W.Frag) (i : Nat) (t : TGs) : TG := fun v σ H Q => ∃ a xs, v = .ref a ∧ SqL K H a xs ∧ i ≤ xs.length ∧ ∀ D, H D = none → t (xs.take i ++ [.ref D]) σ (upd H D (.lst (xs.drop i))) Q
section
variable {X : Cx} {pos : Pos}
theorem pg_star {es : List Expr} {k : Nat} {t : TGs} {i : Nat} (hc : X.calm = true) (h : PGs X es t)
    (hn : (assignEach es X.env).length = i + 1 := by rfl) (hst : (assignEach es X.env).findIdx? (·.1) = some i := by rfl) : PG X (.Tuple es k pos) (gStar X.K i t) := by
  refine ⟨fun pins s σ H v u Q I r hw => ?_⟩
  obtain ⟨a, xs, e1, hq, hl, hw⟩ := hw
  subst e1
  cases r
  obtain ⟨its, rv, pl, hz⟩ := I.list hq
  rw [PyProof.Rows.assign_Tuple]
  refine wpAny_bind (wpAny_standAt ?_)
  unfold unpack
  rw [hn, hst]
  refine wpAny_bind (wpAny_holding (PySem.W.myStar (i := i) (I.ok.hd hc) pl.isList (by simpa [← rv.length] using hl) (by simpa [← rv.length] using hz) fun h' tk hx => ?_))
  have I1 : Inv X pins σ H { s with heap := h', toks := tk } := I.kept (t' := tk) hx
  have hf : H h'.objs.size = none := I1.hok.fresh (Nat.le_refl _)
  have I2 : Inv X pins σ (upd H h'.objs.size (.lst (xs.drop i))) { s with heap := h'.push { cls := .type "list", data := .seq (its.drop i).toArray }, toks := tk } := by
    refine I1.laid (t' := tk) (fun b u e => Heap.get?_push_of_some _ e) (Nat.le_refl _) ?_
    exact ⟨by rw [List.length_drop]; omega, its.drop i, 0, rv.drop i, Heap.get?_push_size _ rfl⟩
  have := h.run pins _ σ _ _ (its.take i ++ [.ref h'.objs.size]) Q I2 ((rv.take i).append (.cons (show RelV (V.ref h'.objs.size) (Value.ref h'.objs.size) from rfl) .nil)) (hw _ hf)
  simpa using this
end
end L2
namespace L2
open PySem PySem.Spec PyProof.Rows
section
variable {X : Cx} {p : Pos}
/-- the starred one among the targets takes its value as any other -/
theorem pgs_star {e : Expr} {es : List Expr} {t : TG} {u : TGs} (one : PG X e t) (more : PGs X es u)
    (hs : (assignEach (.Starred e p :: es) X.env).map (·.2) = assign e X.env :: (assignEach es X.env).map (·.2) := by rfl) : PGs X (.Starred e p :: es) (gCons t u) := by
  refine ⟨fun pins s σ H vs us Q I r q => ?_⟩
  obtain ⟨v, vr, rfl, q⟩ := q
  cases r with
  | cons r rr =>
    rw [hs]
    refine assignInOrder_cons ?_
    refine thn (one.run pins s σ H v _ _ I r q) fun _ s1 z => ?_
    obtain ⟨σ1, H1, I1, q1⟩ := z
    exact more.run pins s1 σ1 H1 vr _ Q I1 rr q1
end
end L2
namespace L2
open PySem PySem.Spec PyProof.Rows TL
def numT (n : Nat) : Str := Str.ofString (toString ((n : Nat) : Int))
theorem numT_tl (n : Nat) : (numT n).cps.toList = numL n := tl_num n
theorem numT_len {n : Nat} (h : n < 10 ^ 13) : 1 ≤ (numT n).length ∧ (numT n).length ≤ 13 := by
  have a := numL_len (k := 13) (by decide) h
  have b := numL_ne n
  have e : (numT n).length = (numL n).length := by
    rw [← numT_tl n]
    simp [Str.length]
  rw [e]
  refine ⟨?_, a⟩
  cases h' : numL n with
  | nil => exact absurd h' b
  | cons c r => rw [List.length_cons]; omega
theorem digit_in : ∀ c, 48 ≤ c → c ≤ 57 → c ∈ (("0123456789" : Str)).cps.toList := by
  intro c h1 h2
  have : c = 48 ∨ c = 49 ∨ c = 50 ∨ c = 51 ∨ c = 52 ∨ c = 53 ∨ c = 54 ∨ c = 55 ∨ c = 56 ∨ c = 57 := by omega
  rcases this with rfl | rfl | rfl | rfl | rfl | rfl | rfl | rfl | rfl | rfl <;> decide +kernel
theorem numL_head : ∀ n : Nat, ∀ r, numL n = 48 :: r → n = 0 := by
  intro n
  induction n using Nat.strongRecOn with
  | _ n ih =>
    intro r h
    by_cases l : n < 10
    · rw [numL_lt l] at h
      injection h with h _
      omega
    · rw [numL_step (by omega)] at h
      cases h2 : numL (n / 10) with
      | nil => exact absurd h2 (numL_ne _)
      | cons c s =>
        rw [h2, List.cons_append] at h
        injection h with h _
        subst h
        have := ih (n / 10) (by omega) s h2
        omega
theorem numT_zero : numT 0 = "0" := by decide +kernel
end L2
namespace L2
open PySem PySem.Spec PyProof.Rows TL
def stT (a b : Nat) : Str := Txt.join "-" [numT a, numT b]
theorem stT_eq (a b : Nat) : Str.empty ++ numT a ++ ("-" : Str) ++ numT b = stT a b := by
  unfold stT
  rw [join_eq]
  refine ext_tl ?_
  rw [tl_append, tl_append, tl_append, tl_join, show tl Str.empty = [] from rfl]
  simp only [List.map_cons, List.map_nil, joinL, List.nil_append, List.append_assoc]
theorem num_free {n s : Nat} (h : s < 48 ∨ 57 < s) : s ∉ tl (numT n) := by
  rw [show tl (numT n) = numL n from numT_tl n]
  exact numL_free h
theorem stT_split (a b : Nat) : Txt.split (stT a b) "-" = [numT a, numT b] := by
  refine split_join (y := "-") (s := 45) (S := []) (by rfl) (by decide +kernel) (by simp) fun p hp => ?_
  rcases List.mem_cons.mp hp with rfl | hp
  · exact num_free (.inl (by decide))
  · obtain rfl := List.mem_singleton.mp hp
    exact num_free (.inl (by decide))
end L2
namespace L2
open PySem PySem.Spec PyProof.Rows TL
theorem stT_len {a b : Nat} (ha : a < 10 ^ 13) (hb : b < 10 ^ 13) : (stT a b).length ≤ 27 := by
  have h1 := (numT_len ha).2
  have h2 := (numT_len hb).2
  rw [len_tl] at h1 h2
  rw [← stT_eq, len_tl, tl_append, tl_append, tl_append, show tl Str.empty = [] from rfl, show tl ("-" : Str) = [45] from by decide +kernel]
  simp only [List.nil_append, List.length_append, List.length_cons, List.length_nil]
  omega
end L2
namespace L2
open PySem PySem.Spec PyProof.Rows TL
theorem log_small {n : Nat} (h : n < 10 ^ 13) : ((n : Nat) : Int).natAbs.log2 < 1920 := by
  rw [Int.natAbs_natCast]
  by_cases z : n = 0
  · subst z; decide
  · exact Nat.lt_trans ((Nat.log2_lt z).mpr (Nat.lt_trans h (by decide : 10 ^ 13 < 2 ^ 60))) (by decide)
theorem app_len (x y : Str) : (x ++ y).length = x.length + y.length := by
  rw [len_tl, len_tl, len_tl, tl_append, List.length_append]
def stW : PyData → Str | .tuple [.int a, .int b] => stT a.toNat b.toNat | _ => Str.empty
def rowW : PyData → List Str | .tuple [.str z, .str m, .int f, .int t, .tuple us, .int g, .str e] => [("pass" : Str), z, m, numT f.toNat, numT t.toNat, numT g.toNat, e] ++ us.map stW | _ => []
def rowT (d : PyData) : Str := Txt.join " " (rowW d)
theorem touch_mem {hi : Int} (h1 : hi ≤ 1000000000000) : ∀ {ds : List PyData} {lo : Int}, 0 ≤ lo → touchesFrom hi ds lo = true → ∀ d ∈ ds, ∃ a b : Nat, d = .tuple [.int (a : Int), .int (b : Int)] ∧ a < 10 ^ 13 ∧ b < 10 ^ 13
  | d :: r, lo, h0, h, e, he => by
    have h' : (isStretch d lo hi && touchesFrom hi r (sndI d + 1)) = true := h
    obtain ⟨a, b⟩ := Bool.and_eq_true_iff.mp h'
    obtain ⟨i, j, rfl, c1, c2, c3⟩ := stretch_inv a
    rcases List.mem_cons.mp he with rfl | he
    · obtain ⟨x, rfl⟩ : ∃ x : Nat, i = x := ⟨i.toNat, by omega⟩
      obtain ⟨y, rfl⟩ : ∃ y : Nat, j = y := ⟨j.toNat, by omega⟩
      exact ⟨x, y, rfl, by omega, by omega⟩
    · exact touch_mem h1 (show 0 ≤ j + 1 by omega) b e he
/-- a pass, part by part -/
theorem pass_parts {L : Int} {d : PyData} (hL : L ≤ 1000000000000) (h : isPass L d = true) : ∃ (z m e : Str) (f t g : Nat) (us : List PyData), d = .tuple [.str z, .str m, .int (f : Int), .int (t : Int), .tuple us, .int (g : Int), .str e] ∧
    nameOk z = true ∧ m ∈ modes ∧ e ∈ tails ∧ f < 10 ^ 13 ∧ t < 10 ^ 13 ∧ g < 10 ^ 13 ∧ us.length ≤ 6 ∧ ∀ d ∈ us, ∃ a b : Nat, d = .tuple [.int (a : Int), .int (b : Int)] ∧ a < 10 ^ 13 ∧ b < 10 ^ 13 := by
  obtain ⟨z, m, f, t, u, g, e, rfl, hz, hm, he, f0, ft, tL, hu, g0, g1, _⟩ := passable h
  obtain ⟨y, rfl, hy⟩ := word_inv hm
  obtain ⟨w, rfl, hw⟩ := word_inv he
  obtain ⟨f, rfl⟩ : ∃ x : Nat, f = x := ⟨f.toNat, by omega⟩
  obtain ⟨t, rfl⟩ : ∃ x : Nat, t = x := ⟨t.toNat, by omega⟩
  obtain ⟨g, rfl⟩ : ∃ x : Nat, g = x := ⟨g.toNat, by omega⟩
  cases u with
  | tuple us =>
    have h2 : (decide (us.length ≤ 6) && touchesFrom t us f) = true := hu
    obtain ⟨a, b⟩ := Bool.and_eq_true_iff.mp h2
    exact ⟨z, y, w, f, t, g, us, rfl, hz, hy, hw, by omega, by omega, by omega, of_decide_eq_true a, touch_mem (by omega) f0 b⟩
  | _ => simp [touchesOk] at hu
theorem sum_le {l : List Nat} {n : Nat} (h : ∀ x ∈ l, x ≤ n) : l.sum ≤ l.length * n := by
  induction l with
  | nil => simp
  | cons x r ih =>
    have a := h x List.mem_cons_self
    have b := ih fun y hy => h y (List.mem_cons_of_mem _ hy)
    rw [List.sum_cons, List.length_cons, Nat.succ_mul]
    omega
theorem row_words {L : Int} {d : PyData} (hL : L ≤ 1000000000000) (h : isPass L d = true) : (rowW d).length ≤ 13 ∧ ∀ w ∈ rowW d, w.length ≤ 27 := by
  obtain ⟨z, m, e, f, t, g, us, rfl, hz, hm, he, hf, ht, hg, l6, hu⟩ := pass_parts hL h
  refine ⟨?_, ?_⟩
  · show ([("pass" : Str), z, m, numT f, numT t, numT g, e] ++ us.map stW).length ≤ 13
    rw [List.length_append, List.length_map]
    simp only [List.length_cons, List.length_nil]
    omega
  · intro w hw
    rcases List.mem_append.mp (show w ∈ [("pass" : Str), z, m, numT f, numT t, numT g, e] ++ us.map stW from hw) with hw | hw
    · have hz' := nameOk_len hz
      have lm : ∀ x ∈ modes, x.length ≤ 27 := by decide +kernel
      have lt : ∀ x ∈ tails, x.length ≤ 27 := by decide +kernel
      simp only [List.mem_cons, List.not_mem_nil, or_false] at hw
      rcases hw with rfl | rfl | rfl | rfl | rfl | rfl | rfl
      · decide +kernel
      · omega
      · exact lm _ hm
      · have := (numT_len hf).2; omega
      · have := (numT_len ht).2; omega
      · have := (numT_len hg).2; omega
      · exact lt _ he
    · obtain ⟨u, hu', rfl⟩ := List.mem_map.mp hw
      obtain ⟨a, b, rfl, ha, hb⟩ := hu u hu'
      exact stT_len ha hb
end L2
namespace L2
open PySem PySem.Spec PyProof.Rows TL
theorem joinL_len (s : List Nat) : ∀ ps : List (List Nat), (joinL s ps).length ≤ (ps.map List.length).sum + ps.length * s.length
  | [] => by simp [joinL]
  | [p] => by simp [joinL]
  | p :: q :: r => by
    have ih := joinL_len s (q :: r)
    show (p ++ (s ++ joinL s (q :: r))).length ≤ _
    rw [List.length_append, List.length_append, List.map_cons, List.sum_cons, List.length_cons, Nat.succ_mul]
    omega
theorem join_length (y : Str) (ps : List Str) : (Txt.join y ps).length ≤ (ps.map (·.length)).sum + ps.length * y.length := by
  rw [join_eq, len_tl, tl_join, len_tl]
  have := joinL_len (tl y) (ps.map tl)
  rw [List.map_map, List.length_map] at this
  have e : ps.map (List.length ∘ tl) = ps.map (·.length) := List.map_congr_left fun x _ => (len_tl x).symm
  rw [e] at this
  exact this
theorem rowT_len {L : Int} {d : PyData} (hL : L ≤ 1000000000000) (h : isPass L d = true) : (rowT d).length ≤ 400 := by
  obtain ⟨a, b⟩ := row_words hL h
  have h1 := join_length " " (rowW d)
  have h2 := sum_le (l := (rowW d).map (·.length)) (n := 27) (fun x hx => by
    obtain ⟨w, hw, rfl⟩ := List.mem_map.mp hx
    exact b w hw)
  rw [List.length_map] at h2
  have h3 : (" " : Str).length = 1 := by decide +kernel
  rw [h3] at h1
  show (Txt.join " " (rowW d)).length ≤ 400
  omega
def headT (n : Nat) : Str := Txt.join " " [("track" : Str), numT n]
theorem headT_eq (n : Nat) : Str.empty ++ ("track " : Str) ++ numT n = headT n := by
  unfold headT
  rw [join_eq]
  refine ext_tl ?_
  rw [tl_append, tl_append, tl_join, show tl Str.empty = [] from rfl, show tl ("track " : Str) = tl ("track" : Str) ++ tl (" " : Str) from by decide +kernel]
  simp only [List.map_cons, List.map_nil, joinL, List.nil_append, List.append_assoc]
theorem headT_len {n : Nat} (h : n < 10 ^ 13) : (headT n).length ≤ 19 := by
  have h1 := (numT_len h).2
  rw [← headT_eq, app_len, app_len, show Str.empty.length = 0 from rfl, show ("track " : Str).length = 6 from by decide +kernel]
  omega
def rowsW (n : Nat) (ds : List PyData) : List Str := headT n :: ds.map rowT
def textT (n : Nat) (ds : List PyData) : Str := Txt.join "\n" (rowsW n ds)
theorem rowsW_len {L : Int} {n : Nat} {ds : List PyData} (hL : L ≤ 1000000000000) (hn : n < 10 ^ 13) (hp : ∀ d ∈ ds, isPass L d = true) (l8 : ds.length ≤ 8) : ((rowsW n ds).map (·.length)).sum + (rowsW n ds).length * 1 ≤ 4000 := by
  have h1 := sum_le (l := (rowsW n ds).map (·.length)) (n := 400) (fun x hx => by
    obtain ⟨w, hw, rfl⟩ := List.mem_map.mp hx
    rcases List.mem_cons.mp (show w ∈ headT n :: ds.map rowT from hw) with rfl | hw
    · exact Nat.le_trans (headT_len hn) (by decide)
    · obtain ⟨d, hd, rfl⟩ := List.mem_map.mp hw
      exact rowT_len hL (hp d hd))
  rw [List.length_map] at h1
  have h2 : (rowsW n ds).length = ds.length + 1 := by
    show (headT n :: ds.map rowT).length = _
    rw [List.length_cons, List.length_map]
  omega
end L2
namespace L2
open PySem PySem.Spec PyProof.Rows TL
end L2
namespace L2
open PySem PySem.Spec PyProof.Rows TL
theorem headT_split (n : Nat) : Txt.split (headT n) " " = [("track" : Str), numT n] := by
  refine split_join (y := " ") (s := 32) (S := []) (by rfl) (by decide +kernel) (by simp) fun p hp => ?_
  rcases List.mem_cons.mp hp with rfl | hp
  · decide +kernel
  · obtain rfl := List.mem_singleton.mp hp
    exact num_free (.inl (by decide))
theorem joinL_free {s : Nat} {S : List Nat} (hS : s ∉ S) : ∀ {ps : List (List Nat)}, (∀ p ∈ ps, s ∉ p) → s ∉ joinL S ps
  | [], _ => by simp [joinL]
  | [p], h => by show s ∉ p; exact h p List.mem_cons_self
  | p :: q :: r, h => by
    show s ∉ p ++ (S ++ joinL S (q :: r))
    intro z
    rcases List.mem_append.mp z with z | z
    · exact h p List.mem_cons_self z
    rcases List.mem_append.mp z with z | z
    · exact hS z
    · exact joinL_free hS (fun x hx => h x (List.mem_cons_of_mem _ hx)) z
theorem join_free {s : Nat} {y : Str} {ps : List Str} (hy : s ∉ tl y) (h : ∀ p ∈ ps, s ∉ tl p) : s ∉ tl (Txt.join y ps) := by
  rw [join_eq, tl_join]
  refine joinL_free hy fun p hp => ?_
  obtain ⟨x, hx, rfl⟩ := List.mem_map.mp hp
  exact h x hx
theorem stT_free {s a b : Nat} (h : s < 45) : s ∉ tl (stT a b) := by
  refine join_free (y := "-") ?_ fun p hp => ?_
  · rw [show tl ("-" : Str) = [45] from by decide +kernel]
    intro z
    have := List.mem_singleton.mp z
    omega
  · rcases List.mem_cons.mp hp with rfl | hp
    · exact num_free (.inl (by omega))
    · obtain rfl := List.mem_singleton.mp hp
      exact num_free (.inl (by omega))
theorem alnum_big : ∀ c ∈ alnums.cps.toList, 45 ≤ c := by decide +kernel
theorem name_free {z : Str} {s : Nat} (h : nameOk z = true) (hs : s < 45) : s ∉ tl z := by
  unfold nameOk at h
  have h2 := (Bool.and_eq_true_iff.mp (Bool.and_eq_true_iff.mp h).2).2
  intro m
  have h3 := List.all_eq_true.mp h2 s m
  have := alnum_big _ (of_decide_eq_true h3)
  omega
theorem row_free {L : Int} {d : PyData} {s : Nat} (hL : L ≤ 1000000000000) (h : isPass L d = true) (hs : s < 45) : ∀ w ∈ rowW d, s ∉ tl w := by
  obtain ⟨z, m, e, f, t, g, us, rfl, hz, hm, he, hf, ht, hg, l6, hu⟩ := pass_parts hL h
  intro w hw
  rcases List.mem_append.mp (show w ∈ [("pass" : Str), z, m, numT f, numT t, numT g, e] ++ us.map stW from hw) with hw | hw
  · have lp : ∀ c ∈ tl ("pass" : Str), 45 ≤ c := by decide +kernel
    have lm : ∀ x ∈ modes, ∀ c ∈ tl x, 45 ≤ c := by decide +kernel
    have lt : ∀ x ∈ tails, ∀ c ∈ tl x, 45 ≤ c := by decide +kernel
    simp only [List.mem_cons, List.not_mem_nil, or_false] at hw
    rcases hw with rfl | rfl | rfl | rfl | rfl | rfl | rfl
    · exact fun z => by have := lp s z; omega
    · exact name_free hz hs
    · exact fun z => by have := lm _ hm s z; omega
    · exact num_free (.inl (by omega))
    · exact num_free (.inl (by omega))
    · exact num_free (.inl (by omega))
    · exact fun z => by have := lt _ he s z; omega
  · obtain ⟨u, hu', rfl⟩ := List.mem_map.mp hw
    obtain ⟨a, b, rfl, ha, hb⟩ := hu u hu'
    exact stT_free hs
theorem rowT_split {L : Int} {d : PyData} (hL : L ≤ 1000000000000) (h : isPass L d = true) : Txt.split (rowT d) " " = rowW d := by
  refine split_join (y := " ") (s := 32) (S := []) (by rfl) (by decide +kernel) ?_ (row_free hL h (by decide))
  obtain ⟨z, m, e, f, t, g, us, rfl, _⟩ := pass_parts hL h
  simp [rowW]
theorem textT_split {L : Int} {n : Nat} {ds : List PyData} (hL : L ≤ 1000000000000) (hp : ∀ d ∈ ds, isPass L d = true) : Txt.split (textT n ds) "\n" = rowsW n ds := by
  refine split_join (y := "\n") (s := 10) (S := []) (by rfl) (by decide +kernel) (by simp [rowsW]) fun w hw => ?_
  rcases List.mem_cons.mp (show w ∈ headT n :: ds.map rowT from hw) with rfl | hw
  · refine join_free (y := " ") (by decide +kernel) fun p hp => ?_
    rcases List.mem_cons.mp hp with rfl | hp
    · decide +kernel
    · obtain rfl := List.mem_singleton.mp hp
      exact num_free (.inl (by decide))
  · obtain ⟨d, hd, rfl⟩ := List.mem_map.mp hw
    exact join_free (y := " ") (by decide +kernel) (row_free hL (hp d hd) (by decide))
end L2
namespace L2
open PySem PySem.Spec PyProof.Rows TL
end L2
namespace L2
open PySem PySem.Spec PyProof.Rows TL
theorem textT_len {L : Int} {n : Nat} {ds : List PyData} (hL : L ≤ 1000000000000) (hn : n < 10 ^ 13) (hp : ∀ d ∈ ds, isPass L d = true) (l8 : ds.length ≤ 8) : (textT n ds).length ≤ 4000 := by
  have h1 := join_length "\n" (rowsW n ds)
  have h2 := rowsW_len hL hn hp l8
  have h3 : ("\n" : Str).length = 1 := by decide +kernel
  rw [h3] at h1
  exact Nat.le_trans h1 h2
end L2
namespace L2
open PySem PySem.Spec PyProof.Rows TL
end L2
namespace L2
open PySem PySem.Spec PyProof.Rows TL
end L2
namespace L2
open PySem PySem.Spec PyProof.Rows
/-- cls(e, ..), the i-th slot holding the class at C -/
def tMakeL (i : Nat) (C : Addr) (sp : Sp) (dvs : List V) (E : XK) (t : TA) : TE := fun σ H Q => σ[i]? = some (some (.ref C)) ∧ tMake C sp dvs E t σ H Q
section
variable {X : Cx} {CX : CXT} {k i : Nat} {f C : Addr} {fd : FuncData} {ps : List Str} {sp : Sp} {dvs : List V} {ds : List Value} {E : XK} {x : Str} {p pos : Pos} {e : Expr} {es : List Expr} {t : TA}
theorem pe_makeL (M : Mk X.K C f) (F : FnOk X.prog X.w X.K X.mg X.base CX k f fd ps sp) (hr : Room (k + 1) X.A) (hb : Binds X.K fd ps ds) (hd : Vals dvs ds) (hx : Passes CX X E) (ha : PA X (e :: es) t)
    (hN : X.N[i]? = some x := by rfl) (hv : Vis X.env.scope x := by first | exact Or.inl rfl | exact Or.inr (Or.inl rfl) | exact Or.inr (Or.inr rfl)) (hdb : (x == ("__debug__" : Str)) = false := by decide) (hcd : (x == ("__classdict__" : Str)) = false := by decide)
    (he : starEach (e :: es) X.env = (false, eval e X.env) :: starEach es X.env := by rfl) (hpl : (backTo pos (starEach es X.env)).any (·.1) = false := by rfl) : PE X (.Call (.Name x p) (e :: es) [] pos) (tMakeL i C sp dvs E t) := by
  refine ⟨fun pins s σ H Q I h => ?_⟩
  obtain ⟨hs, ht⟩ := h
  have hvar := (pe_var (pos := p) hN hv hdb hcd).run pins s σ H (fun v H1 => v = .ref C ∧ H1 = H) I ⟨.ref C, hs, rfl, rfl⟩
  refine wpAny_Call_Name_kw (thn hvar fun u s1 z => ?_)
  obtain ⟨v, H1, I1, r1, rfl, rfl⟩ := z
  cases r1
  refine PySem.W.callWith_K (h₀ := X.base) I.ok.mod.kin M.kp ?_ he hpl
  refine thn (ha.run pos pins s1 σ _ _ I1 ht) fun us s2 z => ?_
  obtain ⟨vs, H2, I2, r, q⟩ := z
  exact ⟨I2.kIn, run_make M F hr hb hd hx I2 r q⟩
end
end L2
namespace L2
open PySem PySem.Spec PyProof.Rows TL
end L2
namespace L2
open PySem PySem.Spec PyProof.Rows
section
variable {X : Cx} {n : Nat}
/-- str(x), x an instance with an own __str__ -/
def rStrI (C : Addr) (sp : Sp) (E : XK) : List V → Hp → VK → Prop := fun xs H Q => ∃ (a dx : Addr) (fs : List (Str × V)), xs = [.ref a] ∧ H a = some (.ins C dx fs) ∧ sp [.ref a] H (fun v H' => ∃ z, v = .str z ∧ Q (.str z) H') E
theorem call_strI {CX : CXT} {C f : Addr} {fd : FuncData} {ps : List Str} {sp : Sp} {E : XK} (F : FnOk X.prog X.w X.K X.mg X.base CX n f fd ps sp) (hr : Room (n + 2) X.A)
    (hs : PySem.W.findIn X.K (.ref C) "__str__" = some (some (.ref f))) (hf : PySem.W.isFn X.K (.ref f) = true) (hb : Binds X.K fd ps []) (hx : Passes CX X E) : CallR X (.type "str") (rStrI C sp E) := by
  intro pins s σ H xs us Q I r h
  obtain ⟨a, dx, fs, rfl, ha, hsp⟩ := h
  obtain ⟨u, rfl, rx⟩ := vals1 r
  cases rx
  obtain ⟨mA, J, _⟩ := ins_get I.hok ha
  obtain ⟨od, J, _⟩ := J.look
  have s1 : Sub X (n + 1) X.A.in1 := Sub.in1 ⟨hr, rfl⟩
  have s2 : Sub X n X.A.in1.in1 := s1.in1
  refine PySem.W.kso_call s2.room.units0 I.kIn J hs hf ?_
  have e0 : Env0 X.prog X.w X.K X.mg X.base X.A.in1.in1 X.stack s H := by
    have e := I.env0
    exact ⟨by rw [s2.fr]; exact e.frames, e.mod, e.bs, e.bsz, e.funs, e.frf, e.hok, e.bare⟩
  have hl := F.len _ _ _ _ hsp
  have r2 : Vals [V.ref a] [Value.ref a] := .cons rfl .nil
  refine wpAny_call (codeAny_mono (F.run X.A.in1.in1 X.stack s H ⟨[.ref a], []⟩ [.ref a] [.ref a] _ E s2.room e0 (by
    have := hb s [.ref a] I.kIn (by simpa using hl)
    simpa using this) r2 hsp) fun r s' hq => ?_)
  cases r with
  | error e => exact hx pins σ H s e s' I hq
  | ok fl =>
    cases fl with
    | ret w =>
      obtain ⟨v, H', I', rz, z, ez, q⟩ := I.after hq
      subst ez
      obtain ⟨tk, rfl⟩ := rz
      exact ⟨.str z, H', I', ⟨tk, rfl⟩, q⟩
    | next => exact False.elim hq
    | brk => exact False.elim hq
    | cont => exact False.elim hq
end
end L2
namespace L2
open PySem PySem.Spec PyProof.Rows ClX
/-- a classmethod -/
structure Dk (K : PySem.W.Frag) (C : Addr) (x qual : Str) (st : Stmt) (ps : List Str) where
  f : Addr
  fd : FuncData
  F : Fun K x qual st f fd
  p : Addr
  R : CRead K C (.type "type")
  M : CMet K C (.type "type") x p f
  b : Binds K fd ps []
end L2
set_option autoImplicit false
namespace DL
open PySem PySem.Spec PyProof.Rows L2
theorem dat_ins {K : PySem.W.Frag} {M : Addr → Prop} {H : Hp} {v : V} {C : Addr} {ns : List Str} {es : List D} (h : Dat K M H v (.ins C ns es)) : ∃ a dx fs, v = .ref a ∧ ¬ M a ∧ H a = some (.ins C dx fs) ∧ fs.map (·.1) = ns ∧ DatAll K M H (fs.map (·.2)) es := by
  cases h with
  | ins n h q a => exact ⟨_, _, _, rfl, n, h, q, a⟩
theorem look_none {α : Type} {f : Str} : ∀ {fs : List (Str × α)}, (fs.map (·.1)).contains f = false → fs.lookup f = none
  | [], _ => rfl
  | (g, x) :: r, h => by
    rw [List.map_cons, List.contains_cons, Bool.or_eq_false_iff] at h
    rw [List.lookup, h.1]
    exact look_none h.2
def lookD : List Str → List D → Str → Option D
  | n :: ns, d :: ds, f => if f = n then some d else lookD ns ds f
  | _, _, _ => none
theorem lookD_at {K : PySem.W.Frag} {M : Addr → Prop} {H : Hp} {f : Str} {d : D} : ∀ {fs : List (Str × V)} {ds : List D}, DatAll K M H (fs.map (·.2)) ds → lookD (fs.map (·.1)) ds f = some d → ∃ v, fs.lookup f = some v ∧ Dat K M H v d
  | [], _, _, h => by cases h
  | (n, x) :: r, [], h, e => by cases h
  | (n, x) :: r, d0 :: ds, .cons h1 h2, e => by
    rw [List.map_cons] at e
    unfold lookD at e
    by_cases z : f = n
    · rw [if_pos z] at e
      cases e
      exact ⟨x, by simp [List.lookup, z], h1⟩
    · rw [if_neg z] at e
      obtain ⟨v, hv, dv⟩ := lookD_at h2 e
      exact ⟨v, by rw [List.lookup, beq_eq_false_iff_ne.mpr z]; exact hv, dv⟩
/-- x is an instance of the class at C without an attribute of this name -/
def isObj (C : Addr) (m : Str) : D → Bool
  | .ins B ns _ => B == C && !(ns.contains m)
  | _ => false
theorem isObj_of {C : Addr} {m : Str} {x : D} (h : isObj C m x = true) : ∃ ns es, x = .ins C ns es ∧ ns.contains m = false := by
  unfold isObj at h
  split at h
  · rename_i B ns es
    rw [Bool.and_eq_true] at h
    obtain ⟨h1, h2⟩ := h
    have := beq_iff_eq.mp h1
    subst this
    exact ⟨ns, es, rfl, by simpa using h2⟩
  · cases h
/-- what a call with defaults is given -/
def plus (F : List D → Option D) (dds : List D) (ds : List D) : Option D := F (ds ++ dds)
/-- how many values a def takes -/
def Takes (m : Nat) (F : List D → Option D) : Prop := ∀ ds d, F ds = some d → ds.length = m
def TakesO (m : Nat) (F : D → List D → Option (D × D)) : Prop := ∀ d0 ds r, F d0 ds = some r → ds.length + 1 = m
theorem takesF {m n : Nat} {b : Mo Fl} : Takes m (runF m n b) := fun ds d h => by
  unfold runF at h
  split at h
  · assumption
  · cases h
theorem takesN {m n : Nat} {b : Mo Fl} : Takes m (runN m n b) := fun ds d h => by
  unfold runN at h
  split at h
  · assumption
  · cases h
theorem takesO {m n : Nat} {b : Mo Fl} : TakesO m (runO m n b) := fun d0 ds d h => by
  unfold runO at h
  split at h
  · assumption
  · cases h
section
variable {K : PySem.W.Frag} {c : Ctx K} {ta : TE} {ma : Mo D} {tl tk : TA} {ml mk : Mo (List D)} {m : Nat} {F : List D → Option D} {FO : D → List D → Option (D × D)} {dvs : List V} {dds : List D}
theorem r_call (hF : Takes m F) (h : RAv c tl ml) : REv c (tCall (spF K m F) [] E0 tl) (mFn F ml) := by
  intro M σ H ρ S d ρ' hm Q q
  obtain ⟨xs, ρ1, h1, hm⟩ := mBd_some hm
  obtain ⟨hg, rfl⟩ := mL_some hm
  exact h M σ H ρ S xs _ h1 _ fun M1 vs H1 E1 S1 d1 => ⟨M1, xs, d, S1.kind, by rw [List.append_nil]; exact d1, hF _ _ hg, hg, fun u H' s h => q M1 u H' (E1.trans (.same s) S.kind) (S1.same s) h⟩
theorem r_callN (hF : Takes m F) (h : RAv c tl ml) : RNw c (tCall (spN K m F) [] E0 tl) (mFn F ml) := by
  intro M σ H ρ S d ρ' hm Q q
  obtain ⟨xs, ρ1, h1, hm⟩ := mBd_some hm
  obtain ⟨hg, rfl⟩ := mL_some hm
  exact h M σ H ρ S xs _ h1 _ fun M1 vs H1 E1 S1 d1 => ⟨M1, xs, d, S1.kind, by rw [List.append_nil]; exact d1, hF _ _ hg, hg, fun a H' o n s ho h => by
    obtain ⟨E2, S2, nh⟩ := S1.hold n s ho h.mut
    exact q _ a H' (E1.dm a n) (E1.trans E2 S.kind) S2 ⟨.inr rfl, nh, (S1.free0 n).1, (S1.free0 n).2, o, ho, h⟩⟩
/-- f(x, ..), x the name in slot i, which f may change -/
def mCallO (F : D → List D → Option (D × D)) (i : Nat) (a : Mo (List D)) : Mo D := fun ρ => if owns i ρ = true then mBd a (fun ds ρ1 => match ρ1[i]? with
  | some (.own p d0) => (match F d0 ds with
    | some (r, d1) => some (r, ρ1.set i (.own p d1))
    | none => none)
  | _ => none) ρ else none
theorem r_callO {i : Nat} (hF : TakesO m FO) (h : RAv c tl ml) : REv c (tCall (spO K m FO) [] E0 (tCons (tVar i) tl)) (mCallO FO i ml) := by
  intro M σ H ρ S d ρ' hm Q q
  unfold mCallO at hm
  split at hm
  case isFalse => cases hm
  rename_i hw
  obtain ⟨p0, d0, e0⟩ := owns_some hw
  obtain ⟨a, ha, _⟩ := S.own e0
  obtain ⟨xs, ρ1, h1, h2⟩ := mBd_some hm
  split at h2
  · rename_i p d2 e1
    split at h2
    · rename_i r d1 hF2
      cases h2
      refine ⟨_, ha, h M σ H ρ S xs ρ1 h1 _ fun M1 vs H1 E1 S1 dd => ?_⟩
      obtain ⟨a', ha', hM, _, ho⟩ := S1.own e1
      rw [ha] at ha'; cases ha'
      refine ⟨M1, _, d2, vs ++ [], xs, d, d1, rfl, S1.kind, hM, ho, by rw [List.append_nil]; exact dd, hF _ _ _ hF2, hF2, fun u H' hb hn hu => ?_⟩
      have E2 := S1.mutE ha e1 hb hn
      exact q M1 u H' (E1.trans E2.1 S.kind) E2.2 hu
    · cases h2
  · cases h2
/-- an object that no slot holds is changed -/
theorem Sta.putO {M : Addr → Prop} {σ : L2.St} {H H' : Hp} {ρ : Cs} {a : Addr} {d d' : D} (S : Sta c M σ H ρ) (n : Nw c M σ H ρ a d) (ho : ∀ b o, b ≠ a → H b = some o → H' b = some o) (hn : Own K M H' a d') : Ev M H M H' ∧ Sta c M σ H' ρ := by
  have hM := n.m
  have E : Ev M H M H' := ⟨fun b h => .inl h, fun b u nb h => ho b u (fun z => nb (by rw [z]; exact hM)) h⟩
  refine ⟨E, S.pm, S.sub, S.new, fun b hb => ?_, fun b u nb h => ?_, S.len, fun i x y h1 h2 => ?_, S.inj⟩
  · by_cases z : b = a
    · subst z
      obtain ⟨o, q, w⟩ := hn
      exact ⟨o, q, w.mut⟩
    · obtain ⟨u, q, w⟩ := S.kind b hb
      exact ⟨u, ho b u z q, w⟩
  · exact ho b u (fun z => by rw [z, n.h0] at h; cases h) (S.base b u nb h)
  · cases S.cell i x y h1 h2 with
    | no => exact .no _
    | dat q => exact .dat (q.ev S.kind E)
    | own m' q w =>
      rename_i p' a' d''
      have ne : a' ≠ a := fun z => n.nh ⟨i, p', d'', by rw [← z]; exact h1, h2⟩
      exact .own m' q (w.elim fun u r => ⟨u, ho _ _ ne r.1, r.2.ev S.kind E⟩)
/-- f(e, ..), e's value a new object -/
def mCallNew (F : D → List D → Option (D × D)) (e : Mo D) (a : Mo (List D)) : Mo D := mBd e fun d0 => mBd a fun ds => mL ((F d0 ds).map (·.1))
theorem r_callNew (hF : TakesO m FO) (he : RNw c ta ma) (h : RAv c tl ml) : REv c (tCall (spO K m FO) [] E0 (tCons ta tl)) (mCallNew FO ma ml) := by
  intro M σ H ρ S d ρ' hm Q q
  obtain ⟨d0, ρ1, h1, hm1⟩ := mBd_some hm
  obtain ⟨xs, ρ2, h2, hm2⟩ := mBd_some hm1
  obtain ⟨hg, e3⟩ := mL_some hm2
  subst e3
  obtain ⟨⟨r, d1⟩, hF2, er⟩ := map_some hg
  cases er
  refine he M σ H ρ S d0 ρ1 h1 _ fun M1 a H1 hf E1 S1 n1 => h M1 σ H1 ρ1 S1 xs _ h2 _ fun M2 vs H2 E2 S2 dd => ?_
  have n2 := n1.es S1.kind E2
  refine ⟨M2, a, d0, vs ++ [], xs, r, d1, rfl, S2.kind, n2.m, n2.o, by rw [List.append_nil]; exact dd, hF _ _ _ hF2, hF2, fun u H' hb hn hu => ?_⟩
  have E12 := E1.trans E2 S.kind
  obtain ⟨E3, S3⟩ := S2.putO n2 hb hn
  refine q M2 u H' ⟨E12.ev.trans E3, fun b o nb hbo => hb b o (fun z => by rw [z, hf] at hbo; cases hbo) (E12.kp b o nb hbo), E12.hs, E12.mc, fun b hb' => E12.dm b ?_⟩ S3 hu
  cases z : H2 b with
  | none => rfl
  | some o =>
    by_cases w : b = a
    · subst w
      obtain ⟨o', ho', _⟩ := hn
      rw [ho'] at hb'; cases hb'
    · rw [hb b o w z] at hb'; cases hb'
/-- o.m(..) -/
def mMeth (C : Addr) (nm : Str) (F : List D → Option D) (o : Mo D) (a : Mo (List D)) : Mo D := mBd o fun x => if isObj C nm x = true then mBd a fun ds => mL (F (x :: ds)) else fun _ => none
theorem r_meth {C : Addr} {nm : Str} (hF : Takes m F) (hd : ∀ M H, DatAll K M H dvs dds) (ho : REv c ta ma) (h : RAv c tl ml) : REv c (tMeth C nm (spF K m F) dvs E0 ta tl) (mMeth C nm (plus F dds) ma ml) := by
  intro M σ H ρ S d ρ' hm Q q
  obtain ⟨x, ρ1, h1, hm1⟩ := mBd_some hm
  split at hm1
  case isFalse => cases hm1
  rename_i hx
  obtain ⟨ns, es, rfl, hc⟩ := isObj_of hx
  obtain ⟨xs, ρ2, h2, hm2⟩ := mBd_some hm1
  obtain ⟨hg, e3⟩ := mL_some hm2
  subst e3
  refine ho M σ H ρ S _ ρ1 h1 _ fun M1 v H1 E1 S1 dx => ?_
  obtain ⟨a, dx', fs, rfl, nM, hH, hns, hes⟩ := dat_ins dx
  subst hns
  refine ⟨a, dx', fs, rfl, hH, look_none hc, h M1 σ H1 ρ1 S1 xs _ h2 _ fun M2 vs H2 E2 S2 dd => ?_⟩
  exact ⟨M2, _, d, S2.kind, .cons (dx.ev S1.kind E2.ev) (dd.append (hd _ _)), hF _ _ hg, hg, fun u H' s hu => q M2 u H' ((E1.trans E2 S.kind).trans (.same s) S.kind) (S2.same s) hu⟩
/-- o.p, a property -/
def isIns (C : Addr) : D → Bool
  | .ins B _ _ => B == C
  | _ => false
theorem isIns_of {C : Addr} {x : D} (h : isIns C x = true) : ∃ ns es, x = .ins C ns es := by
  unfold isIns at h
  split at h
  · rename_i B ns es
    have := beq_iff_eq.mp h
    subst this
    exact ⟨ns, es, rfl⟩
  · cases h
def mProp (C : Addr) (F : List D → Option D) (o : Mo D) : Mo D := mBd o fun x => if isIns C x = true then mL (F [x]) else fun _ => none
theorem r_prop {C : Addr} (hF : Takes m F) (ho : REv c ta ma) : REv c (tProp C (spF K m F) [] E0 ta) (mProp C F ma) := by
  intro M σ H ρ S d ρ' hm Q q
  obtain ⟨x, ρ1, h1, hm1⟩ := mBd_some hm
  split at hm1
  case isFalse => cases hm1
  rename_i hx
  obtain ⟨ns, es, rfl⟩ := isIns_of hx
  obtain ⟨hg, e3⟩ := mL_some hm1
  subst e3
  refine ho M σ H ρ S _ _ h1 _ fun M1 v H1 E1 S1 dx => ?_
  obtain ⟨a, dx', fs, rfl, nM, hH, hns, hes⟩ := dat_ins dx
  exact ⟨a, dx', fs, rfl, hH, M1, _, d, S1.kind, .cons dx .nil, hF _ _ hg, hg, fun u H' s hu => q M1 u H' (E1.trans (.same s) S.kind) (S1.same s) hu⟩
/-- o.f, an attribute -/
def mFld (C : Addr) (f : Str) (o : Mo D) : Mo D := mBd o fun x => match x with
  | .ins B ns es => if B = C then mL (lookD ns es f) else fun _ => none
  | _ => fun _ => none
theorem r_fld {C : Addr} {f : Str} (hC : Cls K C) (hn : NoAttr K C f) (ho : REv c ta ma) : REv c (tFld K ta f) (mFld C f ma) := by
  intro M σ H ρ S d ρ' hm Q q
  obtain ⟨x, ρ1, h1, hm1⟩ := mBd_some hm
  split at hm1
  · rename_i B ns es
    split at hm1
    · rename_i e
      subst e
      obtain ⟨hg, e3⟩ := mL_some hm1
      subst e3
      refine ho M σ H ρ S _ _ h1 _ fun M1 v H1 E1 S1 dx => ?_
      obtain ⟨a, dx', fs, rfl, nM, hH, hns, hes⟩ := dat_ins dx
      subst hns
      obtain ⟨w, hw, dw⟩ := lookD_at hes hg
      exact ⟨a, _, dx', fs, w, rfl, hH, hC, hn, hw, q M1 w H1 E1 S1 dw⟩
    · cases hm1
  · cases hm1
/-- o.f = e, o the name in slot i -/
def putN (f : Str) : List Str → List Str
  | [] => [f]
  | g :: r => if g = f then g :: r else g :: putN f r
def putD (f : Str) (d : D) : List Str → List D → List D
  | g :: r, x :: s => if g = f then d :: s else x :: putD f d r s
  | _, _ => [d]
theorem putF_at {K : PySem.W.Frag} {M : Addr → Prop} {H : Hp} {f : Str} {v : V} {d : D} (hv : Dat K M H v d) : ∀ {fs : List (Str × V)} {ds : List D}, DatAll K M H (fs.map (·.2)) ds → (putF f v fs).map (·.1) = putN f (fs.map (·.1)) ∧ DatAll K M H ((putF f v fs).map (·.2)) (putD f d (fs.map (·.1)) ds)
  | [], _, h => by
    cases h
    exact ⟨rfl, .cons hv .nil⟩
  | (g, x) :: r, _, h => by
    cases h with
    | cons h1 h2 =>
      by_cases z : g = f
      · subst z
        simp only [putF, putN, putD, List.map_cons, if_pos trivial, if_true]
        exact ⟨trivial, .cons hv h2⟩
      · obtain ⟨a, b⟩ := putF_at hv h2
        simp only [putF, putN, putD, List.map_cons, if_neg z]
        exact ⟨by rw [a], .cons h1 b⟩
def sFldV (C : Addr) (i : Nat) (f : Str) (e : Mo D) : Mo Fl := mBd e fun d ρ => match ρ[i]? with
  | some (.own p (.ins B ns es)) => if B = C ∧ es.length < 1000 then some (.nx, ρ.set i (.own p (.ins B (putN f ns) (putD f d ns es)))) else none
  | _ => none
theorem r_sfld {C : Addr} {i : Nat} {f : Str} (hC : Cls K C) (hn : NoAttr K C f) (he : REv c ta ma) : RSt c (sFld K (tVar i) ta f) (sFldV C i f ma) := by
  intro M σ H ρ S fl ρ' hm D q
  obtain ⟨d, ρ1, h1, h2⟩ := mBd_some hm
  split at h2
  · rename_i p B ns es e1
    obtain ⟨⟨rfl, hl⟩, e2⟩ := if_some h2
    cases e2
    refine he M σ H ρ S d ρ1 h1 _ fun M1 v H1 E1 S1 dv => ?_
    obtain ⟨a, ha, hM, _, o, ho, hc⟩ := S1.own e1
    cases hc with
    | ins hns hes =>
      rename_i dx fs
      subst hns
      refine ⟨_, ha, a, _, dx, fs, rfl, ho, hC, hn, by have := hes.length; rw [List.length_map] at this; omega, ?_⟩
      have ev2 : Ev M1 H1 M1 (upd H1 a (.ins B dx (putF f v fs))) := ⟨fun b h => .inl h, fun b o nb h => by rw [upd_ne (fun z => nb (by rw [z]; exact hM))]; exact h⟩
      obtain ⟨p1, p2⟩ := putF_at (f := f) dv hes
      have E2 := S1.mut (d' := .ins B (putN f (fs.map (·.1))) (putD f d (fs.map (·.1)) es)) (H' := upd H1 a (.ins B dx (putF f v fs))) ha e1 (fun b o nb h => by rw [upd_ne nb]; exact h) ⟨_, upd_same, .ins p1 (p2.ev S1.kind ev2)⟩
      exact q M1 σ _ (E1.ev.trans E2.1) E2.2
  · cases h2
/-- C(..) -/
def mMake (C : Addr) (F : D → List D → Option (D × D)) (dds : List D) (a : Mo (List D)) : Mo D := mBd a fun ds => mL (match F (.ins C [] []) (ds ++ dds) with
  | some (.non, d1) => some d1
  | _ => none)
theorem r_make {C : Addr} (hF : TakesO m FO) (hd : ∀ M H, DatAll K M H dvs dds) (h : RAv c tl ml) : RNw c (tMake C (spO K m FO) dvs E0 tl) (mMake C FO dds ml) := by
  intro M σ H ρ S d ρ' hm Q q
  obtain ⟨xs, ρ1, h1, hm1⟩ := mBd_some hm
  obtain ⟨hg, e3⟩ := mL_some hm1
  subst e3
  split at hg
  case h_2 => cases hg
  rename_i d1 hF2
  cases hg
  refine h M σ H ρ S xs _ h1 _ fun M1 vs H1 E1 S1 dd => fun x dx hx hdx ne => ?_
  have s1 : Same H1 (upd (upd H1 dx (.own x)) x (.ins C dx [])) := (same_new hdx).new (by rw [upd_ne (Ne.symm ne)]; exact hx)
  obtain ⟨E2, S2, n2⟩ := S1.nw (o := .ins C dx []) (d := .ins C [] []) hx s1 upd_same (.ins rfl .nil)
  refine ⟨_, x, .ins C [] [], vs ++ dvs, xs ++ dds, .non, d, rfl, S2.kind, n2.m, n2.o, (dd.ev S1.kind E2.ev).append (hd _ _), hF _ _ _ hF2, hF2, fun u H' hb hn hu => ⟨by cases hu; rfl, ?_⟩⟩
  obtain ⟨E3, S3⟩ := S2.putO n2 hb hn
  have E12 := E1.trans E2 S.kind
  refine q _ x H' (E1.dm x hx) ⟨E12.ev.trans E3, fun b o nb hbo => hb b o (fun z => by rw [z, E1.dm x hx] at hbo; cases hbo) (E12.kp b o nb hbo), E12.hs, E12.mc, fun b hb' => E12.dm b ?_⟩ S3 ⟨n2.m, n2.nh, n2.h0, n2.n0, hn⟩
  cases z : upd (upd H1 dx (.own x)) x (.ins C dx []) b with
  | none => rfl
  | some o =>
    by_cases w : b = x
    · subst w
      obtain ⟨o', ho', _⟩ := hn
      rw [ho'] at hb'; cases hb'
    · rw [hb b o w z] at hb'; cases hb'
end
end DL
set_option autoImplicit false
namespace DL
open PySem PySem.Spec PyProof.Rows L2
def pick {α : Type} : List Nat → List α → List α
  | [], _ => []
  | i :: is, l => match l[i]? with
    | some a => a :: pick is l
    | none => pick is l
def mKw (is : List Nat) (n nk : Nat) (F : List D → Option D) (a k : Mo (List D)) : Mo D := mBd a fun xs => mBd k fun ys => if xs.length = n ∧ ys.length = nk then mL (F (pick is (xs ++ ys))) else fun _ => none
end DL
set_option autoImplicit false
namespace DL
open PySem PySem.Spec PyProof.Rows L2
section
variable {X : Cx} {K : PySem.W.Frag} {c : Ctx K} {k m n : Nat} {f C g : Addr} {fd : FuncData} {ps ks : List Str} {dvs : List V} {vds : List Value} {dds : List D} {F : List D → Option D} {FO : D → List D → Option (D × D)} {is : List Nat}
  {x y nm : Str} {p p2 pos apos kpos : Pos} {e o : Expr} {es : List Expr} {kws : List Keyword} {ta te : TE} {ma me : Mo D} {tl tk : TA} {ml mk : Mo (List D)}
theorem d_call (G : FnOk X.prog X.w X.K X.mg X.base CX0 k f fd ps (spF X.K m F)) (hF : Takes m F) (hr : Room k X.A) (hm : X.mg x = some (.ref f)) (hk : PySem.W.keepIn X.K (.ref f) = true) (hb : Binds X.K fd ps []) (ha : DA X c (e :: es) tl ml)
    (hg : Gl X x := by rfl) (hdb : (x == ("__debug__" : Str)) = false := by decide) (he : starEach (e :: es) X.env = (false, eval e X.env) :: starEach es X.env := by rfl) (hpl : (backTo pos (starEach es X.env)).any (·.1) = false := by rfl) (hK : X.K = K := by rfl) :
    DE X c (.Call (.Name x p) (e :: es) [] pos) (tCall (spF K m F) [] E0 tl) (mFn F ml) := ⟨by rw [← hK]; exact pe_call G hr hg hm hk hb .nil pass0 ha.p hdb he hpl, r_call hF ha.r⟩
theorem d_callN (G : FnOk X.prog X.w X.K X.mg X.base CX0 k f fd ps (spN X.K m F)) (hF : Takes m F) (hr : Room k X.A) (hm : X.mg x = some (.ref f)) (hk : PySem.W.keepIn X.K (.ref f) = true) (hb : Binds X.K fd ps []) (ha : DA X c (e :: es) tl ml)
    (hg : Gl X x := by rfl) (hdb : (x == ("__debug__" : Str)) = false := by decide) (he : starEach (e :: es) X.env = (false, eval e X.env) :: starEach es X.env := by rfl) (hpl : (backTo pos (starEach es X.env)).any (·.1) = false := by rfl) (hK : X.K = K := by rfl) :
    DN X c (.Call (.Name x p) (e :: es) [] pos) (tCall (spN K m F) [] E0 tl) (mFn F ml) := ⟨by rw [← hK]; exact pe_call G hr hg hm hk hb .nil pass0 ha.p hdb he hpl, r_callN hF ha.r⟩
theorem d_callO (i : Nat) (G : FnOk X.prog X.w X.K X.mg X.base CX0 k f fd ps (spO X.K m FO)) (hF : TakesO m FO) (hr : Room k X.A) (hm : X.mg x = some (.ref f)) (hk : PySem.W.keepIn X.K (.ref f) = true) (hb : Binds X.K fd ps []) (ha : DA X c es tl ml)
    (hN : X.N[i]? = some y := by rfl) (hv : Vis X.env.scope y := by first | exact Or.inl rfl | exact Or.inr (Or.inl rfl) | exact Or.inr (Or.inr rfl)) (hd : (y == ("__debug__" : Str)) = false := by decide) (hcd : (y == ("__classdict__" : Str)) = false := by decide)
    (hg : Gl X x := by rfl) (hdb : (x == ("__debug__" : Str)) = false := by decide) (he : starEach (.Name y p2 :: es) X.env = (false, eval (.Name y p2) X.env) :: starEach es X.env := by rfl) (hpl : (backTo pos (starEach es X.env)).any (·.1) = false := by rfl) (hK : X.K = K := by rfl) :
    DE X c (.Call (.Name x p) (.Name y p2 :: es) [] pos) (tCall (spO K m FO) [] E0 (tCons (tVar i) tl)) (mCallO FO i ml) := ⟨by rw [← hK]; exact pe_call G hr hg hm hk hb .nil pass0 (pa_cons (pv i hN hv hd hcd) ha.p he) hdb he hpl, r_callO hF ha.r⟩
theorem d_gcallNew (hgd : X.A.guards = some []) (G : FnG X.prog X.w X.K X.mg X.base CX0 k f fd ps (spO X.K m FO)) (hF : TakesO m FO) (hr : Room k X.A) (hm : X.mg x = some (.ref f)) (hk : PySem.W.keepIn X.K (.ref f) = true) (hb : Binds X.K fd ps []) (h0 : DN X c e te me) (ha : DA X c es tl ml)
    (hg : Gl X x := by rfl) (hdb : (x == ("__debug__" : Str)) = false := by decide) (he : starEach (e :: es) X.env = (false, eval e X.env) :: starEach es X.env := by rfl) (hpl : (backTo pos (starEach es X.env)).any (·.1) = false := by rfl) (hK : X.K = K := by rfl) :
    DE X c (.Call (.Name x p) (e :: es) [] pos) (tCall (spO K m FO) [] E0 (tCons te tl)) (mCallNew FO me ml) := ⟨by rw [← hK]; exact L2.pe_callG hgd G hr hg hm hk hb .nil pass0 (pa_cons h0.p ha.p he) hdb he hpl, r_callNew hF h0.r ha.r⟩
theorem d_meth {pl : Sem Bool} (ho : DE X c o ta ma) (hC : Cls X.K C) (hm : Meth X.K C nm f) (G : FnOk X.prog X.w X.K X.mg X.base CX0 k f fd ps (spF X.K m F)) (hF : Takes m F) (hr : Room k X.A) (hb : Binds X.K fd ps vds) (hv : Vals dvs vds) (hd : ∀ M H, DatAll K M H dvs dds) (ha : DA X c (e :: es) tl ml)
    (hst : starEach (e :: es) X.env = (false, eval e X.env) :: starEach es X.env := by rfl) (hpl : (backTo pos (starEach es X.env)).any (·.1) = false := by rfl)
    (ht : eval (.Call (.Attribute o nm apos) (e :: es) [] pos) X.env = (do
      let ov ← eval o X.env
      standAt apos.atName
      let (f, first) ← holding [ov] (getMethod ov nm pl)
      callWith pos f first (backTo pos (starEach (e :: es) X.env)) (backToKw pos (keywordEach [] X.env))) := by rfl) (hK : X.K = K := by rfl) :
    DE X c (.Call (.Attribute o nm apos) (e :: es) [] pos) (tMeth C nm (spF K m F) dvs E0 ta tl) (mMeth C nm (plus F dds) ma ml) := ⟨by rw [← hK]; exact pe_meth ho.p hC hm G hr hb hv pass0 ha.p hst hpl ht, r_meth hF hd ho.r ha.r⟩
theorem d_prop (ho : DE X c o ta ma) (hC : Cls X.K C) (hp : PropOf X.K C nm g f) (G : FnOk X.prog X.w X.K X.mg X.base CX0 k f fd ps (spF X.K m F)) (hF : Takes m F) (hr : Room (k + 1) X.A) (hb : Binds X.K fd ps []) (hab : attributeBase o nm X.env (eval o X.env) = eval o X.env := by rfl) (hK : X.K = K := by rfl) :
    DE X c (.Attribute o nm pos) (tProp C (spF K m F) [] E0 ta) (mProp C F ma) := ⟨by rw [← hK]; exact pe_prop ho.p hC hp G hr hb .nil pass0 hab, r_prop hF ho.r⟩
theorem d_fld (ho : DE X c o ta ma) (hC : Cls X.K C) (hn : NoAttr X.K C nm) (hab : attributeBase o nm X.env (eval o X.env) = eval o X.env := by rfl) (hK : X.K = K := by rfl) : DE X c (.Attribute o nm pos) (tFld K ta nm) (mFld C nm ma) := ⟨by rw [← hK]; exact pe_fld ho.p hab, r_fld (by rw [← hK]; exact hC) (by rw [← hK]; exact hn) ho.r⟩
theorem s_fld {v : Expr} {pos' : Pos} (i : Nat) (hC : Cls X.K C) (hn : NoAttr X.K C nm) (he : DE X c v te me) (hs : swapsWith v (some (.Attribute (.Name y p) nm pos')) pos.line X.env = pure false := by rfl)
    (hN : X.N[i]? = some y := by rfl) (hv : Vis X.env.scope y := by first | exact Or.inl rfl | exact Or.inr (Or.inl rfl) | exact Or.inr (Or.inr rfl)) (hd : (y == ("__debug__" : Str)) = false := by decide) (hcd : (y == ("__classdict__" : Str)) = false := by decide) (hK : X.K = K := by rfl) :
    DS X c (.Assign [.Attribute (.Name y p) nm pos'] v pos) (sFld K (tVar i) te nm) (sFldV C i nm me) := ⟨by rw [← hK]; exact ps_fld (pv i hN hv hd hcd) he.p hs, r_sfld (by rw [← hK]; exact hC) (by rw [← hK]; exact hn) he.r⟩
theorem d_make (M : Mk X.K C f) (G : FnOk X.prog X.w X.K X.mg X.base CX0 k f fd ps (spO X.K m FO)) (hF : TakesO m FO) (hr : Room (k + 1) X.A) (hm : X.mg x = some (.ref C)) (hb : Binds X.K fd ps vds) (hv : Vals dvs vds) (hd : ∀ M H, DatAll K M H dvs dds) (ha : DA X c (e :: es) tl ml)
    (hg : Gl X x := by rfl) (hdb : (x == ("__debug__" : Str)) = false := by decide) (he : starEach (e :: es) X.env = (false, eval e X.env) :: starEach es X.env := by rfl) (hpl : (backTo pos (starEach es X.env)).any (·.1) = false := by rfl) (hK : X.K = K := by rfl) :
    DN X c (.Call (.Name x p) (e :: es) [] pos) (tMake C (spO K m FO) dvs E0 tl) (mMake C FO dds ml) := ⟨by rw [← hK]; exact pe_make M G hr hg hm hb hv pass0 ha.p hdb he hpl, r_make hF hd ha.r⟩
/-- C(..), C held by the name in slot i -/
theorem r_makeL {i : Nat} (hF : TakesO m FO) (hd : ∀ M H, DatAll K M H dvs dds) (h : RAv c tl ml) : RNw c (tMakeL i C (spO K m FO) dvs E0 tl) (fun ρ => match ρ[i]? with
    | some (.dat (.cls B)) => if B = C then mMake C FO dds ml ρ else none
    | _ => none) := by
  intro M σ H ρ S d ρ' hm Q q
  simp only at hm
  split at hm
  · rename_i B e1
    split at hm
    · rename_i e
      subst e
      obtain ⟨v, hv, dv⟩ := S.dat e1
      cases dv
      exact ⟨hv, r_make hF hd h M σ H ρ S d ρ' hm Q q⟩
    · cases hm
  · cases hm
def mMakeL (i : Nat) (C : Addr) (FO : D → List D → Option (D × D)) (dds : List D) (ml : Mo (List D)) : Mo D := fun ρ => match ρ[i]? with
  | some (.dat (.cls B)) => if B = C then mMake C FO dds ml ρ else none
  | _ => none
theorem d_makeL (i : Nat) (M : Mk X.K C f) (G : FnOk X.prog X.w X.K X.mg X.base CX0 k f fd ps (spO X.K m FO)) (hF : TakesO m FO) (hr : Room (k + 1) X.A) (hb : Binds X.K fd ps vds) (hv : Vals dvs vds) (hd : ∀ M H, DatAll K M H dvs dds) (ha : DA X c (e :: es) tl ml)
    (hN : X.N[i]? = some x := by rfl) (hvs : Vis X.env.scope x := by first | exact Or.inl rfl | exact Or.inr (Or.inl rfl) | exact Or.inr (Or.inr rfl)) (hdb : (x == ("__debug__" : Str)) = false := by decide) (hcd : (x == ("__classdict__" : Str)) = false := by decide)
    (he : starEach (e :: es) X.env = (false, eval e X.env) :: starEach es X.env := by rfl) (hpl : (backTo pos (starEach es X.env)).any (·.1) = false := by rfl) (hK : X.K = K := by rfl) : DN X c (.Call (.Name x p) (e :: es) [] pos) (tMakeL i C (spO K m FO) dvs E0 tl) (mMakeL i C FO dds ml) := ⟨by rw [← hK]; exact pe_makeL M G hr hb hv pass0 ha.p hN hvs hdb hcd he hpl, r_makeL hF hd ha.r⟩
/-- C.m(..), m a classmethod -/
def mCMeth (C : Addr) (F : List D → Option D) (o : Mo D) (a : Mo (List D)) : Mo D := mBd o fun x => match x with
  | .cls B => if B = C then mBd a fun ds => mL (F (.cls C :: ds)) else fun _ => none
  | _ => fun _ => none
theorem r_cmeth (hF : Takes m F) (ho : REv c ta ma) (h : RAv c tl ml) : REv c (ClX.tCMeth C (fun vs H Q E => spF K m F (vs ++ []) H Q E) E0 ta tl) (mCMeth C F ma ml) := by
  intro M σ H ρ S d ρ' hm Q q
  obtain ⟨x, ρ1, h1, hm1⟩ := mBd_some hm
  split at hm1
  · rename_i B
    split at hm1
    · rename_i e
      subst e
      obtain ⟨xs, ρ2, h2, hm2⟩ := mBd_some hm1
      obtain ⟨hg, e3⟩ := mL_some hm2
      subst e3
      refine ho M σ H ρ S _ ρ1 h1 _ fun M1 v H1 E1 S1 dx => ?_
      cases dx
      refine ⟨rfl, h M1 σ H1 ρ1 S1 xs _ h2 _ fun M2 vs H2 E2 S2 dd => ?_⟩
      exact ⟨M2, _, d, S2.kind, by rw [List.append_nil]; exact .cons (.cls _) dd, hF _ _ hg, hg, fun u H' s hu => q M2 u H' ((E1.trans E2 S.kind).trans (.same s) S.kind) (S2.same s) hu⟩
    · cases hm1
  · cases hm1
theorem d_cmeth {pl : Sem Bool} {mc : Value} {q : Addr} (ho : DE X c o ta ma) (r : ClX.CRead X.K C mc) (cm : ClX.CMet X.K C mc nm q f) (G : FnOk X.prog X.w X.K X.mg X.base CX0 k f fd ps (spF X.K m F)) (hF : Takes m F) (hr : Room k X.A) (hb : Binds X.K fd ps []) (ha : DA X c (e :: es) tl ml)
    (hst : starEach (e :: es) X.env = (false, eval e X.env) :: starEach es X.env := by rfl) (hpl : (backTo pos (starEach es X.env)).any (·.1) = false := by rfl)
    (ht : eval (.Call (.Attribute o nm apos) (e :: es) [] pos) X.env = (do
      let ov ← eval o X.env
      standAt apos.atName
      let (f, first) ← holding [ov] (getMethod ov nm pl)
      callWith pos f first (backTo pos (starEach (e :: es) X.env)) (backToKw pos (keywordEach [] X.env))) := by rfl) (hK : X.K = K := by rfl) :
    DE X c (.Call (.Attribute o nm apos) (e :: es) [] pos) (ClX.tCMeth C (fun vs H Q E => spF K m F (vs ++ []) H Q E) E0 ta tl) (mCMeth C F ma ml) := ⟨by rw [← hK]; exact ClX.pe_cmeth ho.p r cm (G.raw hb .nil) hr pass0 ha.p hst hpl ht, r_cmeth hF ho.r ha.r⟩
end
end DL
set_option autoImplicit false
namespace DL
open PySem PySem.Spec PyProof.Rows L2
def str? : D → Option Str
  | .str x => some x
  | _ => none
def strs? : List D → Option (List Str)
  | [] => some []
  | .str x :: r => (strs? r).map (x :: ·)
  | _ => none
theorem strs_eq : ∀ {ds : List D} {xs : List Str}, strs? ds = some xs → ds = xs.map D.str
  | [], _, h => by cases h; rfl
  | .str b :: r, _, h => by
    obtain ⟨t, e, rfl⟩ := map_some (show (strs? r).map _ = _ from h)
    rw [strs_eq e]; rfl
  | .non :: _, _, h | .int _ :: _, _, h | .bl _ :: _, _, h | .tup _ :: _, _, h | .lst _ :: _, _, h | .dic _ _ :: _, _, h | .dit _ _ :: _, _, h | .ins _ _ _ :: _, _, h | .cls _ :: _, _, h | .ty _ :: _, _, h | .scr _ :: _, _, h => by simp [strs?] at h
def dFmt : D → Option D
  | .str y => if y.length ≤ sizeLine then some (.str y) else none
  | .int i => if i.natAbs.log2 < 1920 then some (.str (toString i)) else none
  | _ => none
def mJs : List (Mo D) → Str → Mo Str
  | [], acc => mC acc
  | m :: ms, acc => mBd m fun d => mBd (mL (str? d)) fun y => if (acc ++ y).length ≤ sizeLine then mJs ms (acc ++ y) else fun _ => none
def mFs (ms : List (Mo D)) : Mo D := mBd (mJs ms Str.empty) fun y => mC (.str y)
inductive DJ (X : Cx) {K : PySem.W.Frag} (c : Ctx K) : List Expr → List TE → List (Mo D) → Prop where
  | nil : DJ X c [] [] []
  | cons {e : Expr} {t : TE} {m : Mo D} {es : List Expr} {ts : List TE} {ms : List (Mo D)} (h : DE X c e t m) (r : DJ X c es ts ms) : DJ X c (e :: es) (t :: ts) (m :: ms)
theorem DJ.p {X : Cx} {K : PySem.W.Frag} {c : Ctx K} : ∀ {es : List Expr} {ts : List TE} {ms : List (Mo D)}, DJ X c es ts ms → PJ X es ts
  | _, _, _, .nil => .nil
  | _, _, _, .cons h r => .cons h.p r.p
theorem str_of {K : PySem.W.Frag} {M : Addr → Prop} {H : Hp} {v : V} {d : D} {b : Str} (h : Dat K M H v d) (e : str? d = some b) : v = .str b := by
  cases h <;> simp [str?] at e
  subst e; rfl
theorem DJ.r {X : Cx} {K : PySem.W.Frag} {c : Ctx K} {es : List Expr} {ts : List TE} {ms : List (Mo D)} (j : DJ X c es ts ms) : ∀ (acc : Str) (M : Addr → Prop) (σ : L2.St) (H : Hp) (ρ : Cs), Sta c M σ H ρ → ∀ y ρ', mJs ms acc ρ = some (y, ρ') → ∀ Q : Str → Hp → Prop, (∀ M' H', Es σ M H ρ σ M' H' ρ' → Sta c M' σ H' ρ' → Q y H') → tJs ts acc σ H Q := by
  induction j with
  | nil =>
    intro acc M σ H ρ S y ρ' hm Q q
    obtain ⟨e1, e2⟩ := mC_some (show mC acc ρ = some (y, ρ') from hm)
    subst e1 e2
    exact q M H .refl S
  | cons h r ih =>
    intro acc M σ H ρ S y ρ' hm Q q
    obtain ⟨d, ρ1, h1, hm1⟩ := mBd_some (show mBd _ _ ρ = some (y, ρ') from hm)
    obtain ⟨z, ρ2, h2, hm2⟩ := mBd_some hm1
    obtain ⟨hz, e2⟩ := mL_some h2
    subst e2
    split at hm2
    case isFalse => cases hm2
    rename_i hl
    refine h.r M σ H ρ S d _ h1 _ fun M1 v H1 E1 S1 dv => ⟨z, str_of dv hz, hl, ?_⟩
    exact ih _ M1 σ H1 _ S1 y ρ' hm2 Q fun M2 H2 E2 S2 => q M2 H2 (E1.trans E2 S.kind) S2
def dJoin : D → D → Option D
  | .str a, .lst ds => (strs? ds).bind fun ys => if (ys.map (·.length)).sum + ys.length * a.length ≤ 16777216 then some (.str (Txt.join a ys)) else none
  | .str a, .tup ds => (strs? ds).bind fun ys => if (ys.map (·.length)).sum + ys.length * a.length ≤ 16777216 then some (.str (Txt.join a ys)) else none
  | _, _ => none
def dSplit : D → D → Option D
  | .str a, .str b => if (b.length == 0) = false ∧ a.length + 2 ≤ sizeLine then some (.lst ((Txt.split a b).map .str)) else none
  | _, _ => none
/-- a.m(b), a text -/
def mStr (g : D → D → Option D) (a b : Mo D) : Mo D := mBd a fun x => if (str? x).isSome = true then mBd b fun y => mL (g x y) else fun _ => none
theorem strV {K : PySem.W.Frag} {M : Addr → Prop} {H : Hp} {v : V} {d : D} (h : Dat K M H v d) (e : (str? d).isSome = true) : ∃ x, d = .str x ∧ v = .str x := by
  cases h <;> simp [str?] at e
  exact ⟨_, rfl, rfl⟩
theorem bind_some {α β : Type} {o : Option α} {f : α → Option β} {r : β} (h : o.bind f = some r) : ∃ a, o = some a ∧ f a = some r := by
  cases o with
  | none => cases h
  | some a => exact ⟨a, rfl, h⟩
section
variable {X : Cx} {K : PySem.W.Frag} {c : Ctx K} {ta tb : TE} {ma mb : Mo D} {a b e v1 v2 : Expr} {rest : List Expr} {pos apos : Pos} {t1 t2 : TE} {m1 m2 : Mo D} {ts : List TE} {ms : List (Mo D)}
theorem r_fmt (h : REv c ta ma) : REv c (tFmt ta) (mUn dFmt ma) := by
  intro M σ H ρ S d ρ' hm Q q
  obtain ⟨x, ρ1, h1, hm1⟩ := mBd_some hm
  obtain ⟨hg, e⟩ := mL_some hm1
  subst e
  refine h M σ H ρ S x _ h1 _ fun M1 v H1 E1 S1 dv => ?_
  cases x <;> try (simp [dFmt] at hg; done)
  case int i =>
    cases dv
    obtain ⟨hz, e⟩ := if_some hg
    subst e
    exact .inr ⟨_, rfl, hz, q M1 _ H1 E1 S1 (.str _)⟩
  case str y =>
    cases dv
    obtain ⟨hz, e⟩ := if_some hg
    subst e
    exact .inl ⟨_, rfl, hz, q M1 _ H1 E1 S1 (.str _)⟩
theorem d_fmt (h : DE X c e ta ma) : DE X c (.FormattedValue e (-1) none pos) (tFmt ta) (mUn dFmt ma) := ⟨pe_fmt h.p, r_fmt h.r⟩
theorem d_fs (h : DJ X c (v1 :: v2 :: rest) ts ms) : DE X c (.JoinedStr (v1 :: v2 :: rest) pos) (fun σ H Q => tJs ts Str.empty σ H fun out H1 => Q (.str out) H1) (mFs ms) := ⟨pe_joined h.p, by
  intro M σ H ρ S d ρ' hm Q q
  obtain ⟨y, ρ1, h1, hm1⟩ := mBd_some hm
  obtain ⟨e1, e2⟩ := mC_some (show mC (D.str y) ρ1 = some (d, ρ') from hm1)
  subst e1 e2
  exact h.r Str.empty M σ H ρ S y _ h1 _ fun M' H' E S' => q M' _ H' E S' (.str y)⟩
theorem d_join (ha : DE X c a ta ma) (hb : DE X c b tb mb) (hs : starEach [b] X.env = [(false, eval b X.env)] := by rfl) (hbase : attributeBase a "join" X.env (eval a X.env) = eval a X.env := by rfl) (hline : (apos.endLine == pos.line) = true := by rfl) (hK : X.K = K := by rfl) :
    DE X c (.Call (.Attribute a "join" apos) [b] [] pos) (tM1 (fun x xs H Q => ∃ a p, ∃ ys : List Str, x = .str a ∧ xs = [.ref p] ∧ (SqL K H p (ys.map V.str) ∨ SqT K H p (ys.map V.str)) ∧ (ys.map (·.length)).sum + ys.length * a.length ≤ 16777216 ∧ Q (.str (Txt.join a ys)) H) ta tb) (mStr dJoin ma mb) := ⟨by rw [← hK]; exact pe_join ha.p hb.p hs hbase hline, by
  intro M σ H ρ S d ρ' hm Q q
  obtain ⟨x, ρ1, h1, hm1⟩ := mBd_some hm
  split at hm1
  case isFalse => cases hm1
  rename_i hx
  obtain ⟨y, ρ2, h2, hm2⟩ := mBd_some hm1
  obtain ⟨hg, e⟩ := mL_some hm2
  subst e
  refine ha.r M σ H ρ S x ρ1 h1 _ fun M1 v H1 E1 S1 dv => ?_
  obtain ⟨z, rfl, rfl⟩ := strV dv hx
  refine ⟨⟨z, rfl⟩, hb.r M1 σ H1 ρ1 S1 y _ h2 _ fun M2 w H2 E2 S2 dw => ?_⟩
  cases y <;> try (simp [dJoin] at hg; done)
  case lst ds =>
    obtain ⟨ys, hy, hg2⟩ := bind_some (show (strs? ds).bind _ = some d from hg)
    obtain ⟨hl, e⟩ := if_some hg2
    subst e
    cases dw with
    | lst n hH a =>
      rw [strs_eq hy] at a
      rw [a.strs] at hH
      exact ⟨z, _, ys, rfl, rfl, .inl (SqL.of hH), hl, q M2 _ H2 (E1.trans E2 S.kind) S2 (.str _)⟩
  case tup ds =>
    obtain ⟨ys, hy, hg2⟩ := bind_some (show (strs? ds).bind _ = some d from hg)
    obtain ⟨hl, e⟩ := if_some hg2
    subst e
    cases dw with
    | tup hH a =>
      rw [strs_eq hy] at a
      rw [a.strs] at hH
      exact ⟨z, _, ys, rfl, rfl, .inr hH, hl, q M2 _ H2 (E1.trans E2 S.kind) S2 (.str _)⟩⟩
theorem d_split (ha : DE X c a ta ma) (hb : DE X c b tb mb) (hs : starEach [b] X.env = [(false, eval b X.env)] := by rfl) (hbase : attributeBase a "split" X.env (eval a X.env) = eval a X.env := by rfl) (hline : (apos.endLine == pos.line) = true := by rfl) :
    DN X c (.Call (.Attribute a "split" apos) [b] [] pos) (tM1 (fun x xs H Q => ∃ a b, x = .str a ∧ xs = [.str b] ∧ (b.length == 0) = false ∧ a.length + 2 ≤ sizeLine ∧ rNewStrs (Txt.split a b) H Q) ta tb) (mStr dSplit ma mb) := ⟨pe_split ha.p hb.p hs hbase hline, by
  intro M σ H ρ S d ρ' hm Q q
  obtain ⟨x, ρ1, h1, hm1⟩ := mBd_some hm
  split at hm1
  case isFalse => cases hm1
  rename_i hx
  obtain ⟨y, ρ2, h2, hm2⟩ := mBd_some hm1
  obtain ⟨hg, e⟩ := mL_some hm2
  subst e
  refine ha.r M σ H ρ S x ρ1 h1 _ fun M1 v H1 E1 S1 dv => ?_
  obtain ⟨z, rfl, rfl⟩ := strV dv hx
  refine ⟨⟨z, rfl⟩, hb.r M1 σ H1 ρ1 S1 y _ h2 _ fun M2 w H2 E2 S2 dw => ?_⟩
  cases y <;> try (simp [dSplit] at hg; done)
  case str b =>
    obtain ⟨⟨h3, h4⟩, e⟩ := if_some hg
    subst e
    cases dw
    exact ⟨z, b, rfl, rfl, h3, h4, fun p hp => r_new S (E1.trans E2 S.kind) S2 hp (same_new hp) upd_same (.lst (.of_strs _)) q⟩⟩
end
structure DTs (X : Cx) {K : PySem.W.Frag} (c : Ctx K) (ifs : List Expr) (t : TT) (m : Mo Bool) : Prop where
  p : PTs X ifs t
  r : RTt c t m
section
variable {X : Cx} {K : PySem.W.Frag} {c : Ctx K} {elt tg iter e : Expr} {ifs : List Expr} {scope : Scope} {own : List (Str × Nat)} {pos spos : Pos} {wi : TI} {g : TG} {tt : TT} {te : TE} {mi : Mo (List D)} {mg : D → Mo Unit} {mt : Mo Bool} {me : Mo D}
theorem t_nil : DTs X c [] tYes (mC true) := ⟨pts_nil, r_yes⟩
/-- what a comprehension's block is -/
structure DBlk (X : Cx) {K : PySem.W.Frag} (c : Ctx K) (scope : Scope) (tg elt : Expr) (ifs : List Expr) (g : TG) (tt : TT) (te : TE) (mg : D → Mo Unit) (mt : Mo Bool) (me : Mo D) : Prop where
  g : ∀ (s : Shared) (H : Hp) (C : Addr) (cl : List (Str × Addr)) (fp : List Addr), DG (X.blk s H scope (compEnvC scope cl C X.env) fp) c tg g mg
  t : ∀ (s : Shared) (H : Hp) (C : Addr) (cl : List (Str × Addr)) (fp : List Addr), DTs (X.blk s H scope (compEnvC scope cl C X.env) fp) c ifs tt mt
  e : ∀ (s : Shared) (H : Hp) (C : Addr) (cl : List (Str × Addr)) (fp : List Addr), DE (X.blk s H scope (compEnvC scope cl C X.env) fp) c elt te me
theorem r_blk (hi : RIt c wi mi) (ho : OwnG g (own.map (·.2))) (B : DBlk X c scope tg elt ifs g tt te mg mt me) : RNw c (tLc wi g tt te (own.map (·.2))) (mLc (own.map (·.2)) mi mg mt me) :=
  r_lc hi (B.g {} (fun _ => none) 0 [] []).r ho (B.t {} (fun _ => none) 0 [] []).r (B.e {} (fun _ => none) 0 [] []).r
theorem d_lc (hc : X.calm = true) (hN : X.N.Nodup) (hi : DI X c tg iter wi mi) (ok : BlkOk X.N X.env.scope scope own) (ho : OwnG g (own.map (·.2))) (B : DBlk X c scope tg elt ifs g tt te mg mt me) (hs : ∀ x, foldedSetIterable iter X.env x = pure x := by intro _; rfl) :
    DN X c (.ListComp elt [⟨tg, iter, ifs, 0⟩] scope pos) (tLc wi g tt te (own.map (·.2))) (mLc (own.map (·.2)) mi mg mt me) :=
  ⟨pe_lc hc hN hi.p ok (fun s H C cl fp => (B.g s H C cl fp).p) (fun s H C cl fp => (B.t s H C cl fp).p) (fun s H C cl fp => (B.e s H C cl fp).p) hs, r_blk hi.r ho B⟩
end
def MonoG (g : TG) : Prop := ∀ v σ H (Q Q' : L2.St → Hp → Prop), (∀ s h, Q s h → Q' s h) → g v σ H Q → g v σ H Q'
def MonoGs (g : TGs) : Prop := ∀ v σ H (Q Q' : L2.St → Hp → Prop), (∀ s h, Q s h → Q' s h) → g v σ H Q → g v σ H Q'
theorem mono_nil : MonoGs gNil := fun _ _ _ _ _ h q => ⟨q.1, h _ _ q.2⟩
theorem mono_cons {g : TG} {gs : TGs} (a : MonoG g) (b : MonoGs gs) : MonoGs (gCons g gs) := fun v σ H Q Q' h q => by
  obtain ⟨x, r, e, q⟩ := q
  exact ⟨x, r, e, a _ _ _ _ _ (fun s h' z => b _ _ _ _ _ h z) q⟩
theorem mono_tup {K : PySem.W.Frag} {n : Nat} {gs : TGs} (b : MonoGs gs) : MonoG (gTup K n gs) := fun v σ H Q Q' h q => by
  obtain ⟨a, xs, h1, h2, h3, q⟩ := q
  exact ⟨a, xs, h1, h2, h3, b _ _ _ _ _ h q⟩
theorem own_con {g : TG} {gs : TGs} {vs : List Nat} (h : OwnG g vs ∧ MonoG g) (hs : OwnGs gs vs ∧ MonoGs gs) : OwnGs (gCons g gs) vs ∧ MonoGs (gCons g gs) := ⟨own_cons h.1 hs.1 h.2, mono_cons h.2 hs.2⟩
theorem own_nam {i : Nat} {vs : List Nat} (h : i ∈ vs) : OwnG (gName i) vs ∧ MonoG (gName i) := ⟨own_name h, mono_name⟩
theorem own_ni {vs : List Nat} : OwnGs gNil vs ∧ MonoGs gNil := ⟨own_nil, mono_nil⟩
theorem own_tu {K : PySem.W.Frag} {n : Nat} {gs : TGs} {vs : List Nat} (h : OwnGs gs vs ∧ MonoGs gs) : OwnG (gTup K n gs) vs ∧ MonoG (gTup K n gs) := ⟨own_tup h.1, mono_tup h.2⟩
theorem held_store {K : PySem.W.Frag} {c : Ctx K} {M : Addr → Prop} {H : Hp} : ∀ {is : List Nat} {vs : List V} {ds : List D} {fs : List Bool} {as : List Addr} {σ : L2.St} {ρ ρ' : Cs} {b : Addr}, Items c M σ H ρ vs ds fs as → σ.length = ρ.length → stAll is fs ds ρ = some ρ' → Held (svAll is vs σ) ρ' b → Held σ ρ b ∨ b ∈ as
  | [], _, _, _, _, σ, ρ, ρ', b, .nil, _, e, h => by cases e; exact .inl h
  | [], _, _, _, _, σ, ρ, ρ', b, .dat _ _, _, e, h => by cases e
  | [], _, _, _, _, σ, ρ, ρ', b, .new _ _ _, _, e, h => by cases e
  | _ :: _, _, _, _, _, σ, ρ, ρ', b, .nil, _, e, h => by cases e
  | i :: is, _, _, _, _, σ, ρ, ρ', b, .dat q r, l, e, h => by
    rcases held_store (is := is) (r.setDat l) (by rw [List.length_set, List.length_set]; exact l) e h with z | z
    · exact .inl (held_setDat b l z)
    · exact .inr z
  | i :: is, _, _, _, _, σ, ρ, ρ', b, .new (a := a) q n r, l, e, h => by
    rcases held_store (is := is) (r.taken (i := i) n) (by rw [List.length_set, List.length_set]; exact l) e h with z | z
    · obtain ⟨j, p, d, h1, h2⟩ := z
      by_cases w : i = j
      · subst w
        by_cases hl : i < σ.length
        · rw [List.getElem?_set_self hl] at h1
          cases h1
          exact .inr List.mem_cons_self
        · rw [List.getElem?_eq_none (by rw [List.length_set]; omega)] at h1
          cases h1
      · rw [List.getElem?_set_ne w] at h1 h2
        exact .inl ⟨j, p, d, h1, h2⟩
    · exact .inr (List.mem_cons_of_mem _ z)
/-- names, and one more for the rest -/
def gStarN (is : List Nat) (k : Nat) (d : D) : Mo Unit := fun ρ => match d with
  | .lst ds => if is.length ≤ ds.length then (stAll (is ++ [k]) (List.replicate is.length false ++ [true]) (ds.take is.length ++ [.lst (ds.drop is.length)]) ρ).map fun ρ' => ((), ρ') else none
  | _ => none
theorem Items.dats {K : PySem.W.Frag} {c : Ctx K} {M : Addr → Prop} {σ : L2.St} {H : Hp} {ρ : Cs} {vs : List V} {ds : List D} {fs : List Bool} {as : List Addr} (r : Items c M σ H ρ vs ds fs as) : ∀ {us : List V} {es : List D}, DatAll K M H us es → Items c M σ H ρ (us ++ vs) (es ++ ds) (List.replicate us.length false ++ fs) as
  | _, _, .nil => r
  | _, _, .cons h t => .dat h (Items.dats r t)
theorem r_gstar {K : PySem.W.Frag} {c : Ctx K} {n : Nat} {is : List Nat} {k : Nat} (hn : is.length = n) : RTg c (gStar K n (gNames (is ++ [k]))) (gStarN is k) := by
  intro M σ H ρ S v d hd u ρ' hm Q q
  subst hn
  unfold gStarN at hm
  split at hm
  · rename_i ds
    split at hm
    · rename_i hl
      obtain ⟨ρ2, h1, e⟩ := map_some hm
      cases e
      cases hd with
      | @lst a xs _ n hH hx =>
        refine ⟨a, xs, rfl, SqL.of hH, by rw [hx.length]; exact hl, fun D hD => ?_⟩
        have hlx := hx.length
        obtain ⟨E1, S1, n1⟩ := S.nw (o := .lst (xs.drop is.length)) (d := .lst (ds.drop is.length)) hD (same_new hD) upd_same (.lst (hx.drop _))
        have it : Items c _ σ _ ρ (xs.take is.length ++ [.ref D]) (ds.take is.length ++ [.lst (ds.drop is.length)]) (List.replicate (xs.take is.length).length false ++ [true]) [D] := Items.dats (.new n1 List.not_mem_nil .nil) ((hx.ev S.kind E1.ev).take _)
        have hlen : (xs.take is.length).length = is.length := by rw [List.length_take]; omega
        rw [hlen] at it
        refine gNames_run (by rw [List.length_append, List.length_append, hlen]; rfl) ?_
        refine q _ _ _ ⟨E1.ev, E1.kp, fun b o hb z => ?_, E1.mc, E1.dm⟩ (it.store S1 h1)
        rcases held_store it S.len.symm h1 z with w | w
        · exact w
        · rw [List.mem_singleton] at w
          rw [w, hD] at hb; cases hb
    · cases hm
  · cases hm
theorem g_star {X : Cx} {K : PySem.W.Frag} {c : Ctx K} {es : List Expr} {pos : Pos} {kk n : Nat} (is : List Nat) (k : Nat) (hc : X.calm = true) (h : PGs X es (gNames (is ++ [k]))) (hi : is.length = n := by rfl) (hn : (assignEach es X.env).length = n + 1 := by rfl) (hst : (assignEach es X.env).findIdx? (·.1) = some n := by rfl) (hK : X.K = K := by rfl) :
    DG X c (.Tuple es kk pos) (gStar K n (gNames (is ++ [k]))) (gStarN is k) := ⟨by rw [← hK]; exact pg_star hc h hn hst, r_gstar hi⟩
def dStrI (C : Addr) (F : List D → Option D) : List D → Option D
  | [.int i] => dStr [.int i]
  | [x] => if isIns C x = true then (match F [x] with
    | some (.str z) => some (.str z)
    | _ => none) else none
  | _ => none
theorem call_STRI {X : Cx} {C f : Addr} {fd : FuncData} {ps : List Str} {k m : Nat} {F : List D → Option D} (G : FnOk X.prog X.w X.K X.mg X.base CX0 k f fd ps (spF X.K m F)) (hF : Takes m F) (hr : Room (k + 2) X.A) (hs : PySem.W.findIn X.K (.ref C) "__str__" = some (some (.ref f)))
    (hf : PySem.W.isFn X.K (.ref f) = true) (hb : Binds X.K fd ps []) : CallR X (.type "str") (rC X.K (dStrI C F)) := by
  intro pins s σ H xs us Q I r h
  obtain ⟨M, ds, z, k, hd, hg, q⟩ := h
  unfold dStrI at hg
  split at hg
  · exact call_STR pins s σ H xs us Q I r ⟨M, _, z, k, hd, hg, q⟩
  · rename_i x _
    split at hg
    case isFalse => cases hg
    rename_i hx
    obtain ⟨ns, es, rfl⟩ := isIns_of hx
    split at hg
    · rename_i y hy
      cases hg
      obtain ⟨v, rfl, hv⟩ := one_of hd
      obtain ⟨a, dx, fs, rfl, nM, hH, _, _⟩ := dat_ins hv
      refine call_strI G hr hs hf hb pass0 pins s σ H _ us Q I r ⟨a, dx, fs, rfl, hH, M, _, _, k, hd, hF _ _ hy, hy, fun u H' s hu => ?_⟩
      cases hu
      exact ⟨y, rfl, q _ H' s (.str y)⟩
    · cases hg
  · cases hg
end DL
namespace PySem.W
open PySem PySem.Spec PySem.Calls PyProof.Rows
end PySem.W
namespace L2
open PySem PySem.Spec PyProof.Rows
end L2
set_option autoImplicit false
namespace DL
open PySem PySem.Spec PyProof.Rows L2
theorem hu100 {k : Nat} {A : Around} (hr : Room k A) : A.units + 100 < cLine := by have := hr.un; omega
theorem hu64_of {k : Nat} {A : Around} (hr : Room k A) : A.units + 64 < cLine := by have := hr.un; omega
theorem hu1_of {k : Nat} {A : Around} (hr : Room k A) : A.units + 1 < cLine := by have := hr.un; omega
theorem toPs_map : ∀ ds : List D, toPs ds = ds.map toP
  | [] => by simp [toPs]
  | d :: r => by rw [toPs, toPs_map r, List.map_cons]
def aStar (a : Mo D) (r : Mo (List D)) : Mo (List D) := mBd a fun x => mBd (mL (match x with
  | .tup ds => some ds
  | .lst ds => some ds
  | _ => none)) fun ds => mBd r fun ys => mC (ds ++ ys)
section
variable {X : Cx} {K : PySem.W.Frag} {c : Ctx K} {a b e : Expr} {es : List Expr} {pos : Pos} {ta te : TE} {ma me : Mo D} {tl : TA} {ml : Mo (List D)}
/-- a tuple of the top -/
theorem d_gtu {x : Str} {a : Addr} {vs : List V} {ds : List D} (hm : X.mg x = some (.ref a)) (hq : ∀ H : Hp, SqT X.K H a vs) (h : ∀ M H, DatAll K M H vs ds) (hg : Gl X x := by rfl) (hd : (x == ("__debug__" : Str)) = false := by decide) (hK : X.K = K := by rfl) : DE X c (.Name x pos) (tC (.ref a)) (mC (.tup ds)) :=
  d_gd hm rfl (fun M H => .tup (by rw [← hK]; exact hq H) (h M H)) hg hd
variable {elts : List Expr} {kk : Nat} {tpos p : Pos}
theorem i_enumT (hm : X.mg "enumerate" = none) (ha : DA X c [e] tl ml) (hg : Gl X "enumerate" := by rfl) (hs : starEach [e] X.env = [(false, eval e X.env)] := by rfl) (hK : X.K = K := by rfl) : DI X c (.Tuple elts kk tpos) (.Call (.Name "enumerate" p) [e] [] pos) (iEnumT K tl) (iFn enumT? ml) := ⟨by rw [← hK]; exact pi_enumT hg hm ha.p hs, r_ienumT ha.r⟩
def seqS : D → Option (List D)
  | .str z => some (z.cps.toList.map fun c => D.str ⟨#[c]⟩)
  | _ => none
theorem i_str {tg : Expr} (h : DE X c e te me) : DI X c tg e (iStr te) (iSeq seqS me) := ⟨pi_str h.p, by
  intro M σ H ρ S ds ρ' hm R q
  obtain ⟨d, ρ1, h1, h2⟩ := mBd_some hm
  obtain ⟨h3, e⟩ := mL_some h2
  subst e
  refine h.r M σ H ρ S d _ h1 _ fun M' v H' E S' hd => ?_
  cases d <;> simp [seqS] at h3
  subst h3
  cases hd
  rename_i z
  refine ⟨z, rfl, q M' H' _ _ _ E S' ⟨by rw [List.length_map, Array.length_toList]; exact walk_str, fun _ _ _ => trivial, fun i M1 H1 x H2 e k hi y => ?_⟩⟩
  obtain ⟨rfl, c, hc, rfl⟩ := y
  exact ⟨.refl _, .str ⟨#[c]⟩, by rw [List.getElem?_map, Array.getElem?_toList, hc]; rfl, .str _⟩⟩
end
section
variable {X : Cx} {K : PySem.W.Frag} {c : Ctx K} {elt tg iter e : Expr} {es : List Expr} {ifs : List Expr} {scope : Scope} {own : List (Str × Nat)} {pos spos : Pos} {wi : TI} {g : TG} {tt : TT} {te : TE} {mi : Mo (List D)} {mg : D → Mo Unit} {mt : Mo Bool} {me : Mo D} {tl : TA} {ml : Mo (List D)}
/-- name = [..], never changed -/
theorem s_setLcD {i : Nat} {y : Str} {py : Pos} (hc : X.calm = true) (hN : X.N.Nodup) (hy : X.N[i]? = some y) (hyl : X.env.scope.names.lookup y = some .local)
    (hsw : swapsWith (.ListComp elt [⟨tg, iter, ifs, 0⟩] scope pos) (some (.Name y py)) spos.line X.env = pure true) (hi : DI X c tg iter wi mi) (ok : BlkOk X.N X.env.scope scope own) (ho : OwnG g (own.map (·.2))) (B : DBlk X c scope tg elt ifs g tt te mg mt me) (hs : ∀ x, foldedSetIterable iter X.env x = pure x := by intro _; rfl) :
    DS X c (.Assign [.Name y py] (.ListComp elt [⟨tg, iter, ifs, 0⟩] scope pos) spos) (tAsg (tLc wi g tt te (own.map (·.2))) (gName i)) (sSet i (mLc (own.map (·.2)) mi mg mt me)) :=
  ⟨ps_setLc hc hN hy hyl hsw hi.p ok (fun s H C cl fp => (B.g s H C cl fp).p) (fun s H C cl fp => (B.t s H C cl fp).p) (fun s H C cl fp => (B.e s H C cl fp).p) hs, r_set (r_blk hi.r ho B).ev i⟩
theorem s_app {y : Str} {p apos cpos : Pos} (i : Nat) (he : DE X c e te me) (hN : X.N[i]? = some y := by rfl) (hv : Vis X.env.scope y := by first | exact Or.inl rfl | exact Or.inr (Or.inl rfl) | exact Or.inr (Or.inr rfl)) (hd : (y == ("__debug__" : Str)) = false := by decide) (hcd : (y == ("__classdict__" : Str)) = false := by decide)
    (hbase : attributeBase (.Name y p) "append" X.env (eval (.Name y p) X.env) = eval (.Name y p) X.env := by rfl)
    (hfew : ((backTo cpos (starEach [e] X.env)).all (fun x => !x.1) && (backToKw cpos (keywordEach [] X.env)).all (fun x => x.1.isSome) && decide (([e] : List Expr).length + ([] : List Keyword).length + (if ([] : List Keyword).isEmpty then 0 else 1) < 30)) = true := by rfl)
    (hline : (apos.endLine == cpos.line) = true := by rfl) (hs : starEach [e] X.env = (false, eval e X.env) :: starEach [] X.env := by rfl) (hplain : (backTo cpos (starEach [] X.env)).any (·.1) = false := by rfl)
    (hsw : swapsWith (.Call (.Attribute (.Name y p) "append" apos) [e] [] cpos) none pos.line X.env = pure false := by rfl) (hK : X.K = K := by rfl) :
    DS X c (.Expr (.Call (.Attribute (.Name y p) "append" apos) [e] [] cpos) pos) (tDrop (tBM K "list" rAppend (tVar i) (tCons te tNil))) (sAppV i me) :=
  ⟨by rw [← hK]; exact ps_expr (pe_bm PySem.F.plainAttrs_list PySem.F.slot_list_append PySem.F.type_list_append mt_append (pv i hN hv hd hcd) (pa_cons he.p pa_nil hs) hbase hfew hline hs hplain) hsw, r_app he.r⟩
theorem g_put {y : Str} {i : Expr} {p : Pos} {ti : TE} {mi : Mo D} (j : Nat) (hi : DE X c i ti mi) (hN : X.N[j]? = some y := by rfl) (hv : Vis X.env.scope y := by first | exact Or.inl rfl | exact Or.inr (Or.inl rfl) | exact Or.inr (Or.inr rfl)) (hd : (y == ("__debug__" : Str)) = false := by decide) (hcd : (y == ("__classdict__" : Str)) = false := by decide)
    (ha : ∀ v, assign (.Subscript (.Name y p) i pos) X.env v = (do
      let ov ← holding [v] (eval (.Name y p) X.env)
      let iv ← holding [v, ov] (eval i X.env)
      standAt pos
      holding [v, ov, iv] (setItem ov iv v)
      release [v, ov, iv] []) := by intro _; rfl) : DG X c (.Subscript (.Name y p) i pos) (gSub (tVar j) ti rSetL) (gPut j mi) := ⟨pg_sub (pv j hN hv hd hcd) hi.p set_list ha, r_gput hi.r⟩
end
section
variable {P : Program} {w : World} {K : PySem.W.Frag} {mg : Str → Option Value} {base : Heap} {x qual : Str} {st : Stmt} {f : Addr} {fd : FuncData} {N ps : List Str} {k m n : Nat} {b : Mo Fl} {dvs : List V} {kws : List (Str × V)}
theorem okFD (F : FunD K x qual (defArgs st) (defBody st) (defScope st) dvs kws f fd) (S : FnScope N ps (defScope st)) (hm : ps.length = m) (hn : N.length = m + n) (B : BodyD P w K mg base qual st f N k b) : FnOk P w K mg base CX0 (k + 1) f fd ps (spF K m (runF m n b)) := by
  refine F.ok S (fun vs H Q E h => ?_) (fun cdv A outer s H vs Q E hr h => ?_)
  · obtain ⟨M, ds, d, _, hd, hl, _⟩ := h
    rw [hd.length, hl, hm]
  · obtain ⟨t, d⟩ := B cdv A outer s H E hr
    exact ⟨t, (d (fun _ => False) (fun _ => False) H).p.nox, run_F hn (fun M0 P0 H0 => (d M0 P0 H0).r) h⟩
theorem okOD (F : FunD K x qual (defArgs st) (defBody st) (defScope st) dvs kws f fd) (S : FnScope N ps (defScope st)) (hm : ps.length = m) (hn : N.length = m + n) (B : BodyD P w K mg base qual st f N k b) : FnOk P w K mg base CX0 (k + 1) f fd ps (spO K m (runO m n b)) := by
  refine F.ok S (fun vs H Q E h => ?_) (fun cdv A outer s H vs Q E hr h => ?_)
  · obtain ⟨M, a, d0, xs, ds, r, d1, rfl, _, _, _, hd, hl, _⟩ := h
    rw [List.length_cons, hd.length, hl, hm]
  · obtain ⟨t, d⟩ := B cdv A outer s H E hr
    exact ⟨t, (d (fun _ => False) (fun _ => False) H).p.nox, run_O hn (fun M0 P0 H0 => (d M0 P0 H0).r) h⟩
end
end DL
set_option autoImplicit false
namespace DL
open PySem PySem.Spec PyProof.Rows L2
structure IsCT (K : PySem.W.Frag) (C : Addr) : Prop where
  cl : Cls K C
  ca : PySem.W.findIn K (.ref C) "__class__" = some (some (.builtin "object.__class__"))
  cn : PySem.W.specialIn K (.builtin "object.__class__") "__get__" = some (some (.builtin "getset_descriptor.__get__"))
  ct : PySem.W.takesIn K (.builtin "object.__class__") = some true
  cm : PySem.W.mroIn K C (.type "object") = some true
def dIsCT (C : Addr) : List D → Option D
  | [.ins B _ _, .cls E] => if E = C ∧ B = C then some (.bl true) else none
  | _ => none
theorem call_ISICT {X : Cx} {C : Addr} (hC : IsCT X.K C) : CallR X (.builtin "isinstance") (rC X.K (dIsCT C)) := by
  intro pins s σ H xs us Q I r h
  obtain ⟨M, ds, z, k, hd, hg, q⟩ := h
  unfold dIsCT at hg
  split at hg
  · obtain ⟨⟨rfl, rfl⟩, rfl⟩ := if_some hg
    obtain ⟨v, w, rfl, hv, hw⟩ := two_of hd
    cases hw
    cases hv with
    | ins n h _ _ => exact call_isi pins s σ H _ us Q I r ⟨_, .ref _, .ref _, .ref _, true, rfl, .own _, .base (.ins h hC.cl hC.ca hC.cn hC.ct hC.cm), by simp [PySem.W.kitOne], q _ H (.refl H) (.bl _)⟩
  · cases hg
end DL
set_option autoImplicit false
namespace DL
open PySem PySem.Spec PyProof.Rows L2
structure Sw (d : Addr) (kvs : List (Key × V)) (H H' : Hp) : Prop where
  off : ∀ b, b ≠ d → H' b = H b
  l : Rd H d (.dK kvs)
  r : Rd H' d (.dK kvs)
section
variable {K : PySem.W.Frag} {M M' : Addr → Prop} {H H' : Hp} {d : Addr} {kvs : List (Key × V)}
theorem Rd.one {a : Addr} {u u' : HO} (h : Rd H a u) (h' : Rd H a u') (n : ∀ o w, u ≠ .frz o w) (n' : ∀ o w, u' ≠ .frz o w) : u = u' := by
  rcases h with h | ⟨o, h⟩ <;> rcases h' with h' | ⟨o', h'⟩ <;> rw [h] at h' <;> cases h' <;> first | rfl | exact absurd rfl (n _ _) | exact absurd rfl (n' _ _)
theorem Sw.ne (s : Sw d kvs H H') {a : Addr} {u : HO} (h : Rd H a u) (n : ∀ o w, u ≠ .frz o w) (nk : ∀ ks, u ≠ .dK ks) : a ≠ d := fun z => by
  subst z
  exact nk _ (Rd.one h s.l n (fun o w q => by cases q))
theorem Sw.rd (s : Sw d kvs H H') {a : Addr} {u : HO} (h : Rd H a u) (n : ∀ o w, u ≠ .frz o w) : Rd H' a u := by
  by_cases z : a = d
  · subst z
    rw [Rd.one h s.l n (fun o w q => by cases q)]
    exact s.r
  · unfold Rd at h ⊢
    rw [s.off a z]
    exact h
end
end DL
set_option autoImplicit false
namespace DL
open PySem PySem.Spec PyProof.Rows L2
end DL
set_option autoImplicit false
namespace DL
open PySem PySem.Spec PyProof.Rows L2
section
variable {ρ ρ1 ρ2 ρ3 : Cs} {a b e : Mo D} {t t' : Mo Bool} {l : Mo (List D)} {x y z d : D} {ds es : List D} {g : D → D → Option D} {u : D → Option D} {f : List D → Option D} {i : Nat} {p q : Bool}
theorem e_c {α : Type} {v : α} : mC v ρ = some (v, ρ) := rfl
theorem e_var (h : ρ[i]? = some (.dat d)) : mVar i ρ = some (d, ρ) := by unfold mVar; rw [h]
theorem e_varO (h : ρ[i]? = some (.own false d)) : mVar i ρ = some (d, ρ.set i (.dat d)) := by unfold mVar; rw [h]
theorem e_as {α : Type} {m : Mo α} {v w : α} (h : m ρ = some (v, ρ1)) (e : ρ1 = ρ2) (e' : v = w) : m ρ = some (w, ρ2) := by rw [h, e, e']
theorem e_bd {α β : Type} {m : Mo α} {k : α → Mo β} {v : α} {r : Option (β × Cs)} (h : m ρ = some (v, ρ1)) (hk : k v ρ1 = r) : mBd m k ρ = r := by unfold mBd; rw [h]; exact hk
theorem e_l {α : Type} {o : Option α} {v : α} (h : o = some v) : mL o ρ = some (v, ρ) := by unfold mL; rw [h]
theorem e_op (ha : a ρ = some (x, ρ1)) (hb : b ρ1 = some (y, ρ2)) (hg : g x y = some z) : mOp g a b ρ = some (z, ρ2) := e_bd ha (e_bd hb (e_l hg))
theorem e_un (ha : a ρ = some (x, ρ1)) (hg : u x = some z) : mUn u a ρ = some (z, ρ1) := e_bd ha (e_l hg)
theorem e_tst (ha : a ρ = some (.bl p, ρ1)) : mTst a ρ = some (p, ρ1) := e_bd ha (e_l rfl)
theorem e_anil : aNil ρ = some ([], ρ) := rfl
theorem e_acons (ha : a ρ = some (x, ρ1)) (hl : l ρ1 = some (ds, ρ2)) : aCons a l ρ = some (x :: ds, ρ2) := e_bd ha (e_bd hl rfl)
theorem e_tup (h : l ρ = some (ds, ρ1)) (hl : ds.length ≤ sizeLine) : mTup l ρ = some (.tup ds, ρ1) := e_bd h (e_l (if_pos hl))
theorem e_lst (h : l ρ = some (ds, ρ1)) (hl : ds.length ≤ sizeLine) : mLst l ρ = some (.lst ds, ρ1) := e_bd h (e_l (if_pos hl))
theorem e_fn (h : l ρ = some (ds, ρ1)) (hg : f ds = some z) : mFn f l ρ = some (z, ρ1) := e_bd h (e_l hg)
theorem e_chain {h : D → D → Option D} {c : Mo D} (ha : a ρ = some (x, ρ)) (hb : b ρ = some (y, ρ)) (hg : g x y = some (.bl p)) (hc : c ρ = some (z, ρ)) (hh : h y z = some (.bl q)) : mChain g h a b c ρ = some (.bl (p && q), ρ) := by
  refine e_bd ha (e_bd hb (e_bd (e_l hg) (e_bd (e_l rfl) ?_)))
  cases p with
  | true => exact e_bd hc (e_l hh)
  | false => rfl
theorem e_notV (ha : a ρ = some (.bl p, ρ1)) : mNotV a ρ = some (.bl (!p), ρ1) := e_bd (e_tst ha) rfl
theorem e_andV (ha : a ρ = some (.bl p, ρ1)) (hb : b ρ1 = some (.bl q, ρ1)) : mAndV a b ρ = some (.bl (p && q), ρ1) := by
  refine e_bd (e_tst ha) ?_
  cases p with
  | true => exact hb
  | false => rfl
theorem e_orV (ha : a ρ = some (.bl p, ρ1)) (hb : b ρ1 = some (.bl q, ρ1)) : mOrV a b ρ = some (.bl (p || q), ρ1) := by
  refine e_bd (e_tst ha) ?_
  cases p with
  | true => rfl
  | false => exact hb
theorem e_not (ha : t ρ = some (p, ρ1)) : mNot t ρ = some (!p, ρ1) := e_bd ha rfl
theorem e_and (ha : t ρ = some (p, ρ1)) (hb : t' ρ1 = some (q, ρ1)) : mAnd t t' ρ = some (p && q, ρ1) := by
  refine e_bd ha ?_
  cases p with
  | true => exact hb
  | false => rfl
theorem e_or (ha : t ρ = some (p, ρ1)) (hb : t' ρ1 = some (q, ρ1)) : mOr t t' ρ = some (p || q, ρ1) := by
  refine e_bd ha ?_
  cases p with
  | true => rfl
  | false => exact hb
theorem e_if (ht : t ρ = some (p, ρ1)) (ha : p = true → a ρ1 = some (x, ρ2)) (hb : p = false → b ρ1 = some (y, ρ2)) : mIf t a b ρ = some (if p = true then x else y, ρ2) := by
  refine e_bd ht ?_
  cases p with
  | true => exact ha rfl
  | false => exact hb rfl
theorem e_if1 {r : Option (D × Cs)} (ht : t ρ = some (true, ρ1)) (ha : a ρ1 = r) : mIf t a b ρ = r := e_bd ht ha
theorem e_if0 {r : Option (D × Cs)} (ht : t ρ = some (false, ρ1)) (ha : b ρ1 = r) : mIf t a b ρ = r := e_bd ht ha
theorem e_no : mNo ρ = some (none, ρ) := rfl
theorem e_part {k : Int} (ha : a ρ = some (.int k, ρ1)) : mPart a ρ = some (some k, ρ1) := e_bd ha (e_bd (e_l rfl) rfl)
theorem e_sl {g : D → Option Int → Option Int → Option D} {lo hi : Option Int} {ml mh : Mo (Option Int)} (ha : a ρ = some (x, ρ1)) (h1 : ml ρ1 = some (lo, ρ2)) (h2 : mh ρ2 = some (hi, ρ3)) (hg : g x lo hi = some z) : mSl g a ml mh ρ = some (z, ρ3) := e_bd ha (e_bd h1 (e_bd h2 (e_l hg)))
theorem e_ixO {v : List D} {k : Int} (h0 : ρ[i]? = some (.own p (.lst v))) (hb : b ρ = some (.int k, ρ1)) (h1 : ρ1[i]? = some (.own q (.lst es))) (hx : atI es k = some z) : mIxV i b ρ = some (z, ρ1) := by
  unfold mIxV
  rw [h0]
  exact e_bd hb (by simp only [h1]; exact e_l hx)
theorem e_ixD (h0 : ρ[i]? = some (.dat x)) (hb : b ρ = some (y, ρ1)) (hg : dIx x y = some z) : mIxV i b ρ = some (z, ρ1) := by
  unfold mIxV
  rw [h0]
  exact e_op (e_var h0) hb hg
theorem e_fnPo (h0 : ρ[i]? = some (.own p x)) (hg : f [x] = some z) (hs : scal z = true) : mFnP f i ρ = some (z, ρ) := by
  unfold mFnP
  rw [h0]
  exact e_l (by rw [hg]; exact if_pos hs)
theorem e_fnPd (h0 : ρ[i]? = some (.dat x)) (hg : f [x] = some z) : mFnP f i ρ = some (z, ρ) := by
  unfold mFnP
  rw [h0]
  exact e_fn (e_acons (e_var h0) e_anil) hg
theorem e_rtO (ha : a ρ = some (x, ρ1)) (h0 : ρ1[i]? = some (.own p y)) (hg : g x y = some z) (hs : scal z = true) : mOpRt g a i ρ = some (z, ρ1) := by
  refine e_bd ha ?_
  simp only [h0]
  exact e_l (by rw [hg]; exact if_pos hs)
theorem e_rtD (ha : a ρ = some (x, ρ1)) (h0 : ρ1[i]? = some (.dat y)) (hg : g x y = some z) : mOpRt g a i ρ = some (z, ρ1) := by
  refine e_bd ha ?_
  simp only [h0]
  exact e_bd (e_var h0) (e_l hg)
theorem e_ltO (h0 : ρ[i]? = some (.own p d)) (hb : b ρ = some (y, ρ1)) (h1 : ρ1[i]? = some (.own q x)) (hg : g x y = some z) (hs : scal z = true) : mOpL g i b ρ = some (z, ρ1) := by
  unfold mOpL
  rw [h0]
  exact e_bd hb (by simp only [h1]; exact e_l (by rw [hg]; exact if_pos hs))
theorem e_ltD (h0 : ρ[i]? = some (.dat x)) (hb : b ρ = some (y, ρ1)) (hg : g x y = some z) : mOpL g i b ρ = some (z, ρ1) := by
  unfold mOpL
  rw [h0]
  exact e_op (e_var h0) hb hg
theorem e_callO {F : D → List D → Option (D × D)} {d0 d1 d2 : D} (h0 : ρ[i]? = some (.own p d0)) (ha : l ρ = some (ds, ρ1)) (h1 : ρ1[i]? = some (.own q d1)) (hF : F d1 ds = some (z, d2)) : mCallO F i l ρ = some (z, ρ1.set i (.own q d2)) := by
  unfold mCallO
  rw [if_pos (by unfold owns; rw [h0])]
  refine e_bd ha ?_
  simp only [h1, hF]
theorem e_callNew {F : D → List D → Option (D × D)} {d0 d1 : D} (he : e ρ = some (d0, ρ1)) (ha : l ρ1 = some (ds, ρ2)) (hF : F d0 ds = some (z, d1)) : mCallNew F e l ρ = some (z, ρ2) := e_bd he (e_bd ha (e_l (by rw [hF]; rfl)))
theorem e_star (ha : a ρ = some (.tup ds, ρ1)) (hl : l ρ1 = some (es, ρ2)) : aStar a l ρ = some (ds ++ es, ρ2) := e_bd ha (e_bd (e_l rfl) (e_bd hl rfl))
theorem e_prop {C : Addr} {ns : List Str} {F : List D → Option D} (ha : a ρ = some (.ins C ns ds, ρ1)) (hF : F [.ins C ns ds] = some z) : mProp C F a ρ = some (z, ρ1) := by
  refine e_bd ha ?_
  rw [if_pos (by simp [isIns])]
  exact e_l hF
theorem e_fld {C : Addr} {ns : List Str} {s : Str} (ha : a ρ = some (.ins C ns ds, ρ1)) (hF : lookD ns ds s = some z) : mFld C s a ρ = some (z, ρ1) := by
  refine e_bd ha ?_
  simp only [if_true, eq_self]
  exact e_l hF
theorem e_meth {C : Addr} {ns : List Str} {nm : Str} {F : List D → Option D} (ha : a ρ = some (.ins C ns ds, ρ1)) (hn : ns.contains nm = false) (hl : l ρ1 = some (es, ρ2)) (hF : F (.ins C ns ds :: es) = some z) : mMeth C nm F a l ρ = some (z, ρ2) := by
  refine e_bd ha ?_
  rw [if_pos (by simp only [isObj, hn, beq_self_eq_true, Bool.not_false, Bool.and_self])]
  exact e_bd hl (e_l hF)
theorem e_make {C : Addr} {F : D → List D → Option (D × D)} {dds : List D} (hl : l ρ = some (ds, ρ1)) (hF : F (.ins C [] []) (ds ++ dds) = some (.non, d)) : mMake C F dds l ρ = some (d, ρ1) := e_bd hl (e_l (by rw [hF]))
theorem e_kw {is : List Nat} {n nk : Nat} {k : Mo (List D)} {F : List D → Option D} (hl : l ρ = some (ds, ρ1)) (hk : k ρ1 = some (es, ρ2)) (h1 : ds.length = n) (h2 : es.length = nk) (hF : F (pick is (ds ++ es)) = some z) : mKw is n nk F l k ρ = some (z, ρ2) := by
  refine e_bd hl (e_bd hk ?_)
  rw [if_pos ⟨h1, h2⟩]
  exact e_l hF
end
section
variable {ρ ρ1 ρ2 : Cs} {a b e : Mo D} {t : Mo Bool} {l : Mo (List D)} {x y z d : D} {ds : List D} {i : Nat} {p q : Bool} {k m m' : Mo Fl} {P : Option (Fl × Cs) → Prop}
theorem st_one (h : P (sSeq m sNx ρ)) : P (m ρ) := by
  have e : sSeq m sNx ρ = m ρ := by
    unfold sSeq
    cases h : m ρ with
    | none => rfl
    | some r =>
      obtain ⟨f, ρ'⟩ := r
      cases f <;> rfl
  rw [← e]; exact h
theorem st_assoc (h : P (sSeq m (sSeq m' k) ρ)) : P (sSeq (sSeq m m') k ρ) := by
  have e : sSeq (sSeq m m') k ρ = sSeq m (sSeq m' k) ρ := by
    unfold sSeq
    cases h : m ρ with
    | none => rfl
    | some r =>
      obtain ⟨f, ρ'⟩ := r
      cases f <;> rfl
  rw [e]; exact h
theorem st_run (h : m ρ = some (.nx, ρ1)) (hk : P (k ρ1)) : P (sSeq m k ρ) := by
  unfold sSeq
  rw [h]; exact hk
theorem st_end (h : m ρ = some (.rt d, ρ1)) (hk : P (some (.rt d, ρ1))) : P (sSeq m k ρ) := by
  unfold sSeq
  rw [h]; exact hk
theorem st_nx (hk : P (k ρ)) : P (sSeq sNx k ρ) := st_run rfl hk
theorem st_set (h : a ρ = some (d, ρ1)) (hk : P (k (ρ1.set i (.dat d)))) : P (sSeq (sSet i a) k ρ) := st_run (e_bd h rfl) hk
theorem st_setN (h : a ρ = some (d, ρ1)) (hk : P (k (ρ1.set i (.own false d)))) : P (sSeq (sSetN i a) k ρ) := st_run (e_bd h rfl) hk
theorem st_drop (h : a ρ = some (d, ρ1)) (hk : P (k ρ1)) : P (sSeq (sDrop a) k ρ) := st_run (e_bd h rfl) hk
theorem st_ret (h : a ρ = some (d, ρ1)) (hk : P (some (.rt d, ρ1))) : P (sSeq (sRet a) k ρ) := st_end (e_bd h rfl) hk
theorem st_retNew (h : a ρ = some (d, ρ1)) (hk : P (some (.rn d, ρ1))) : P (sSeq (sRetNew a) k ρ) := by
  have e : sRetNew a ρ = some (.rn d, ρ1) := e_bd h rfl
  unfold sSeq
  rw [e]; exact hk
theorem st_retN (hk : P (some (.rt .non, ρ))) : P (sSeq sRetN k ρ) := st_end rfl hk
theorem st_if (ht : t ρ = some (p, ρ1)) (h1 : p = true → P (sSeq m k ρ1)) (h2 : p = false → P (sSeq m' k ρ1)) : P (sSeq (sIf t m m') k ρ) := by
  cases p with
  | true =>
    have := h1 rfl
    unfold sSeq at this ⊢
    have e : sIf t m m' ρ = m ρ1 := e_bd ht rfl
    rw [e]; exact this
  | false =>
    have := h2 rfl
    unfold sSeq at this ⊢
    have e : sIf t m m' ρ = m' ρ1 := e_bd ht rfl
    rw [e]; exact this
theorem st_par {is : List Nat} {fs : List Bool} (h : l ρ = some (ds, ρ1)) (hs : stAll is fs ds ρ1 = some ρ2) (hk : P (k ρ2)) : P (sSeq (sPar is fs l) k ρ) := st_run (e_bd h (by simp only [hs])) hk
theorem st_asg {g : D → Mo Unit} {u : Unit} (h : a ρ = some (d, ρ1)) (hg : g d ρ1 = some (u, ρ2)) (hk : P (k ρ2)) : P (sSeq (sAsg a g) k ρ) := st_run (e_bd h (e_bd hg rfl)) hk
theorem st_app {ds : List D} (h0 : ρ[i]? = some (.own p (.lst ds))) (h : a ρ = some (d, ρ1)) {es : List D} (h1 : ρ1[i]? = some (.own q (.lst es))) (hl : es.length < sizeLine) (hk : P (k (ρ1.set i (.own q (.lst (es ++ [d])))))) : P (sSeq (sAppV i a) k ρ) := by
  refine st_run ?_ hk
  unfold sAppV
  rw [if_pos (by unfold ownsL; rw [h0])]
  refine e_bd h ?_
  simp only [h1]
  exact if_pos hl
theorem st_fld {C : Addr} {s : Str} {ns : List Str} {es : List D} (h : a ρ = some (d, ρ1)) (h1 : ρ1[i]? = some (.own q (.ins C ns es))) (hl : es.length < 1000) (hk : P (k (ρ1.set i (.own q (.ins C (putN s ns) (putD s d ns es)))))) : P (sSeq (sFldV C i s a) k ρ) := by
  refine st_run (e_bd h ?_) hk
  rw [h1]
  exact if_pos ⟨rfl, hl⟩
theorem g_nm {d : D} : gNm i d ρ = some ((), ρ.set i (.dat d)) := rfl
theorem g_putE {d0 : D} {ds es : List D} {n : Int} {j : Nat} (h0 : ρ[i]? = some (.own p d0)) (hb : b ρ = some (.int n, ρ1)) (h1 : ρ1[i]? = some (.own q (.lst es))) (hj : ixN es.length n = some j) : gPut i b d ρ = some ((), ρ1.set i (.own q (.lst (es.set j d)))) := by
  unfold gPut
  rw [if_pos (by unfold owns; rw [h0])]
  refine e_bd hb ?_
  unfold putL
  simp only [h1, int?, hj]
/-- a loop's body: on; broken; returned -/
def BodyQ (N B : Cs → Prop) (R : Option (Fl × Cs) → Prop) : Option (Fl × Cs) → Prop
  | some (.nx, ρ) | some (.ct, ρ) => N ρ
  | some (.bk, ρ) => B ρ
  | some (.rt d, ρ) => R (some (.rt d, ρ))
  | _ => False
theorem goFor_inv {α : Type} {g : D → Mo Unit} {b : Mo Fl} {enc : α → D} {R : Option (Fl × Cs) → Prop} {k : Mo Fl} : ∀ (xs done : List α) (ρ : Cs) (I : List α → Cs → Prop), I done ρ →
    (∀ ys x zs ρ, done ++ xs = ys ++ x :: zs → I ys ρ → ∃ u ρ1, g (enc x) ρ = some (u, ρ1) ∧ BodyQ (I (ys ++ [x])) (fun ρ' => R (k ρ')) R (b ρ1)) → (∀ ρ, I (done ++ xs) ρ → R (k ρ)) → R (match goFor g b (xs.map enc) ρ with
      | some (.nx, ρ') => k ρ'
      | r => r)
  | [], done, ρ, I, h0, hs, hd => by
    rw [List.append_nil] at hd
    exact hd ρ h0
  | x :: xs, done, ρ, I, h0, hs, hd => by
    obtain ⟨u, ρ1, hg, hb⟩ := hs done x xs ρ rfl h0
    rw [List.map_cons]
    unfold goFor
    rw [hg]
    simp only
    have go : ∀ ρ2, I (done ++ [x]) ρ2 → R (match goFor g b (xs.map enc) ρ2 with
      | some (.nx, ρ') => k ρ'
      | r => r) := fun ρ2 h2 => goFor_inv xs (done ++ [x]) ρ2 I h2 (fun ys y zs ρ e hy => hs ys y zs ρ (by rw [← e, List.append_assoc]; rfl) hy) fun ρ h => hd ρ (by rw [List.append_assoc] at h; exact h)
    cases eb : b ρ1 with
    | none => rw [eb] at hb; exact hb.elim
    | some r =>
      obtain ⟨f, ρ2⟩ := r
      rw [eb] at hb
      cases f with
      | nx => exact go ρ2 hb
      | ct => exact go ρ2 hb
      | bk => exact hb
      | rt d => exact hb
      | rn d => exact hb.elim
/-- for x in xs -/
theorem st_for {α : Type} {it : Mo (List D)} {g : D → Mo Unit} {enc : α → D} {xs : List α} (hi : it ρ = some (xs.map enc, ρ1)) (I : List α → Cs → Prop) (h0 : I [] ρ1)
    (hs : ∀ ys x zs ρ, xs = ys ++ x :: zs → I ys ρ → ∃ u ρ1, g (enc x) ρ = some (u, ρ1) ∧ BodyQ (I (ys ++ [x])) (fun ρ' => P (k ρ')) P (m ρ1)) (hd : ∀ ρ, I xs ρ → P (k ρ)) : P (sSeq (sFor it g m) k ρ) := by
  have := goFor_inv (g := g) (b := m) (enc := enc) (R := P) (k := k) xs [] ρ1 I h0 hs hd
  have e : sFor it g m ρ = goFor g m (xs.map enc) ρ1 := e_bd hi rfl
  unfold sSeq
  rw [e]
  exact this
theorem goLc_inv {α : Type} {vs : List Nat} {g : D → Mo Unit} {t : Mo Bool} {e : Mo D} {enc : α → D} : ∀ (xs done : List α) (acc : List D) (ρ : Cs) (I : List α → List D → Cs → Prop), I done acc ρ → acc.length + xs.length ≤ sizeLine → (∀ done acc ρ, I done acc ρ → acc.length ≤ done.length) → done.length + xs.length ≤ sizeLine →
    (∀ ys x zs acc ρ, done ++ xs = ys ++ x :: zs → I ys acc ρ → ∃ u ρ1 p ρ2, g (enc x) (clr vs ρ) = some (u, ρ1) ∧ t ρ1 = some (p, ρ2) ∧ (p = false → I (ys ++ [x]) acc ρ2) ∧ (p = true → ∃ y ρ3, e ρ2 = some (y, ρ3) ∧ I (ys ++ [x]) (acc ++ [y]) ρ3)) →
    ∃ acc' ρ', goLc vs g t e (xs.map enc) acc ρ = some (acc', ρ') ∧ I (done ++ xs) acc' ρ'
  | [], done, acc, ρ, I, h0, _, _, _, _ => ⟨acc, ρ, rfl, by rw [List.append_nil]; exact h0⟩
  | x :: xs, done, acc, ρ, I, h0, hl, hln, hdl, hs => by
    obtain ⟨u, ρ1, p, ρ2, hg, ht, hf, hp⟩ := hs done x xs acc ρ rfl h0
    rw [List.length_cons] at hl hdl
    rw [List.map_cons]
    unfold goLc
    simp only [hg, ht]
    have go : ∀ acc2 ρ2, I (done ++ [x]) acc2 ρ2 → acc2.length + xs.length ≤ sizeLine → ∃ acc' ρ', goLc vs g t e (xs.map enc) acc2 ρ2 = some (acc', ρ') ∧ I (done ++ x :: xs) acc' ρ' := fun acc2 ρ2 h2 hl2 => by
      have := goLc_inv xs (done ++ [x]) acc2 ρ2 I h2 hl2 hln (by rw [List.length_append, List.length_singleton]; omega) (fun ys y zs acc ρ e hy => hs ys y zs acc ρ (by rw [← e, List.append_assoc]; rfl) hy)
      rw [List.append_assoc] at this
      exact this
    cases p with
    | false => exact go acc ρ2 (hf rfl) (by omega)
    | true =>
      obtain ⟨y, ρ3, he, hI⟩ := hp rfl
      simp only [he]
      rw [if_pos (by omega)]
      exact go _ ρ3 hI (by rw [List.length_append, List.length_singleton]; omega)
/-- [e for x in xs if t] -/
theorem e_lc {α : Type} {vs : List Nat} {it : Mo (List D)} {g : D → Mo Unit} {t : Mo Bool} {e : Mo D} {enc : α → D} {xs : List α} (hi : it ρ = some (xs.map enc, ρ1)) (hf : free vs ρ1 = true) (I : List α → List D → Cs → Prop) (h0 : I [] [] (clr vs ρ1)) (hln : ∀ done acc ρ, I done acc ρ → acc.length ≤ done.length) (hxl : xs.length ≤ sizeLine)
    (hs : ∀ ys x zs acc ρ, xs = ys ++ x :: zs → I ys acc ρ → ∃ u ρ1 p ρ2, g (enc x) (clr vs ρ) = some (u, ρ1) ∧ t ρ1 = some (p, ρ2) ∧ (p = false → I (ys ++ [x]) acc ρ2) ∧ (p = true → ∃ y ρ3, e ρ2 = some (y, ρ3) ∧ I (ys ++ [x]) (acc ++ [y]) ρ3)) :
    ∃ acc ρ', mLc vs it g t e ρ = some (.lst acc, back vs ρ1 (clr vs ρ')) ∧ I xs acc ρ' := by
  obtain ⟨acc, ρ', h1, h2⟩ := goLc_inv (vs := vs) (g := g) (t := t) (e := e) (enc := enc) xs [] [] (clr vs ρ1) I h0 (by rw [List.length_nil, Nat.zero_add]; exact hxl) hln (by rw [List.length_nil, Nat.zero_add]; exact hxl) hs
  refine ⟨acc, ρ', e_bd hi ?_, h2⟩
  rw [if_pos hf, h1]
/-- .. when nothing but its own slots changes, and each item gives one -/
theorem goLc_map {α : Type} {vs : List Nat} {g : D → Mo Unit} {e : Mo D} {enc f : α → D} {ρ0 : Cs} : ∀ (xs : List α) (acc : List D) (ρ : Cs), clr vs ρ = ρ0 → acc.length + xs.length ≤ sizeLine →
    (∀ x ∈ xs, ∃ u ρ1, g (enc x) ρ0 = some (u, ρ1) ∧ ∃ ρ3, e ρ1 = some (f x, ρ3) ∧ clr vs ρ3 = ρ0) → ∃ ρ', goLc vs g (mC true) e (xs.map enc) acc ρ = some (acc ++ xs.map f, ρ') ∧ clr vs ρ' = ρ0
  | [], acc, ρ, h, _, _ => ⟨ρ, by rw [List.map_nil, List.map_nil, List.append_nil]; rfl, h⟩
  | x :: xs, acc, ρ, h, hl, hs => by
    obtain ⟨u, ρ1, hg, ρ3, he, hc⟩ := hs x List.mem_cons_self
    rw [List.length_cons] at hl
    rw [List.map_cons, List.map_cons]
    unfold goLc
    rw [h]
    simp only [hg, e_c, he]
    rw [if_pos (by omega)]
    obtain ⟨ρ', q1, q2⟩ := goLc_map xs (acc ++ [f x]) ρ3 hc (by rw [List.length_append, List.length_singleton]; omega) fun y hy => hs y (List.mem_cons_of_mem _ hy)
    exact ⟨ρ', by rw [q1, List.append_assoc]; rfl, q2⟩
theorem e_lcm {α : Type} {vs : List Nat} {it : Mo (List D)} {g : D → Mo Unit} {e : Mo D} {enc f : α → D} {xs : List α} (hi : it ρ = some (xs.map enc, ρ1)) (hf : free vs ρ1 = true) (hxl : xs.length ≤ sizeLine)
    (hs : ∀ x ∈ xs, ∃ u ρ2, g (enc x) (clr vs ρ1) = some (u, ρ2) ∧ ∃ ρ3, e ρ2 = some (f x, ρ3) ∧ clr vs ρ3 = clr vs ρ1) (hcc : clr vs (clr vs ρ1) = clr vs ρ1) : mLc vs it g (mC true) e ρ = some (.lst (xs.map f), back vs ρ1 (clr vs ρ1)) := by
  obtain ⟨ρ', h1, h2⟩ := goLc_map (vs := vs) (g := g) (e := e) (enc := enc) (f := f) (ρ0 := clr vs ρ1) xs [] (clr vs ρ1) hcc (by rw [List.length_nil, Nat.zero_add]; exact hxl) hs
  refine e_bd hi ?_
  rw [if_pos hf, h1]
  simp only [List.nil_append, h2]
end
def RetQ (Q : D → Prop) (r : Option (Fl × Cs)) : Prop := ∃ d, fin1 r = some d ∧ Q d
def RetNw (Q : D → Prop) (r : Option (Fl × Cs)) : Prop := ∃ d, fin3 r = some d ∧ Q d
def RetO (Q : D → D → Prop) (r : Option (Fl × Cs)) : Prop := ∃ d e, fin2 r = some (d, e) ∧ Q d e
section
variable {ρ : Cs} {d e : D} {Q : D → Prop} {R : D → D → Prop} {m n : Nat} {b : Mo Fl} {ds : List D} {d0 : D}
theorem rq_rt (q : Q d) : RetQ Q (some (.rt d, ρ)) := ⟨d, rfl, q⟩
theorem rn_rn (q : Q d) : RetNw Q (some (.rn d, ρ)) := ⟨d, rfl, q⟩
theorem ro_rt (q : R d e) : RetO R (some (.rt d, .own true e :: ρ)) := ⟨d, e, rfl, q⟩
theorem ro_nx (q : R .non e) : RetO R (some (.nx, .own true e :: ρ)) := ⟨.non, e, rfl, q⟩
theorem retF (h : RetQ (fun r => r = d) (b (cells ds n))) (hl : ds.length = m := by rfl) : runF m n b ds = some d := by
  obtain ⟨x, h1, rfl⟩ := h
  unfold runF
  rw [if_pos hl, h1]
theorem retOE (h : RetO R (b (.own true d0 :: cells ds n))) (hl : ds.length + 1 = m := by rfl) : ∃ d e, runO m n b d0 ds = some (d, e) ∧ R d e := by
  obtain ⟨x, y, h1, q⟩ := h
  exact ⟨x, y, by unfold runO; rw [if_pos hl, h1], q⟩
theorem retNE (h : RetNw Q (b (cells ds n))) (hl : ds.length = m := by rfl) : ∃ d, runN m n b ds = some d ∧ Q d := by
  obtain ⟨x, h1, q⟩ := h
  exact ⟨x, by unfold runN; rw [if_pos hl, h1], q⟩
end
section
variable {ρ ρ1 : Cs} {a : Mo D} {t : Mo Bool} {i : Nat} {C : Addr} {s : Str} {l : Mo (List D)} {is : List Nat} {fs : List Bool} {g : D → Mo Unit} {it : Mo (List D)} {n : Cs → Nat} {m m' : Mo Fl} {P : Option (Fl × Cs) → Prop}
theorem sw_ret (h : P (sSeq (sRet a) sNx ρ)) : P (sRet a ρ) := st_one h
theorem sw_retNew (h : P (sSeq (sRetNew a) sNx ρ)) : P (sRetNew a ρ) := st_one h
theorem sw_retN (h : P (sSeq sRetN sNx ρ)) : P (sRetN ρ) := st_one h
theorem sw_if (h : P (sSeq (sIf t m m') sNx ρ)) : P (sIf t m m' ρ) := st_one h
theorem sw_set (h : P (sSeq (sSet i a) sNx ρ)) : P (sSet i a ρ) := st_one h
theorem sw_setN (h : P (sSeq (sSetN i a) sNx ρ)) : P (sSetN i a ρ) := st_one h
theorem sw_app (h : P (sSeq (sAppV i a) sNx ρ)) : P (sAppV i a ρ) := st_one h
theorem sw_asg (h : P (sSeq (sAsg a g) sNx ρ)) : P (sAsg a g ρ) := st_one h
theorem sw_par (h : P (sSeq (sPar is fs l) sNx ρ)) : P (sPar is fs l ρ) := st_one h
theorem sw_fld (h : P (sSeq (sFldV C i s a) sNx ρ)) : P (sFldV C i s a ρ) := st_one h
theorem sw_drop (h : P (sSeq (sDrop a) sNx ρ)) : P (sDrop a ρ) := st_one h
theorem sw_for (h : P (sSeq (sFor it g m) sNx ρ)) : P (sFor it g m ρ) := st_one h
theorem sw_nx (h : P (some (.nx, ρ))) : P (sNx ρ) := h
theorem sw_ct (h : P (some (.ct, ρ))) : P (sCt ρ) := h
theorem sw_bk (h : P (some (.bk, ρ))) : P (sBk ρ) := h
end
@[simp] theorem isTy_tt : isTy "tuple" "tuple" = true := rfl
@[simp] theorem isTy_ii : isTy "int" "int" = true := rfl
@[simp] theorem isTy_ib : isTy "int" "bool" = false := rfl
@[simp] theorem isTy_ss : isTy "str" "str" = true := rfl
@[simp] theorem isTy_nt : isTy "NoneType" "tuple" = false := rfl
@[simp] theorem isTy_ns : isTy "NoneType" "str" = false := rfl
@[simp] theorem isTy_is : isTy "int" "str" = false := rfl
theorem len_le {n : Nat} (h : n ≤ 1000) : n ≤ sizeLine := Nat.le_trans h (by decide)
theorem rng_ok {n : Nat} (h : n ≤ 1000000) : rng1? [.int (n : Int)] = some ((List.range n).map fun k : Nat => D.int (0 + (k : Int))) := by
  have e : rng1? [.int (n : Int)] = if -(2 ^ 62) ≤ (n : Int) ∧ (n : Int) < 2 ^ 62 then some (rngD 0 (n : Int).toNat) else none := rfl
  rw [e, if_pos (by omega), Int.toNat_natCast]
  rfl
end DL
open PySem PySem.Spec PyProof.Rows L2 DL
set_option hygiene false
local macro_rules
  | `(tactic| refine_lift' evl) => `(tactic| first | rfl | assumption | (exact if_pos (by assumption)) | decide | (exact DL.len_le (by simp)) | (exact Nat.le_of_ble_eq_true rfl))
  | `(tactic| refine_lift' evl [$ls,*]) => do
    let alts ← ls.getElems.mapM fun t => `(tacticSeq| exact $t)
    let mut r ← `(tactic| first | rfl | assumption | (exact if_pos (by assumption)) | decide | (exact DL.len_le (by simp)) | (exact Nat.le_of_ble_eq_true rfl))
    for t in ls.getElems.reverse do
      r ← `(tactic| first | exact $t | $r:tactic)
    for t in ls.getElems.reverse do
      r ← `(tactic| first | with_reducible exact $t | $r:tactic)
    return r
local macro_rules
  | `(tactic| refine_lift' evx) => `(tactic| assumption)
  | `(tactic| refine_lift' evx [$ls,*]) => do
    let mut r ← `(tactic| assumption)
    for t in ls.getElems.reverse do
      r ← `(tactic| first | exact $t | $r:tactic)
    return r
local macro_rules
  | `(tactic| refine_lift' ev) => `(tactic| refine_lift' ev [])
  | `(tactic| refine_lift' ev [$ls,*]) => `(tactic| with_reducible first
      | refine_lift' evx [$ls,*] | exact e_c | exact e_anil | exact e_no
      | (apply e_var; (focus (with_unfolding_all rfl)))
      | (apply e_op; (focus (refine_lift' ev [$ls,*])); (focus (refine_lift' ev [$ls,*])); (focus (with_unfolding_all refine_lift' evl [$ls,*])))
      | (apply e_acons; (focus (refine_lift' ev [$ls,*])); (focus (refine_lift' ev [$ls,*])))
      | (apply e_fn; (focus (refine_lift' ev [$ls,*])); (focus (with_unfolding_all refine_lift' evl [$ls,*])))
      | (apply e_un; (focus (refine_lift' ev [$ls,*])); (focus (with_unfolding_all refine_lift' evl [$ls,*])))
      | (apply e_tst; (focus (refine_lift' ev [$ls,*])))
      | (apply e_tup; (focus (refine_lift' ev [$ls,*])); (focus (with_unfolding_all refine_lift' evl [$ls,*])))
      | (apply e_lst; (focus (refine_lift' ev [$ls,*])); (focus (with_unfolding_all refine_lift' evl [$ls,*])))
      | (apply e_chain; (focus (refine_lift' ev [$ls,*])); (focus (refine_lift' ev [$ls,*])); (focus (with_unfolding_all refine_lift' evl [$ls,*])); (focus (refine_lift' ev [$ls,*])); (focus (with_unfolding_all refine_lift' evl [$ls,*])))
      | (apply e_notV; (focus (refine_lift' ev [$ls,*])))
      | (apply e_andV; (focus (refine_lift' ev [$ls,*])); (focus (refine_lift' ev [$ls,*])))
      | (apply e_orV; (focus (refine_lift' ev [$ls,*])); (focus (refine_lift' ev [$ls,*])))
      | (apply e_not; (focus (refine_lift' ev [$ls,*])))
      | (apply e_and; (focus (refine_lift' ev [$ls,*])); (focus (refine_lift' ev [$ls,*])))
      | (apply e_or; (focus (refine_lift' ev [$ls,*])); (focus (refine_lift' ev [$ls,*])))
      | (apply e_part; (focus (refine_lift' ev [$ls,*])))
      | (apply e_sl; (focus (refine_lift' ev [$ls,*])); (focus (refine_lift' ev [$ls,*])); (focus (refine_lift' ev [$ls,*])); (focus (with_unfolding_all refine_lift' evl [$ls,*])))
      | (apply e_ixO; (focus (with_unfolding_all rfl)); (focus (refine_lift' ev [$ls,*])); (focus (with_unfolding_all rfl)); (focus (with_unfolding_all refine_lift' evl [$ls,*])))
      | (apply e_ixD; (focus (with_unfolding_all rfl)); (focus (refine_lift' ev [$ls,*])); (focus (with_unfolding_all refine_lift' evl [$ls,*])))
      | (apply e_fnPo; (focus (with_unfolding_all rfl)); (focus (with_unfolding_all refine_lift' evl [$ls,*])); (focus (with_unfolding_all rfl)))
      | (apply e_fnPd; (focus (with_unfolding_all rfl)); (focus (with_unfolding_all refine_lift' evl [$ls,*])))
      | (apply e_rtO; (focus (refine_lift' ev [$ls,*])); (focus (with_unfolding_all rfl)); (focus (with_unfolding_all refine_lift' evl [$ls,*])); (focus (with_unfolding_all rfl)))
      | (apply e_rtD; (focus (refine_lift' ev [$ls,*])); (focus (with_unfolding_all rfl)); (focus (with_unfolding_all refine_lift' evl [$ls,*])))
      | (apply e_ltO; (focus (with_unfolding_all rfl)); (focus (refine_lift' ev [$ls,*])); (focus (with_unfolding_all rfl)); (focus (with_unfolding_all refine_lift' evl [$ls,*])); (focus (with_unfolding_all rfl)))
      | (apply e_ltD; (focus (with_unfolding_all rfl)); (focus (refine_lift' ev [$ls,*])); (focus (with_unfolding_all refine_lift' evl [$ls,*])))
      | (apply e_callO; (focus (with_unfolding_all rfl)); (focus (refine_lift' ev [$ls,*])); (focus (with_unfolding_all rfl)); (focus (with_unfolding_all refine_lift' evl [$ls,*])))
      | (apply e_callNew; (focus (refine_lift' ev [$ls,*])); (focus (refine_lift' ev [$ls,*])); (focus (with_unfolding_all refine_lift' evl [$ls,*])))
      | (apply e_star; (focus (refine_lift' ev [$ls,*])); (focus (refine_lift' ev [$ls,*])))
      | (apply e_prop; (focus (refine_lift' ev [$ls,*])); (focus (with_unfolding_all refine_lift' evl [$ls,*])))
      | (apply e_fld; (focus (refine_lift' ev [$ls,*])); (focus (with_unfolding_all refine_lift' evl [$ls,*])))
      | (apply e_meth; (focus (refine_lift' ev [$ls,*])); (focus (with_unfolding_all refine_lift' evl [$ls,*])); (focus (refine_lift' ev [$ls,*])); (focus (with_unfolding_all refine_lift' evl [$ls,*])))
      | (apply e_make; (focus (refine_lift' ev [$ls,*])); (focus (with_unfolding_all refine_lift' evl [$ls,*])))
      | (apply e_kw; (focus (refine_lift' ev [$ls,*])); (focus (refine_lift' ev [$ls,*])); (focus (with_unfolding_all rfl)); (focus (with_unfolding_all rfl)); (focus (with_unfolding_all refine_lift' evl [$ls,*])))
      | (apply e_if; (focus (refine_lift' ev [$ls,*])); (focus (intro _; refine_lift' ev [$ls,*])); (focus (intro _; refine_lift' ev [$ls,*])))
      | (apply e_varO; (focus (with_unfolding_all rfl))))
local macro_rules
  | `(tactic| refine_lift' eva) => `(tactic| refine_lift' eva [])
  | `(tactic| refine_lift' eva [$ls,*]) => `(tactic| (apply e_as; (focus (refine_lift' ev [$ls,*])); (focus (with_unfolding_all rfl)); (focus (with_unfolding_all rfl))))
local macro_rules
  | `(tactic| refine_lift' st) => `(tactic| refine_lift' st [])
  | `(tactic| refine_lift' st [$ls,*]) => `(tactic| with_reducible (first | apply sw_ret | apply sw_if | apply sw_set | apply sw_setN | apply sw_app | apply sw_asg | apply sw_par | apply sw_fld | apply sw_drop | apply sw_for | apply sw_retN | apply sw_retNew | skip) <;> first
      | apply sw_nx | apply sw_ct | apply sw_bk | apply st_assoc | apply st_nx | apply st_retN
      | (apply st_set; (focus (refine_lift' ev [$ls,*])))
      | (apply st_setN; (focus (refine_lift' ev [$ls,*])))
      | (apply st_par; (focus (refine_lift' ev [$ls,*])); (focus (with_unfolding_all rfl)))
      | (apply st_ret; (focus (refine_lift' ev [$ls,*])))
      | (apply st_drop; (focus (refine_lift' ev [$ls,*])))
      | (apply st_retNew; (focus (refine_lift' ev [$ls,*])))
      | (apply st_fld; (focus (refine_lift' ev [$ls,*])); (focus (with_unfolding_all rfl)); (focus (with_unfolding_all refine_lift' evl [$ls,*])))
      | (apply st_app; (focus (with_unfolding_all rfl)); (focus (refine_lift' ev [$ls,*])); (focus (with_unfolding_all rfl)); (focus (with_unfolding_all refine_lift' evl [$ls,*])))
      | (apply st_asg; (focus (refine_lift' ev [$ls,*])); (focus (with_unfolding_all first | rfl | (apply g_putE; (focus rfl); (focus (refine_lift' ev [$ls,*])); (focus rfl); (focus (refine_lift' evl [$ls,*]))))))
      | (apply st_if; (focus (refine_lift' ev [$ls,*]))))
set_option autoImplicit false
namespace DL
open PySem PySem.Spec PyProof.Rows L2
end DL
set_option autoImplicit false
namespace DL
open PySem PySem.Spec PyProof.Rows L2
/-- a zip that has given out f0, if anything -/
abbrev ZipO (TI TO : Addr) (f0 f1 : Value) : Obj := { cls := .type "zip", dict := none, data := .fields #[f0, f1, .bool false, .ref TI, .ref TO], slots := #[] }
section
variable {P : Program} {w : World} {A : Around} {E : Value → Shared → Prop} {s : Shared}
theorem if_alive {a : Addr} {Q : Option Obj → Shared → Prop} (h : Q (s.heap.get? a) s) : wpAny (model P w) A (loadIfAlive a) Q E s := by
  intro Γ p _
  simp only [loadIfAlive, Sem.wp_loadIfAlive]
  exact h
/-- none is left: it ends, the last pair kept or none given out yet -/
theorem zip_keeps_end {z TI TO i1 i2 l1 l2 T : Addr} {o : Obj} {f1 : Value} {k1 k2 : Nat} {xs ys : Array Value} {Q : Fin → Shared → Prop} (hd : A.handled = none) (D : ZipApart z TI TO i1 i2 l1 l2) (hz : s.heap.get? z = some (ZipO TI TO (rawInt T) f1)) (hT : s.heap.get? T = some o)
    (hTI : IsPair s.heap TI (.ref i1) (.ref i2)) (h1 : s.heap.IsListIter i1 l1 k1) (h2 : s.heap.IsListIter i2 l2 k2) (hl1 : s.heap.IsList l1 xs) (hl2 : s.heap.IsList l2 ys) (hend : xs[k1]? = none ∨ ys[k2]? = none)
    (q : ∀ h' e, (∀ c o, c ≠ z → c ≠ i1 → c ≠ i2 → s.heap.get? c = some o → h'.get? c = some o) → (∃ o, h'.get? e = some o ∧ o.cls = .type "StopIteration") → E (.ref e) { s with heap := h' }) :
    wpAny (model P w) A (Builtin.«zip.__next__» ⟨[.ref z], []⟩) Q E s := by
  show wpAny _ _ (field (.ref z) 2 >>= _) _ _ _
  refine wpAny_bind (wpAny_field hz rfl (x := .bool false) rfl (wpAny_bind (wpAny_field hz rfl (x := .ref TI) rfl (wpAny_bind (wpAny_seqItems hTI rfl (wpAny_bind ?_))))))
  unfold Builtin.SmallTypes.ownedTupleIsFree
  refine wpAny_bind (wpAny_field hz rfl (x := rawInt T) rfl (wpAny_bind (if_alive ?_)))
  have hT' : s.heap.get? (((T : Nat) : Int).toNat) = some o := by rw [Int.toNat_natCast]; exact hT
  rw [hT']
  simp only [Option.isNone_some, Bool.false_eq_true, if_false]
  refine wpAny_bind (wpAny_field hz rfl (x := f1) rfl ?_)
  refine wpAny_mono (Q := fun a s' => a = false ∧ ∃ h0 f, s' = { s with heap := h0 } ∧ h0.get? z = some (ZipO TI TO (rawInt T) f) ∧ Heap.SameBut z s.heap h0) (E := E) ?_ ?_ fun _ _ e => e
  · by_cases hf : (f1 != Value.bool true) = true
    · rw [if_pos hf]
      exact wpAny_bind (wpAny_setField_rec hz (by simp) fun h0 z0 s0 => wpAny_pure ⟨rfl, h0, _, rfl, z0, s0⟩)
    · rw [if_neg hf]
      exact wpAny_pure ⟨rfl, s.heap, f1, rfl, hz, rfl, fun _ _ => rfl⟩
  · rintro a s' ⟨rfl, h0, f, rfl, z0, s0⟩
    rw [if_neg (by decide)]
    simp only [← Array.forIn_toList, List.forIn_cons, List.forIn_nil]
    refine wpAny_bind (wpAny_bind (wpAny_bind (wpAny_holding ?_)))
    show wpAny _ _ (Builtin.SmallTypes.nextOf (.ref i1) >>= _) _ _ _
    cases hx : xs[k1]? with
    | none =>
      exact wpAny_bind (wpAny_nextOf_list_end hd (h1.extBut s0.extBut D.i1z) (hl1.extBut s0.extBut D.l1z) hx fun h2' e s1 he => q h2' e (fun c o c1 c2 _ x => s1 _ _ c2 (s0.extBut _ _ c1 x)) he)
    | some x =>
      have hy : ys[k2]? = none := hend.elim (fun z => by rw [hx] at z; cases z) id
      refine wpAny_bind (wpAny_nextOf_list_item (h1.extBut s0.extBut D.i1z) (hl1.extBut s0.extBut D.l1z) hx fun h2' j1 s1 => wpAny_pure (wpAny_pure ?_))
      refine wpAny_bind (wpAny_bind (wpAny_holding ?_))
      show wpAny _ _ (Builtin.SmallTypes.nextOf (.ref i2) >>= _) _ _ _
      exact wpAny_bind (wpAny_nextOf_list_end hd ((h2.extBut s0.extBut D.i2z).extBut s1.extBut D.i12.symm) ((hl2.extBut s0.extBut D.l2z).extBut s1.extBut D.l2i1) hy fun h3' e s2 he => q h3' e (fun c o c1 c2 c3 x => s2 _ _ c3 (s1.extBut _ _ c2 (s0.extBut _ _ c1 x))) he)
end
/-- where a zip stands at the i-th pair, while the list at S keeps all pairs given out so far -/
structure ZAt (h : Heap) (z TI TO i1 i2 l1 l2 S : Addr) (xs ys : Array Value) (i : Nat) : Prop where
  zip : (∃ a b, IsZip h z TI TO .none ∧ IsPair h TO a b) ∨ ∃ (T : Addr) (o : Obj) (f : Value), h.get? z = some (ZipO TI TO (rawInt (T : Nat)) f) ∧ h.get? T = some o ∧ T ≠ z ∧ T ≠ i1 ∧ T ≠ i2 ∧ T ≠ S
  pair : IsPair h TI (.ref i1) (.ref i2)
  it1 : h.IsListIter i1 l1 i
  it2 : h.IsListIter i2 l2 i
  ls1 : h.IsList l1 xs
  ls2 : h.IsList l2 ys
section
variable {P : Program} {w : World} {A : Around} {E : Value → Shared → Prop} {s : Shared} {z TI TO i1 i2 l1 l2 S : Addr} {xs ys : Array Value} {i : Nat}
theorem ZAt.ty (Z : ZAt s.heap z TI TO i1 i2 l1 l2 S xs ys i) : s.TypeIs (.ref z) "zip" := by
  rcases Z.zip with ⟨_, _, h, _⟩ | ⟨_, _, _, h, _⟩
  · exact ⟨_, h, rfl⟩
  · exact ⟨_, h, rfl⟩
theorem ZAt.done (hd : A.handled = none) (D : ZipApart z TI TO i1 i2 l1 l2) (Z : ZAt s.heap z TI TO i1 i2 l1 l2 S xs ys i) (he : xs[i]? = none ∨ ys[i]? = none) {Q : Option Value → Shared → Prop}
    (q : ∀ h', (∀ c o, c ≠ z → c ≠ TO → c ≠ i1 → c ≠ i2 → s.heap.get? c = some o → h'.get? c = some o) → Q none { s with heap := h' }) : wpAny (model P w) A (pyNext (.ref z)) Q E s := by
  rcases Z.zip with ⟨a, b, hz, hTO⟩ | ⟨T, o, f, hz, hT, _⟩
  · exact wpAny_pyNext_zip_end hd D hz Z.pair hTO Z.it1 Z.it2 Z.ls1 Z.ls2 he q
  · unfold pyNext
    refine wpAny_bind (wpAny_attempt (wpAny_callSpecial?_slot (name := Str.ofString "__next__") Z.ty F.slot_zip_next (wpAny_call_entry F.slot_zip_next Z.ty F.entry_zip_next (zip_keeps_end hd D hz hT Z.pair Z.it1 Z.it2 Z.ls1 Z.ls2 he fun h' e k x => ?_) (F.args_zip_next_1 _))))
    obtain ⟨o, ho, hc⟩ := x
    exact wpAny_bind (wpAny_isInstance (T := "StopIteration") (b := true) ⟨o, ho, hc⟩ isSubtype_stop (wpAny_pure (q _ fun c o c1 _ c3 c4 e => k c o c1 c3 c4 e)))
end
end DL
set_option autoImplicit false
namespace DL
open PySem PySem.Spec PyProof.Rows L2
end DL
set_option autoImplicit false
namespace DL
open PySem PySem.Spec PyProof.Rows L2
end DL
set_option autoImplicit false
namespace DL
open PySem PySem.Spec PyProof.Rows L2
end DL
set_option autoImplicit false
namespace DL
open PySem PySem.Spec PyProof.Rows L2
end DL
set_option autoImplicit false
namespace DL
open PySem PySem.Spec PyProof.Rows L2
end DL
set_option autoImplicit false
namespace DL
open PySem PySem.Spec PyProof.Rows L2
end DL
set_option autoImplicit false
namespace DL
open PySem PySem.Spec PyProof.Rows L2
end DL
set_option autoImplicit false
namespace DL
open PySem PySem.Spec PyProof.Rows L2
end DL
set_option autoImplicit false
namespace DL
open PySem PySem.Spec PyProof.Rows L2
/-- the text of an entry -/
def txtE (e : Int × Value) : Str := match e.2 with
  | .str x _ => x
  | _ => ⟨#[]⟩
structure TxSet (w : World) (l : List (Int × Value)) (S : Str → Prop) : Prop where
  good : ∀ e ∈ l, ∃ x tk, e = (hashStr w x, Value.str x tk)
  nd : (l.map txtE).Nodup
  mem : ∀ x, x ∈ l.map txtE ↔ S x
theorem TxSet.perm {w : World} {l m : List (Int × Value)} {S : Str → Prop} (h : TxSet w l S) (p : m.Perm l) : TxSet w m S :=
  ⟨fun e z => h.good e (p.mem_iff.mp z), (p.map txtE).nodup_iff.mpr h.nd, fun x => (p.map txtE).mem_iff.trans (h.mem x)⟩
theorem TxSet.more {w : World} {l : List (Int × Value)} {S : Str → Prop} {x : Str} {tk : Tok} (h : TxSet w l S) (n : ¬ S x) : TxSet w ((hashStr w x, Value.str x tk) :: l) (fun y => S y ∨ y = x) := by
  refine ⟨fun e z => ?_, ?_, fun y => ?_⟩
  · rcases List.mem_cons.mp z with z | z
    · exact ⟨x, tk, z⟩
    · exact h.good e z
  · rw [List.map_cons]
    exact List.nodup_cons.mpr ⟨fun z => n ((h.mem x).mp z), h.nd⟩
  · rw [List.map_cons, List.mem_cons, h.mem y]
    exact Or.comm
/-- the set of texts at a place, which can be walked -/
def SetT (w : World) (h : Heap) (a : Addr) (S : Str → Prop) (n : Nat) : Prop :=
  ∃ o es ep t, h.get? a = some o ∧ o.ExactSet ∧ o.data = .set es ep t ∧ TxSet w es.toList S ∧ t.fits es.size = true ∧ es.size = n ∧ n < scanBound ∧ Ris t.place.toList ∧ (w.params.followText "set-order" = true ∨ t.led = true)
theorem SetT.at {w : World} {h h' : Heap} {a : Addr} {S : Str → Prop} {n : Nat} (R : SetT w h a S n) (k : ∀ o, h.get? a = some o → h'.get? a = some o) : SetT w h' a S n := by
  obtain ⟨o, es, ep, t, z, r⟩ := R
  exact ⟨o, es, ep, t, k o z, r⟩
end DL
set_option autoImplicit false
namespace DL
open PySem PySem.Spec PyProof.Rows L2
end DL
set_option autoImplicit false
namespace DL
open PySem PySem.Spec PyProof.Rows L2
end DL
set_option autoImplicit false
namespace DL
open PySem PySem.Spec PyProof.Rows L2
end DL
set_option autoImplicit false
namespace DL
open PySem PySem.Spec PyProof.Rows L2
end DL
set_option autoImplicit false
namespace DL
open PySem PySem.Spec PyProof.Rows L2
end DL
set_option autoImplicit false
namespace DL
open PySem PySem.Spec PyProof.Rows L2
end DL
set_option autoImplicit false
namespace DL
open PySem PySem.Spec PyProof.Rows L2
end DL
set_option autoImplicit false
namespace DL
open PySem PySem.Spec PyProof.Rows L2
def Hot (K : PySem.W.Frag) (M : Addr → Prop) (H : Hp) (v : V) (d : D) : Prop := ∃ b xs ds, d = .tup ds ∧ v = .ref b ∧ H b = some (.tup xs) ∧ DatAll K M H xs ds
def RKv {K : PySem.W.Frag} (c : Ctx K) (t : TE) (m : Mo D) : Prop := ∀ M σ H ρ, Sta c M σ H ρ → ∀ d ρ', m ρ = some (d, ρ') → ∀ Q : VK, (∀ M' v H', Es σ M H ρ σ M' H' ρ' → Sta c M' σ H' ρ' → Hot K M' H' v d → Q v H') → t σ H Q
section
variable {K : PySem.W.Frag} {c : Ctx K} {td ty tk tv ta : TE} {md my mk mv ma : Mo D} {tl : TA} {ml : Mo (List D)}
theorem RKv.ev (h : RKv c ta ma) : REv c ta ma := fun M σ H ρ S d ρ' e Q q => h M σ H ρ S d ρ' e Q fun M' v H' E S' hot => q M' v H' E S' (by
  obtain ⟨b, xs, ds, rfl, rfl, hb, hd⟩ := hot
  exact .tup (.inl (.inl hb)) hd)
end
end DL
set_option autoImplicit false
namespace DL
open PySem PySem.Spec PyProof.Rows L2
def eqI (C : Addr) (F : List D → Option D) (x y : D) : Option Bool := match x, y with
  | .ins B ns es, .ins B' ns' es' => if B = C ∧ B' = C then (match F [.ins B ns es, .ins B' ns' es'] with
    | some (.bl b) => some b
    | _ => none) else none
  | _, _ => none
def dEqI (C : Addr) (F : List D → Option D) : D → D → Option D := fun x y => (eqI C F x y).map .bl
def dNeI (C : Addr) (F : List D → Option D) : D → D → Option D := fun x y => (eqI C F x y).map fun b => .bl (!b)
theorem eqI_some {C : Addr} {F : List D → Option D} {x y : D} {b : Bool} (h : eqI C F x y = some b) : ∃ ns es ns' es', x = .ins C ns es ∧ y = .ins C ns' es' ∧ F [.ins C ns es, .ins C ns' es'] = some (.bl b) := by
  unfold eqI at h
  split at h
  · split at h
    · rename_i e
      obtain ⟨rfl, e2⟩ := e
      subst e2
      split at h
      · rename_i e
        cases h
        exact ⟨_, _, _, _, rfl, rfl, e⟩
      · cases h
    · cases h
  · cases h
section
variable {X : Cx} {C f : Addr} {fd : FuncData} {ps : List Str} {k m : Nat} {F : List D → Option D}
theorem two_run (G : FnOk X.prog X.w X.K X.mg X.base CX0 k f fd ps (spF X.K m F)) (hF : Takes m F) {A : Around} (sb : Sub X k A) (hb : Binds X.K fd ps []) {pins : List (Addr × Obj)} {σ : L2.St} {H : Hp} {s : Shared} {a c : Addr} {M : Addr → Prop} {x y : D} {b : Bool}
    {Q : Value → Shared → Prop} (I : Inv X pins σ H s) (km : Kind M H) (hx : Dat X.K M H (.ref a) x) (hy : Dat X.K M H (.ref c) y) (e : F [x, y] = some (.bl b))
    (q : ∀ s' H', Same H H' → Inv X pins σ H' s' → Q (.bool b) s') : wpAny (model X.prog X.w) A (call (.ref f) [.ref a, .ref c]) Q X.xe s := by
  have hsp : spF X.K m F [.ref a, .ref c] H (fun v H' => Same H H' ∧ v = .bl b) (fun _ _ _ => False) := ⟨M, _, _, km, .cons hx (.cons hy .nil), hF _ _ e, e, fun u H' sm hu => ⟨sm, by cases hu; rfl⟩⟩
  have e0 : Env0 X.prog X.w X.K X.mg X.base A X.stack s H := by
    have e := I.env0
    exact ⟨by rw [sb.fr]; exact e.frames, e.mod, e.bs, e.bsz, e.funs, e.frf, e.hok, e.bare⟩
  have hl := G.len _ _ _ _ hsp
  have r2 : Vals [V.ref a, V.ref c] [Value.ref a, Value.ref c] := .cons rfl (.cons rfl .nil)
  refine wpAny_call (codeAny_mono (G.run A X.stack s H ⟨[.ref a, .ref c], []⟩ [.ref a, .ref c] [.ref a, .ref c] _ _ sb.room e0 (by
    have := hb s [.ref a, .ref c] I.kIn (by simpa using hl)
    simpa using this) r2 hsp) fun r s' hq => ?_)
  cases r with
  | error e => exact (pass0 pins σ H s e s' I hq)
  | ok fl =>
    cases fl with
    | ret w =>
      obtain ⟨v, H', I', rz, sm, ez⟩ := I.after hq
      subst ez
      cases rz
      exact q s' H' sm I'
    | next => exact False.elim hq
    | brk => exact False.elim hq
    | cont => exact False.elim hq
theorem op_NEI (G : FnOk X.prog X.w X.K X.mg X.base CX0 k f fd ps (spF X.K m F)) (hF : Takes m F) (hr : Room (k + 1) X.A) (hne : PySem.W.findIn X.K (.ref C) "__ne__" = some (some (.builtin "object.__ne__"))) (hob : PySem.W.subIn X.K (.ref C) (.type "object") = some true)
    (hs : PySem.W.findIn X.K (.ref C) "__eq__" = some (some (.ref f))) (hf : PySem.W.isFn X.K (.ref f) = true) (hb : Binds X.K fd ps []) : OpR X (compareOp .NotEq) (rD X.K (dNeI C F)) := by
  intro pins s σ H x y v u Q I rx ry h
  obtain ⟨M, d, e, r, km, hx, hy, hg, q⟩ := h
  obtain ⟨b, h1, rfl⟩ := map_some hg
  obtain ⟨ns, es, ns', es', rfl, rfl, h2⟩ := eqI_some h1
  obtain ⟨a, dx, fs, rfl, _, hH, _, _⟩ := dat_ins hx
  obtain ⟨a', dx', fs', rfl, _, hH', _, _⟩ := dat_ins hy
  cases rx
  cases ry
  obtain ⟨mA, J, _⟩ := ins_get I.hok hH
  obtain ⟨od, J, _⟩ := J.look
  obtain ⟨mA', J', _⟩ := ins_get I.hok hH'
  obtain ⟨od', J', _⟩ := J'.look
  obtain ⟨m', hF'⟩ := I.fr
  show wpAny (model X.prog X.w) X.A (richCompare .NotEq (.ref a) (.ref a')) (EP X pins σ Q) X.xe s
  refine PySem.W.myNe_K (tb := .ref C) (by have := hr.units; omega) hF' I.ok.mod.kin J J'.type (by simp [PySem.W.notFirst]) hne hob hs hf ?_
  exact two_run G hF (Sub.in1 ⟨hr, rfl⟩) hb I km hx hy h2 fun s' H' sm I' => ⟨b, rfl, .bl (!b), H', I', rfl, q _ H' sm (.bl (!b))⟩
end
end DL
set_option autoImplicit false
namespace DL
open PySem PySem.Spec PyProof.Rows L2
end DL
set_option autoImplicit false
namespace DL
open PySem PySem.Spec PyProof.Rows L2
end DL
set_option autoImplicit false
namespace DL
open PySem PySem.Spec PyProof.Rows L2
structure Tab (pr : Params) (K : PySem.W.Frag) (mg : Str → Option Value) (x : Str) (kd : List (Str × Int)) (a : Addr) where
  g : mg x = some (.ref a)
  es : Array DictEntry
  n : Nat
  l : K.lookup a = some ⟨.type "dict", none, .dict es n, #[]⟩
  k : PySem.W.KeysLit pr es.toList
  s : (a == sysModules) = false
  i : ∀ p ∈ kd, ∃ t, PySem.W.nsIn K a p.1 = some (some (.int p.2 t))
def tabIx : List (Str × Int) → Str → Option Int
  | [], _ => none
  | p :: r, z => if p.1 = z then some p.2 else tabIx r z
theorem tabIx_mem {z : Str} {v : Int} : ∀ {kd : List (Str × Int)}, tabIx kd z = some v → (z, v) ∈ kd
  | p :: r, h => by
    rw [tabIx] at h
    split at h
    · rename_i e
      cases h
      subst e
      exact List.mem_cons_self
    · exact List.mem_cons_of_mem _ (tabIx_mem h)
def dTab (kd : List (Str × Int)) : D → Option D
  | .str z => (tabIx kd z).map D.int
  | _ => none
def dTabIn (kd : List (Str × Int)) : D → Option D
  | .str z => (tabIx kd z).map fun _ => D.bl true
  | _ => none
section
variable {a : Addr} {X : Cx} {K : PySem.W.Frag} {c : Ctx K} {x : Str} {kd : List (Str × Int)} {i : Expr} {p pos : Pos} {ti : TE} {mi : Mo D}
theorem r_tab {w : World} {mg : Str → Option Value} (T : Tab w.params K mg x kd a) (h : REv c ti mi) : REv c (tOp (rIxD K w) (tC (.ref a)) ti) (mUn (dTab kd) mi) := by
  intro M σ H ρ S d ρ' hm Q q
  obtain ⟨z, ρ1, h1, hm⟩ := mBd_some hm
  obtain ⟨hg, rfl⟩ := mL_some hm
  refine h M σ H ρ S z _ h1 _ fun M1 v H1 E1 S1 d1 => ?_
  cases d1 <;> try (simp [dTab] at hg; done)
  rename_i z
  obtain ⟨k, ek, rfl⟩ := map_some hg
  obtain ⟨t, ht⟩ := T.i _ (tabIx_mem ek)
  exact ⟨a, z, .int k, rfl, rfl, ⟨T.es, T.n, _, T.l, T.k, ht, ⟨t, rfl⟩⟩, q M1 _ H1 E1 S1 (.int k)⟩
theorem r_tabIn {w : World} {mg : Str → Option Value} (T : Tab w.params K mg x kd a) (h : REv c ti mi) : REv c (tOp (myInKd K w) ti (tC (.ref a))) (mUn (dTabIn kd) mi) := by
  intro M σ H ρ S d ρ' hm Q q
  obtain ⟨z, ρ1, h1, hm⟩ := mBd_some hm
  obtain ⟨hg, rfl⟩ := mL_some hm
  refine h M σ H ρ S z _ h1 _ fun M1 v H1 E1 S1 d1 => ?_
  cases d1 <;> try (simp [dTabIn] at hg; done)
  rename_i z
  obtain ⟨k, ek, rfl⟩ := map_some hg
  obtain ⟨t, ht⟩ := T.i _ (tabIx_mem ek)
  exact ⟨a, z, T.es, T.n, _, rfl, rfl, T.l, T.k, ht, T.s, q M1 _ H1 E1 S1 (.bl true)⟩
theorem d_tab (T : Tab X.w.params X.K X.mg x kd a) (hi : DE X c i ti mi) (hs : PlainIx i) (hg : Gl X x := by rfl) (hd : (x == ("__debug__" : Str)) = false := by decide) (hK : X.K = K := by rfl) :
    DE X c (.Subscript (.Name x p) i pos) (tOp (rIxD X.K X.w) (tC (.ref a)) ti) (mUn (dTab kd) mi) := by
  subst hK
  exact ⟨pe_ix ix_kdict (pe_glob (v := .ref a) hg T.g rfl hd) hi.p hs, r_tab T hi.r⟩
theorem d_tabIn (T : Tab X.w.params X.K X.mg x kd a) (hi : DE X c i ti mi) (hm : behindInMarks .In (.Name x p) = false := by rfl) (hg : Gl X x := by rfl) (hd : (x == ("__debug__" : Str)) = false := by decide) (hK : X.K = K := by rfl) :
    DE X c (.Compare i [.In] [.Name x p] pos) (tOp (myInKd X.K X.w) ti (tC (.ref a))) (mUn (dTabIn kd) mi) := by
  subst hK
  exact ⟨pe_cmpR my_in_kd hi.p (pe_glob (v := .ref a) hg T.g rfl hd) hm, r_tabIn T hi.r⟩
end
end DL
namespace My
open PySem PySem.Spec PyProof.Rows L2 DL
def topS (i : Nat) : Stmt := PySem.Challenge.pw_touchpasses_k09_whole_rows_of_deeds_on_t.main.body.getD i (.Pass ⟨0, 0, 0, 0⟩)
abbrev sis_integer : Stmt := topS 16
theorem scis_integer : FnScope ["value"] ["value"] (defScope sis_integer) := ⟨rfl, rfl, rfl, by decide +kernel, rfl, by decide +kernel, by decide +kernel⟩
abbrev sis_between : Stmt := topS 17
theorem scis_between : FnScope ["value", "low", "high"] ["value", "low", "high"] (defScope sis_between) := ⟨rfl, rfl, rfl, by decide +kernel, rfl, by decide +kernel, by decide +kernel⟩
abbrev sis_name : Stmt := topS 18
theorem scis_name : FnScope ["value", "sign"] ["value"] (defScope sis_name) := ⟨rfl, rfl, rfl, by decide +kernel, rfl, by decide +kernel, by decide +kernel⟩
abbrev sis_word : Stmt := topS 19
theorem scis_word : FnScope ["value", "words"] ["value", "words"] (defScope sis_word) := ⟨rfl, rfl, rfl, by decide +kernel, rfl, by decide +kernel, by decide +kernel⟩
abbrev sis_stretch : Stmt := topS 20
theorem scis_stretch : FnScope ["value", "low", "high"] ["value", "low", "high"] (defScope sis_stretch) := ⟨rfl, rfl, rfl, by decide +kernel, rfl, by decide +kernel, by decide +kernel⟩
abbrev sis_length : Stmt := topS 31
theorem scis_length : FnScope ["value"] ["value"] (defScope sis_length) := ⟨rfl, rfl, rfl, by decide +kernel, rfl, by decide +kernel, by decide +kernel⟩
abbrev sare_touches : Stmt := topS 32
theorem scare_touches : FnScope ["value", "first", "last", "low", "stretch"] ["value", "first", "last"] (defScope sare_touches) := ⟨rfl, rfl, rfl, by decide +kernel, rfl, by decide +kernel, by decide +kernel⟩
abbrev sis_pass : Stmt := topS 33
theorem scis_pass : FnScope ["value", "length", "name", "mode", "first", "last", "touches", "glide", "tail"] ["value", "length"] (defScope sis_pass) := ⟨rfl, rfl, rfl, by decide +kernel, rfl, by decide +kernel, by decide +kernel⟩
abbrev sfirst_wrong : Stmt := topS 34
theorem scfirst_wrong : FnScope ["passes", "length", "names", "at", "one"] ["passes", "length"] (defScope sfirst_wrong) := ⟨rfl, rfl, rfl, by decide +kernel, rfl, by decide +kernel, by decide +kernel⟩
abbrev splace_of : Stmt := topS 35
theorem scplace_of : FnScope ["passes", "name", "at", "one"] ["passes", "name"] (defScope splace_of) := ⟨rfl, rfl, rfl, by decide +kernel, rfl, by decide +kernel, by decide +kernel⟩
abbrev sis_change : Stmt := topS 36
theorem scis_change : FnScope ["value", "passes", "name", "part", "_"] ["value", "passes"] (defScope sis_change) := ⟨rfl, rfl, rfl, by decide +kernel, rfl, by decide +kernel, by decide +kernel⟩
abbrev sput_in : Stmt := topS 37
theorem scput_in : FnScope ["row", "at", "new"] ["row", "at", "new"] (defScope sput_in) := ⟨rfl, rfl, rfl, by decide +kernel, rfl, by decide +kernel, by decide +kernel⟩
abbrev staken_out : Stmt := topS 38
theorem sctaken_out : FnScope ["row", "at"] ["row", "at"] (defScope staken_out) := ⟨rfl, rfl, rfl, by decide +kernel, rfl, by decide +kernel, by decide +kernel⟩
abbrev sreplaced : Stmt := topS 39
theorem screplaced : FnScope ["row", "at", "new"] ["row", "at", "new"] (defScope sreplaced) := ⟨rfl, rfl, rfl, by decide +kernel, rfl, by decide +kernel, by decide +kernel⟩
abbrev sbehind_change : Stmt := topS 40
theorem scbehind_change : FnScope ["passes", "change", "name", "part", "value", "at"] ["passes", "change"] (defScope sbehind_change) := ⟨rfl, rfl, rfl, by decide +kernel, rfl, by decide +kernel, by decide +kernel⟩
abbrev srow_of : Stmt := topS 44
theorem scrow_of : FnScope ["one_pass", "name", "mode", "first", "last", "touches", "glide", "tail", "words", "a", "b"] ["one_pass"] (defScope srow_of) := ⟨rfl, rfl, rfl, by decide +kernel, rfl, by decide +kernel, by decide +kernel⟩
abbrev srows_of : Stmt := topS 45
theorem scrows_of : FnScope ["length", "passes", "one"] ["length", "passes"] (defScope srows_of) := ⟨rfl, rfl, rfl, by decide +kernel, rfl, by decide +kernel, by decide +kernel⟩
abbrev snumber_in : Stmt := topS 46
theorem scnumber_in : FnScope ["word", "sign"] ["word"] (defScope snumber_in) := ⟨rfl, rfl, rfl, by decide +kernel, rfl, by decide +kernel, by decide +kernel⟩
abbrev sstretch_in : Stmt := topS 47
theorem scstretch_in : FnScope ["word", "numbers", "part"] ["word"] (defScope sstretch_in) := ⟨rfl, rfl, rfl, by decide +kernel, rfl, by decide +kernel, by decide +kernel⟩
abbrev spass_in : Stmt := topS 48
theorem scpass_in : FnScope ["words", "name", "mode", "first", "last", "glide", "tail", "rest", "numbers", "word", "touches"] ["words"] (defScope spass_in) := ⟨rfl, rfl, rfl, by decide +kernel, rfl, by decide +kernel, by decide +kernel⟩
abbrev spass_in_row : Stmt := topS 49
theorem scpass_in_row : FnScope ["row", "word", "rest"] ["row"] (defScope spass_in_row) := ⟨rfl, rfl, rfl, by decide +kernel, rfl, by decide +kernel, by decide +kernel⟩
abbrev slength_in_row : Stmt := topS 50
theorem sclength_in_row : FnScope ["row", "word", "rest", "length"] ["row"] (defScope slength_in_row) := ⟨rfl, rfl, rfl, by decide +kernel, rfl, by decide +kernel, by decide +kernel⟩
abbrev strack_in : Stmt := topS 51
theorem sctrack_in : FnScope ["text", "first", "rest", "length", "passes", "row"] ["text"] (defScope strack_in) := ⟨rfl, rfl, rfl, by decide +kernel, rfl, by decide +kernel, by decide +kernel⟩
abbrev sTrack_init : Stmt := inClass (topS 53) 0
theorem scTrack_init : FnScope ["self", "length", "passes", "wrong"] ["self", "length", "passes"] (defScope sTrack_init) := ⟨rfl, rfl, rfl, by decide +kernel, rfl, by decide +kernel, by decide +kernel⟩
abbrev sTrack_read : Stmt := inClass (topS 53) 1
theorem scTrack_read : FnScope ["cls", "text", "told", "length", "passes"] ["cls", "text"] (defScope sTrack_read) := ⟨rfl, rfl, rfl, by decide +kernel, rfl, by decide +kernel, by decide +kernel⟩
abbrev sTrack_length : Stmt := inClass (topS 53) 2
theorem scTrack_length : FnScope ["self"] ["self"] (defScope sTrack_length) := ⟨rfl, rfl, rfl, by decide +kernel, rfl, by decide +kernel, by decide +kernel⟩
abbrev sTrack_passes : Stmt := inClass (topS 53) 3
theorem scTrack_passes : FnScope ["self"] ["self"] (defScope sTrack_passes) := ⟨rfl, rfl, rfl, by decide +kernel, rfl, by decide +kernel, by decide +kernel⟩
abbrev sTrack_names : Stmt := inClass (topS 53) 4
theorem scTrack_names : FnScope ["self", "one"] ["self"] (defScope sTrack_names) := ⟨rfl, rfl, rfl, by decide +kernel, rfl, by decide +kernel, by decide +kernel⟩
abbrev sTrack_eq : Stmt := inClass (topS 53) 7
theorem scTrack_eq : FnScope ["self", "other"] ["self", "other"] (defScope sTrack_eq) := ⟨rfl, rfl, rfl, by decide +kernel, rfl, by decide +kernel, by decide +kernel⟩
abbrev sTrack_str : Stmt := inClass (topS 53) 8
theorem scTrack_str : FnScope ["self"] ["self"] (defScope sTrack_str) := ⟨rfl, rfl, rfl, by decide +kernel, rfl, by decide +kernel, by decide +kernel⟩
abbrev sTrack_known_place : Stmt := inClass (topS 53) 12
theorem scTrack_known_place : FnScope ["self", "name", "place"] ["self", "name"] (defScope sTrack_known_place) := ⟨rfl, rfl, rfl, by decide +kernel, rfl, by decide +kernel, by decide +kernel⟩
abbrev sTrack_put : Stmt := inClass (topS 53) 13
theorem scTrack_put : FnScope ["self", "one_pass", "place", "many", "at"] ["self", "one_pass", "place"] (defScope sTrack_put) := ⟨rfl, rfl, rfl, by decide +kernel, rfl, by decide +kernel, by decide +kernel⟩
abbrev sTrack_without : Stmt := inClass (topS 53) 14
theorem scTrack_without : FnScope ["self", "name"] ["self", "name"] (defScope sTrack_without) := ⟨rfl, rfl, rfl, by decide +kernel, rfl, by decide +kernel, by decide +kernel⟩
abbrev sTrack_moved : Stmt := inClass (topS 53) 15
theorem scTrack_moved : FnScope ["self", "name", "place", "at"] ["self", "name", "place"] (defScope sTrack_moved) := ⟨rfl, rfl, rfl, by decide +kernel, rfl, by decide +kernel, by decide +kernel⟩
abbrev sTrack_changed : Stmt := inClass (topS 53) 16
theorem scTrack_changed : FnScope ["self", "change", "passes"] ["self", "change"] (defScope sTrack_changed) := ⟨rfl, rfl, rfl, by decide +kernel, rfl, by decide +kernel, by decide +kernel⟩
abbrev slaw_purse : Stmt := topS 55
theorem sclaw_purse : FnScope ["script", "k", "cell", "digits", "seed"] ["script", "k"] (defScope slaw_purse) := ⟨rfl, rfl, rfl, by decide +kernel, rfl, by decide +kernel, by decide +kernel⟩
abbrev slaw_draw : Stmt := topS 56
theorem sclaw_draw : FnScope ["purse", "size", "seed", "by", "digit"] ["purse", "size"] (defScope slaw_draw) := ⟨rfl, rfl, rfl, by decide +kernel, rfl, by decide +kernel, by decide +kernel⟩
abbrev slaw_pick : Stmt := topS 57
theorem sclaw_pick : FnScope ["purse", "menu"] ["purse", "menu"] (defScope slaw_pick) := ⟨rfl, rfl, rfl, by decide +kernel, rfl, by decide +kernel, by decide +kernel⟩
abbrev slaw_wide : Stmt := topS 58
theorem sclaw_wide : FnScope ["purse", "size"] ["purse", "size"] (defScope slaw_wide) := ⟨rfl, rfl, rfl, by decide +kernel, rfl, by decide +kernel, by decide +kernel⟩
abbrev slaw_touches : Stmt := topS 59
theorem sclaw_touches : FnScope ["purse", "first", "last", "many", "wide", "found", "at", "k", "a", "b"] ["purse", "first", "last", "many", "wide"] (defScope slaw_touches) := ⟨rfl, rfl, rfl, by decide +kernel, rfl, by decide +kernel, by decide +kernel⟩
abbrev slaw_words : Stmt := topS 60
theorem sclaw_words : FnScope ["purse", "some", "at"] ["purse"] (defScope slaw_words) := ⟨rfl, rfl, rfl, by decide +kernel, rfl, by decide +kernel, by decide +kernel⟩
abbrev slaw_fader : Stmt := topS 61
theorem sclaw_fader : FnScope ["purse", "word", "long", "first", "some", "k", "last", "wide", "marks", "mode", "slide", "tail"] ["purse", "word", "long"] (defScope slaw_fader) := ⟨rfl, rfl, rfl, by decide +kernel, rfl, by decide +kernel, by decide +kernel⟩
abbrev slaw_faders : Stmt := topS 62
theorem sclaw_faders : FnScope ["purse", "long", "many", "words", "k"] ["purse", "long", "many"] (defScope slaw_faders) := ⟨rfl, rfl, rfl, by decide +kernel, rfl, by decide +kernel, by decide +kernel⟩
abbrev slaw_long : Stmt := topS 63
theorem sclaw_long : FnScope ["purse"] ["purse"] (defScope slaw_long) := ⟨rfl, rfl, rfl, by decide +kernel, rfl, by decide +kernel, by decide +kernel⟩
abbrev slaw_deed : Stmt := topS 64
theorem sclaw_deed : FnScope ["purse", "mine", "some", "way", "fader", "at", "each", "k", "word", "rest", "bent", "turned"] ["purse", "mine", "some"] (defScope slaw_deed) := ⟨rfl, rfl, rfl, by decide +kernel, rfl, by decide +kernel, by decide +kernel⟩
abbrev slaw_back : Stmt := topS 65
theorem sclaw_back : FnScope ["purse", "mine", "some", "k", "word", "at"] ["purse", "mine", "some"] (defScope slaw_back) := ⟨rfl, rfl, rfl, by decide +kernel, rfl, by decide +kernel, by decide +kernel⟩
abbrev slaw_right : Stmt := topS 66
theorem sclaw_right : FnScope ["purse", "long", "some", "mine", "turn", "each"] ["purse"] (defScope slaw_right) := ⟨rfl, rfl, rfl, by decide +kernel, rfl, by decide +kernel, by decide +kernel⟩
abbrev slaw : Stmt := topS 67
theorem sclaw : FnScope ["script", "k"] ["script"] (defScope slaw) := ⟨rfl, rfl, rfl, by decide +kernel, rfl, by decide +kernel, by decide +kernel⟩
structure Txt (pr : Params) (K : PySem.W.Frag) (mg : Str → Option Value) where
  C : Addr
  gC : mg "Track" = some (.ref C)
  cl : Cls K C
  kC : PySem.W.keepIn K (.ref C) = true
  makes : PySem.W.makesIn K C = true
  isC : IsCT K C
  n_length : NoAttr K C "_length"
  n_passes : NoAttr K C "_passes"
  hne : PySem.W.findIn K (.ref C) "__ne__" = some (some (.builtin "object.__ne__"))
  hob : PySem.W.subIn K (.ref C) (.type "object") = some true
  is_integer : Df K mg "is_integer" sis_integer ["value"]
  is_between : Df K mg "is_between" sis_between ["value", "low", "high"]
  is_name : Df K mg "is_name" sis_name ["value"]
  is_word : Df K mg "is_word" sis_word ["value", "words"]
  is_stretch : Df K mg "is_stretch" sis_stretch ["value", "low", "high"]
  is_length : Df K mg "is_length" sis_length ["value"]
  are_touches : Df K mg "are_touches" sare_touches ["value", "first", "last"]
  is_pass : Df K mg "is_pass" sis_pass ["value", "length"]
  first_wrong : Df K mg "first_wrong" sfirst_wrong ["passes", "length"]
  place_of : Df K mg "place_of" splace_of ["passes", "name"]
  is_change : Df K mg "is_change" sis_change ["value", "passes"]
  put_in : Df K mg "put_in" sput_in ["row", "at", "new"]
  taken_out : Df K mg "taken_out" staken_out ["row", "at"]
  replaced : Df K mg "replaced" sreplaced ["row", "at", "new"]
  behind_change : Df K mg "behind_change" sbehind_change ["passes", "change"]
  row_of : Df K mg "row_of" srow_of ["one_pass"]
  rows_of : Df K mg "rows_of" srows_of ["length", "passes"]
  number_in : Df K mg "number_in" snumber_in ["word"]
  stretch_in : Df K mg "stretch_in" sstretch_in ["word"]
  pass_in : Df K mg "pass_in" spass_in ["words"]
  pass_in_row : Df K mg "pass_in_row" spass_in_row ["row"]
  length_in_row : Df K mg "length_in_row" slength_in_row ["row"]
  track_in : Df K mg "track_in" strack_in ["text"]
  e_Track_init : Addr
  et_Track_init : ∀ H : Hp, SqT K H e_Track_init []
  Track_init : Dd K C "__init__" "Track.__init__" sTrack_init ["self", "length", "passes"] (.ref e_Track_init)
  Track_read : Dk K C "read" "Track.read" sTrack_read ["cls", "text"]
  Track_length : Dp' K C "length" "Track.length" sTrack_length
  Track_passes : Dp' K C "passes" "Track.passes" sTrack_passes
  Track_names : Dp' K C "names" "Track.names" sTrack_names
  Track_eq : Dm K C "__eq__" "Track.__eq__" sTrack_eq ["self", "other"]
  Track_str : Dm K C "__str__" "Track.__str__" sTrack_str ["self"]
  Track_known_place : Dm K C "_known_place" "Track._known_place" sTrack_known_place ["self", "name"]
  Track_put : Dd K C "put" "Track.put" sTrack_put ["self", "one_pass", "place"] .non
  Track_without : Dm K C "without" "Track.without" sTrack_without ["self", "name"]
  Track_moved : Dm K C "moved" "Track.moved" sTrack_moved ["self", "name", "place"]
  Track_changed : Dm K C "changed" "Track.changed" sTrack_changed ["self", "change"]
  law_purse : Df K mg "_law_purse" slaw_purse ["script", "k"]
  law_draw : Df K mg "_law_draw" slaw_draw ["purse", "size"]
  law_pick : Df K mg "_law_pick" slaw_pick ["purse", "menu"]
  law_wide : Df K mg "_law_wide" slaw_wide ["purse", "size"]
  law_touches : Df K mg "_law_touches" slaw_touches ["purse", "first", "last", "many", "wide"]
  law_words : Df K mg "_law_words" slaw_words ["purse"]
  law_fader : Df K mg "_law_fader" slaw_fader ["purse", "word", "long"]
  law_faders : Df K mg "_law_faders" slaw_faders ["purse", "long", "many"]
  law_long : Df K mg "_law_long" slaw_long ["purse"]
  law_deed : Df K mg "_law_deed" slaw_deed ["purse", "mine", "some"]
  law_back : Df K mg "_law_back" slaw_back ["purse", "mine", "some"]
  law_right : Df K mg "_law_right" slaw_right ["purse"]
  law : Df K mg "law" slaw ["script"]
  c_LETTERS : L2.Cs mg "LETTERS" "abcdefghijklmnopqrstuvwxyz"
  c_DIGITS : L2.Cs mg "DIGITS" "0123456789"
  c_MOST_SIGNS : L2.Ci mg "MOST_SIGNS" 8
  c_MOST_LENGTH : L2.Ci mg "MOST_LENGTH" 1000000000000
  c_MOST_PASSES : L2.Ci mg "MOST_PASSES" 8
  c_MOST_TOUCHES : L2.Ci mg "MOST_TOUCHES" 6
  c_MOST_GLIDE : L2.Ci mg "MOST_GLIDE" 100
  c_OLD : L2.Cs mg "OLD" "old"
  c_MODES : L2.Ct K mg "MODES" [.str "write", .str "latch", .str "touch", .str "trim"]
  c_TAILS : L2.Ct K mg "TAILS" [.str "stop", .str "on"]
  c_SIZE : L2.Ci mg "SIZE" 7
  a_PARTS : Addr
  c_PARTS : Tab pr K mg "PARTS" [("mode", 1), ("from", 2), ("to", 3), ("touches", 4), ("glide", 5), ("tail", 6)] a_PARTS
  c_MOST_DIGITS : L2.Ci mg "MOST_DIGITS" 13
  c_FEWEST_WORDS : L2.Ci mg "FEWEST_WORDS" 6
  z_len : mg "len" = none
  z_isinstance : mg "isinstance" = none
  z_int : mg "int" = none
  z_bool : mg "bool" = none
  z_str : mg "str" = none
  z_tuple : mg "tuple" = none
  z_all : mg "all" = none
  z_range : mg "range" = none
  z_enumerate : mg "enumerate" = none
  z_abs : mg "abs" = none
  z_divmod : mg "divmod" = none
  z_max : mg "max" = none
  z_min : mg "min" = none
  z_repr : mg "repr" = none
end My
namespace My
open PySem PySem.Spec PyProof.Rows L2 DL
set_option maxHeartbeats 0 in
theorem mk_txt {pr : Params} {K : PySem.W.Frag} {h : Heap} {mg : Str → Option Value} (X : K.In h) (G : h.Ns mainGlobals mg)
    {C : Addr}
    {f_is_integer : Addr} {od_is_integer an_is_integer : Option Addr} {sl_is_integer : Array (Option Value)} {oc_is_integer kV_is_integer dc_is_integer pm_is_integer cd_is_integer ct_is_integer : Value}
    {f_is_between : Addr} {od_is_between an_is_between : Option Addr} {sl_is_between : Array (Option Value)} {oc_is_between kV_is_between dc_is_between pm_is_between cd_is_between ct_is_between : Value}
    {f_is_name : Addr} {od_is_name an_is_name : Option Addr} {sl_is_name : Array (Option Value)} {oc_is_name kV_is_name dc_is_name pm_is_name cd_is_name ct_is_name : Value}
    {f_is_word : Addr} {od_is_word an_is_word : Option Addr} {sl_is_word : Array (Option Value)} {oc_is_word kV_is_word dc_is_word pm_is_word cd_is_word ct_is_word : Value}
    {f_is_stretch : Addr} {od_is_stretch an_is_stretch : Option Addr} {sl_is_stretch : Array (Option Value)} {oc_is_stretch kV_is_stretch dc_is_stretch pm_is_stretch cd_is_stretch ct_is_stretch : Value}
    {f_is_length : Addr} {od_is_length an_is_length : Option Addr} {sl_is_length : Array (Option Value)} {oc_is_length kV_is_length dc_is_length pm_is_length cd_is_length ct_is_length : Value}
    {f_are_touches : Addr} {od_are_touches an_are_touches : Option Addr} {sl_are_touches : Array (Option Value)} {oc_are_touches kV_are_touches dc_are_touches pm_are_touches cd_are_touches ct_are_touches : Value}
    {f_is_pass : Addr} {od_is_pass an_is_pass : Option Addr} {sl_is_pass : Array (Option Value)} {oc_is_pass kV_is_pass dc_is_pass pm_is_pass cd_is_pass ct_is_pass : Value}
    {f_first_wrong : Addr} {od_first_wrong an_first_wrong : Option Addr} {sl_first_wrong : Array (Option Value)} {oc_first_wrong kV_first_wrong dc_first_wrong pm_first_wrong cd_first_wrong ct_first_wrong : Value}
    {f_place_of : Addr} {od_place_of an_place_of : Option Addr} {sl_place_of : Array (Option Value)} {oc_place_of kV_place_of dc_place_of pm_place_of cd_place_of ct_place_of : Value}
    {f_is_change : Addr} {od_is_change an_is_change : Option Addr} {sl_is_change : Array (Option Value)} {oc_is_change kV_is_change dc_is_change pm_is_change cd_is_change ct_is_change : Value}
    {f_put_in : Addr} {od_put_in an_put_in : Option Addr} {sl_put_in : Array (Option Value)} {oc_put_in kV_put_in dc_put_in pm_put_in cd_put_in ct_put_in : Value}
    {f_taken_out : Addr} {od_taken_out an_taken_out : Option Addr} {sl_taken_out : Array (Option Value)} {oc_taken_out kV_taken_out dc_taken_out pm_taken_out cd_taken_out ct_taken_out : Value}
    {f_replaced : Addr} {od_replaced an_replaced : Option Addr} {sl_replaced : Array (Option Value)} {oc_replaced kV_replaced dc_replaced pm_replaced cd_replaced ct_replaced : Value}
    {f_behind_change : Addr} {od_behind_change an_behind_change : Option Addr} {sl_behind_change : Array (Option Value)} {oc_behind_change kV_behind_change dc_behind_change pm_behind_change cd_behind_change ct_behind_change : Value}
    {f_row_of : Addr} {od_row_of an_row_of : Option Addr} {sl_row_of : Array (Option Value)} {oc_row_of kV_row_of dc_row_of pm_row_of cd_row_of ct_row_of : Value}
    {f_rows_of : Addr} {od_rows_of an_rows_of : Option Addr} {sl_rows_of : Array (Option Value)} {oc_rows_of kV_rows_of dc_rows_of pm_rows_of cd_rows_of ct_rows_of : Value}
    {f_number_in : Addr} {od_number_in an_number_in : Option Addr} {sl_number_in : Array (Option Value)} {oc_number_in kV_number_in dc_number_in pm_number_in cd_number_in ct_number_in : Value}
    {f_stretch_in : Addr} {od_stretch_in an_stretch_in : Option Addr} {sl_stretch_in : Array (Option Value)} {oc_stretch_in kV_stretch_in dc_stretch_in pm_stretch_in cd_stretch_in ct_stretch_in : Value}
    {f_pass_in : Addr} {od_pass_in an_pass_in : Option Addr} {sl_pass_in : Array (Option Value)} {oc_pass_in kV_pass_in dc_pass_in pm_pass_in cd_pass_in ct_pass_in : Value}
    {f_pass_in_row : Addr} {od_pass_in_row an_pass_in_row : Option Addr} {sl_pass_in_row : Array (Option Value)} {oc_pass_in_row kV_pass_in_row dc_pass_in_row pm_pass_in_row cd_pass_in_row ct_pass_in_row : Value}
    {f_length_in_row : Addr} {od_length_in_row an_length_in_row : Option Addr} {sl_length_in_row : Array (Option Value)} {oc_length_in_row kV_length_in_row dc_length_in_row pm_length_in_row cd_length_in_row ct_length_in_row : Value}
    {f_track_in : Addr} {od_track_in an_track_in : Option Addr} {sl_track_in : Array (Option Value)} {oc_track_in kV_track_in dc_track_in pm_track_in cd_track_in ct_track_in : Value}
    {f_Track_init : Addr} {od_Track_init an_Track_init : Option Addr} {sl_Track_init : Array (Option Value)} {oc_Track_init kV_Track_init dc_Track_init pm_Track_init cd_Track_init ct_Track_init : Value}
    {T_Track_init : Addr} {to_Track_init : Value} {td_Track_init : Option Addr} {ts_Track_init : Array (Option Value)} {tn_Track_init : Nat}
    {e_Track_init : Addr} {eo_Track_init : Option Addr} {es_Track_init : Array (Option Value)} {en_Track_init : Nat}
    {f_Track_read : Addr} {od_Track_read an_Track_read : Option Addr} {sl_Track_read : Array (Option Value)} {oc_Track_read kV_Track_read dc_Track_read pm_Track_read cd_Track_read ct_Track_read : Value}
    {p_Track_read : Addr} {pr_Track_read : List Value}
    {f_Track_length : Addr} {od_Track_length an_Track_length : Option Addr} {sl_Track_length : Array (Option Value)} {oc_Track_length kV_Track_length dc_Track_length pm_Track_length cd_Track_length ct_Track_length : Value}
    {p_Track_length : Addr} {pr_Track_length : List Value}
    {f_Track_passes : Addr} {od_Track_passes an_Track_passes : Option Addr} {sl_Track_passes : Array (Option Value)} {oc_Track_passes kV_Track_passes dc_Track_passes pm_Track_passes cd_Track_passes ct_Track_passes : Value}
    {p_Track_passes : Addr} {pr_Track_passes : List Value}
    {f_Track_names : Addr} {od_Track_names an_Track_names : Option Addr} {sl_Track_names : Array (Option Value)} {oc_Track_names kV_Track_names dc_Track_names pm_Track_names cd_Track_names ct_Track_names : Value}
    {p_Track_names : Addr} {pr_Track_names : List Value}
    {f_Track_eq : Addr} {od_Track_eq an_Track_eq : Option Addr} {sl_Track_eq : Array (Option Value)} {oc_Track_eq kV_Track_eq dc_Track_eq pm_Track_eq cd_Track_eq ct_Track_eq : Value}
    {f_Track_str : Addr} {od_Track_str an_Track_str : Option Addr} {sl_Track_str : Array (Option Value)} {oc_Track_str kV_Track_str dc_Track_str pm_Track_str cd_Track_str ct_Track_str : Value}
    {f_Track_known_place : Addr} {od_Track_known_place an_Track_known_place : Option Addr} {sl_Track_known_place : Array (Option Value)} {oc_Track_known_place kV_Track_known_place dc_Track_known_place pm_Track_known_place cd_Track_known_place ct_Track_known_place : Value}
    {f_Track_put : Addr} {od_Track_put an_Track_put : Option Addr} {sl_Track_put : Array (Option Value)} {oc_Track_put kV_Track_put dc_Track_put pm_Track_put cd_Track_put ct_Track_put : Value}
    {T_Track_put : Addr} {to_Track_put : Value} {td_Track_put : Option Addr} {ts_Track_put : Array (Option Value)} {tn_Track_put : Nat}
    {f_Track_without : Addr} {od_Track_without an_Track_without : Option Addr} {sl_Track_without : Array (Option Value)} {oc_Track_without kV_Track_without dc_Track_without pm_Track_without cd_Track_without ct_Track_without : Value}
    {f_Track_moved : Addr} {od_Track_moved an_Track_moved : Option Addr} {sl_Track_moved : Array (Option Value)} {oc_Track_moved kV_Track_moved dc_Track_moved pm_Track_moved cd_Track_moved ct_Track_moved : Value}
    {f_Track_changed : Addr} {od_Track_changed an_Track_changed : Option Addr} {sl_Track_changed : Array (Option Value)} {oc_Track_changed kV_Track_changed dc_Track_changed pm_Track_changed cd_Track_changed ct_Track_changed : Value}
    {f_law_purse : Addr} {od_law_purse an_law_purse : Option Addr} {sl_law_purse : Array (Option Value)} {oc_law_purse kV_law_purse dc_law_purse pm_law_purse cd_law_purse ct_law_purse : Value}
    {f_law_draw : Addr} {od_law_draw an_law_draw : Option Addr} {sl_law_draw : Array (Option Value)} {oc_law_draw kV_law_draw dc_law_draw pm_law_draw cd_law_draw ct_law_draw : Value}
    {f_law_pick : Addr} {od_law_pick an_law_pick : Option Addr} {sl_law_pick : Array (Option Value)} {oc_law_pick kV_law_pick dc_law_pick pm_law_pick cd_law_pick ct_law_pick : Value}
    {f_law_wide : Addr} {od_law_wide an_law_wide : Option Addr} {sl_law_wide : Array (Option Value)} {oc_law_wide kV_law_wide dc_law_wide pm_law_wide cd_law_wide ct_law_wide : Value}
    {f_law_touches : Addr} {od_law_touches an_law_touches : Option Addr} {sl_law_touches : Array (Option Value)} {oc_law_touches kV_law_touches dc_law_touches pm_law_touches cd_law_touches ct_law_touches : Value}
    {f_law_words : Addr} {od_law_words an_law_words : Option Addr} {sl_law_words : Array (Option Value)} {oc_law_words kV_law_words dc_law_words pm_law_words cd_law_words ct_law_words : Value}
    {f_law_fader : Addr} {od_law_fader an_law_fader : Option Addr} {sl_law_fader : Array (Option Value)} {oc_law_fader kV_law_fader dc_law_fader pm_law_fader cd_law_fader ct_law_fader : Value}
    {f_law_faders : Addr} {od_law_faders an_law_faders : Option Addr} {sl_law_faders : Array (Option Value)} {oc_law_faders kV_law_faders dc_law_faders pm_law_faders cd_law_faders ct_law_faders : Value}
    {f_law_long : Addr} {od_law_long an_law_long : Option Addr} {sl_law_long : Array (Option Value)} {oc_law_long kV_law_long dc_law_long pm_law_long cd_law_long ct_law_long : Value}
    {f_law_deed : Addr} {od_law_deed an_law_deed : Option Addr} {sl_law_deed : Array (Option Value)} {oc_law_deed kV_law_deed dc_law_deed pm_law_deed cd_law_deed ct_law_deed : Value}
    {f_law_back : Addr} {od_law_back an_law_back : Option Addr} {sl_law_back : Array (Option Value)} {oc_law_back kV_law_back dc_law_back pm_law_back cd_law_back ct_law_back : Value}
    {f_law_right : Addr} {od_law_right an_law_right : Option Addr} {sl_law_right : Array (Option Value)} {oc_law_right kV_law_right dc_law_right pm_law_right cd_law_right ct_law_right : Value}
    {f_law : Addr} {od_law an_law : Option Addr} {sl_law : Array (Option Value)} {oc_law kV_law dc_law pm_law cd_law ct_law : Value}
    {t_LETTERS : Tok}
    {t_DIGITS : Tok}
    {t_MOST_SIGNS : Tok}
    {t_MOST_LENGTH : Tok}
    {t_MOST_PASSES : Tok}
    {t_MOST_TOUCHES : Tok}
    {t_MOST_GLIDE : Tok}
    {t_OLD : Tok}
    {a_MODES : Addr} {o_MODES : Option Addr} {s_MODES : Array (Option Value)} {n_MODES : Nat} {t0_MODES t1_MODES t2_MODES t3_MODES : Tok}
    {a_TAILS : Addr} {o_TAILS : Option Addr} {s_TAILS : Array (Option Value)} {n_TAILS : Nat} {t0_TAILS t1_TAILS : Tok}
    {t_SIZE : Tok}
    {a_PARTS : Addr} {n_PARTS : Nat} {es_PARTS : Array DictEntry}
    {t_PARTS_mode : Tok}
    {t_PARTS_from : Tok}
    {t_PARTS_to : Tok}
    {t_PARTS_touches : Tok}
    {t_PARTS_glide : Tok}
    {t_PARTS_tail : Tok}
    {t_MOST_DIGITS : Tok}
    {t_FEWEST_WORDS : Tok}
    (aC : PySem.W.nsIn K mainGlobals "Track" = some (some (.ref C)))
    (cpg : PySem.W.plainGet K C Str.empty = true)
    (chd : PySem.W.hasDictIn K C = true)
    (cpo : PySem.W.plainOver K C = true)
    (csa : PySem.W.findIn K (.ref C) "__setattr__" = some (some (.builtin "object.__setattr__")))
    (cmk : PySem.W.makesIn K C = true)
    (ckc : PySem.W.keepIn K (.ref C) = true)
    (cca : PySem.W.findIn K (.ref C) "__class__" = some (some (.builtin "object.__class__")))
    (ccn : PySem.W.specialIn K (.builtin "object.__class__") "__get__" = some (some (.builtin "getset_descriptor.__get__")))
    (cct : PySem.W.takesIn K (.builtin "object.__class__") = some true)
    (ccm : PySem.W.mroIn K C (.type "object") = some true)
    (na_length : PySem.W.findIn K (.ref C) "_length" = some none)
    (na_passes : PySem.W.findIn K (.ref C) "_passes" = some none)
    (cne : PySem.W.findIn K (.ref C) "__ne__" = some (some (.builtin "object.__ne__")))
    (cob : PySem.W.subIn K (.ref C) (.type "object") = some true)
    (a_is_integer : PySem.W.nsIn K mainGlobals "is_integer" = some (some (.ref f_is_integer)))
    (l_is_integer : K.lookup f_is_integer = some ⟨oc_is_integer, od_is_integer, .func (PySem.W.fnOf "is_integer" "is_integer" (defArgs sis_integer) (defBody sis_integer) (defScope sis_integer) .none kV_is_integer dc_is_integer pm_is_integer an_is_integer cd_is_integer ct_is_integer), sl_is_integer⟩)
    (c_is_integer : PySem.W.codeIn K cd_is_integer "is_integer" = true)
    (k_is_integer : PySem.W.keepIn K (.ref f_is_integer) = true)
    (a_is_between : PySem.W.nsIn K mainGlobals "is_between" = some (some (.ref f_is_between)))
    (l_is_between : K.lookup f_is_between = some ⟨oc_is_between, od_is_between, .func (PySem.W.fnOf "is_between" "is_between" (defArgs sis_between) (defBody sis_between) (defScope sis_between) .none kV_is_between dc_is_between pm_is_between an_is_between cd_is_between ct_is_between), sl_is_between⟩)
    (c_is_between : PySem.W.codeIn K cd_is_between "is_between" = true)
    (k_is_between : PySem.W.keepIn K (.ref f_is_between) = true)
    (a_is_name : PySem.W.nsIn K mainGlobals "is_name" = some (some (.ref f_is_name)))
    (l_is_name : K.lookup f_is_name = some ⟨oc_is_name, od_is_name, .func (PySem.W.fnOf "is_name" "is_name" (defArgs sis_name) (defBody sis_name) (defScope sis_name) .none kV_is_name dc_is_name pm_is_name an_is_name cd_is_name ct_is_name), sl_is_name⟩)
    (c_is_name : PySem.W.codeIn K cd_is_name "is_name" = true)
    (k_is_name : PySem.W.keepIn K (.ref f_is_name) = true)
    (a_is_word : PySem.W.nsIn K mainGlobals "is_word" = some (some (.ref f_is_word)))
    (l_is_word : K.lookup f_is_word = some ⟨oc_is_word, od_is_word, .func (PySem.W.fnOf "is_word" "is_word" (defArgs sis_word) (defBody sis_word) (defScope sis_word) .none kV_is_word dc_is_word pm_is_word an_is_word cd_is_word ct_is_word), sl_is_word⟩)
    (c_is_word : PySem.W.codeIn K cd_is_word "is_word" = true)
    (k_is_word : PySem.W.keepIn K (.ref f_is_word) = true)
    (a_is_stretch : PySem.W.nsIn K mainGlobals "is_stretch" = some (some (.ref f_is_stretch)))
    (l_is_stretch : K.lookup f_is_stretch = some ⟨oc_is_stretch, od_is_stretch, .func (PySem.W.fnOf "is_stretch" "is_stretch" (defArgs sis_stretch) (defBody sis_stretch) (defScope sis_stretch) .none kV_is_stretch dc_is_stretch pm_is_stretch an_is_stretch cd_is_stretch ct_is_stretch), sl_is_stretch⟩)
    (c_is_stretch : PySem.W.codeIn K cd_is_stretch "is_stretch" = true)
    (k_is_stretch : PySem.W.keepIn K (.ref f_is_stretch) = true)
    (a_is_length : PySem.W.nsIn K mainGlobals "is_length" = some (some (.ref f_is_length)))
    (l_is_length : K.lookup f_is_length = some ⟨oc_is_length, od_is_length, .func (PySem.W.fnOf "is_length" "is_length" (defArgs sis_length) (defBody sis_length) (defScope sis_length) .none kV_is_length dc_is_length pm_is_length an_is_length cd_is_length ct_is_length), sl_is_length⟩)
    (c_is_length : PySem.W.codeIn K cd_is_length "is_length" = true)
    (k_is_length : PySem.W.keepIn K (.ref f_is_length) = true)
    (a_are_touches : PySem.W.nsIn K mainGlobals "are_touches" = some (some (.ref f_are_touches)))
    (l_are_touches : K.lookup f_are_touches = some ⟨oc_are_touches, od_are_touches, .func (PySem.W.fnOf "are_touches" "are_touches" (defArgs sare_touches) (defBody sare_touches) (defScope sare_touches) .none kV_are_touches dc_are_touches pm_are_touches an_are_touches cd_are_touches ct_are_touches), sl_are_touches⟩)
    (c_are_touches : PySem.W.codeIn K cd_are_touches "are_touches" = true)
    (k_are_touches : PySem.W.keepIn K (.ref f_are_touches) = true)
    (a_is_pass : PySem.W.nsIn K mainGlobals "is_pass" = some (some (.ref f_is_pass)))
    (l_is_pass : K.lookup f_is_pass = some ⟨oc_is_pass, od_is_pass, .func (PySem.W.fnOf "is_pass" "is_pass" (defArgs sis_pass) (defBody sis_pass) (defScope sis_pass) .none kV_is_pass dc_is_pass pm_is_pass an_is_pass cd_is_pass ct_is_pass), sl_is_pass⟩)
    (c_is_pass : PySem.W.codeIn K cd_is_pass "is_pass" = true)
    (k_is_pass : PySem.W.keepIn K (.ref f_is_pass) = true)
    (a_first_wrong : PySem.W.nsIn K mainGlobals "first_wrong" = some (some (.ref f_first_wrong)))
    (l_first_wrong : K.lookup f_first_wrong = some ⟨oc_first_wrong, od_first_wrong, .func (PySem.W.fnOf "first_wrong" "first_wrong" (defArgs sfirst_wrong) (defBody sfirst_wrong) (defScope sfirst_wrong) .none kV_first_wrong dc_first_wrong pm_first_wrong an_first_wrong cd_first_wrong ct_first_wrong), sl_first_wrong⟩)
    (c_first_wrong : PySem.W.codeIn K cd_first_wrong "first_wrong" = true)
    (k_first_wrong : PySem.W.keepIn K (.ref f_first_wrong) = true)
    (a_place_of : PySem.W.nsIn K mainGlobals "place_of" = some (some (.ref f_place_of)))
    (l_place_of : K.lookup f_place_of = some ⟨oc_place_of, od_place_of, .func (PySem.W.fnOf "place_of" "place_of" (defArgs splace_of) (defBody splace_of) (defScope splace_of) .none kV_place_of dc_place_of pm_place_of an_place_of cd_place_of ct_place_of), sl_place_of⟩)
    (c_place_of : PySem.W.codeIn K cd_place_of "place_of" = true)
    (k_place_of : PySem.W.keepIn K (.ref f_place_of) = true)
    (a_is_change : PySem.W.nsIn K mainGlobals "is_change" = some (some (.ref f_is_change)))
    (l_is_change : K.lookup f_is_change = some ⟨oc_is_change, od_is_change, .func (PySem.W.fnOf "is_change" "is_change" (defArgs sis_change) (defBody sis_change) (defScope sis_change) .none kV_is_change dc_is_change pm_is_change an_is_change cd_is_change ct_is_change), sl_is_change⟩)
    (c_is_change : PySem.W.codeIn K cd_is_change "is_change" = true)
    (k_is_change : PySem.W.keepIn K (.ref f_is_change) = true)
    (a_put_in : PySem.W.nsIn K mainGlobals "put_in" = some (some (.ref f_put_in)))
    (l_put_in : K.lookup f_put_in = some ⟨oc_put_in, od_put_in, .func (PySem.W.fnOf "put_in" "put_in" (defArgs sput_in) (defBody sput_in) (defScope sput_in) .none kV_put_in dc_put_in pm_put_in an_put_in cd_put_in ct_put_in), sl_put_in⟩)
    (c_put_in : PySem.W.codeIn K cd_put_in "put_in" = true)
    (k_put_in : PySem.W.keepIn K (.ref f_put_in) = true)
    (a_taken_out : PySem.W.nsIn K mainGlobals "taken_out" = some (some (.ref f_taken_out)))
    (l_taken_out : K.lookup f_taken_out = some ⟨oc_taken_out, od_taken_out, .func (PySem.W.fnOf "taken_out" "taken_out" (defArgs staken_out) (defBody staken_out) (defScope staken_out) .none kV_taken_out dc_taken_out pm_taken_out an_taken_out cd_taken_out ct_taken_out), sl_taken_out⟩)
    (c_taken_out : PySem.W.codeIn K cd_taken_out "taken_out" = true)
    (k_taken_out : PySem.W.keepIn K (.ref f_taken_out) = true)
    (a_replaced : PySem.W.nsIn K mainGlobals "replaced" = some (some (.ref f_replaced)))
    (l_replaced : K.lookup f_replaced = some ⟨oc_replaced, od_replaced, .func (PySem.W.fnOf "replaced" "replaced" (defArgs sreplaced) (defBody sreplaced) (defScope sreplaced) .none kV_replaced dc_replaced pm_replaced an_replaced cd_replaced ct_replaced), sl_replaced⟩)
    (c_replaced : PySem.W.codeIn K cd_replaced "replaced" = true)
    (k_replaced : PySem.W.keepIn K (.ref f_replaced) = true)
    (a_behind_change : PySem.W.nsIn K mainGlobals "behind_change" = some (some (.ref f_behind_change)))
    (l_behind_change : K.lookup f_behind_change = some ⟨oc_behind_change, od_behind_change, .func (PySem.W.fnOf "behind_change" "behind_change" (defArgs sbehind_change) (defBody sbehind_change) (defScope sbehind_change) .none kV_behind_change dc_behind_change pm_behind_change an_behind_change cd_behind_change ct_behind_change), sl_behind_change⟩)
    (c_behind_change : PySem.W.codeIn K cd_behind_change "behind_change" = true)
    (k_behind_change : PySem.W.keepIn K (.ref f_behind_change) = true)
    (a_row_of : PySem.W.nsIn K mainGlobals "row_of" = some (some (.ref f_row_of)))
    (l_row_of : K.lookup f_row_of = some ⟨oc_row_of, od_row_of, .func (PySem.W.fnOf "row_of" "row_of" (defArgs srow_of) (defBody srow_of) (defScope srow_of) .none kV_row_of dc_row_of pm_row_of an_row_of cd_row_of ct_row_of), sl_row_of⟩)
    (c_row_of : PySem.W.codeIn K cd_row_of "row_of" = true)
    (k_row_of : PySem.W.keepIn K (.ref f_row_of) = true)
    (a_rows_of : PySem.W.nsIn K mainGlobals "rows_of" = some (some (.ref f_rows_of)))
    (l_rows_of : K.lookup f_rows_of = some ⟨oc_rows_of, od_rows_of, .func (PySem.W.fnOf "rows_of" "rows_of" (defArgs srows_of) (defBody srows_of) (defScope srows_of) .none kV_rows_of dc_rows_of pm_rows_of an_rows_of cd_rows_of ct_rows_of), sl_rows_of⟩)
    (c_rows_of : PySem.W.codeIn K cd_rows_of "rows_of" = true)
    (k_rows_of : PySem.W.keepIn K (.ref f_rows_of) = true)
    (a_number_in : PySem.W.nsIn K mainGlobals "number_in" = some (some (.ref f_number_in)))
    (l_number_in : K.lookup f_number_in = some ⟨oc_number_in, od_number_in, .func (PySem.W.fnOf "number_in" "number_in" (defArgs snumber_in) (defBody snumber_in) (defScope snumber_in) .none kV_number_in dc_number_in pm_number_in an_number_in cd_number_in ct_number_in), sl_number_in⟩)
    (c_number_in : PySem.W.codeIn K cd_number_in "number_in" = true)
    (k_number_in : PySem.W.keepIn K (.ref f_number_in) = true)
    (a_stretch_in : PySem.W.nsIn K mainGlobals "stretch_in" = some (some (.ref f_stretch_in)))
    (l_stretch_in : K.lookup f_stretch_in = some ⟨oc_stretch_in, od_stretch_in, .func (PySem.W.fnOf "stretch_in" "stretch_in" (defArgs sstretch_in) (defBody sstretch_in) (defScope sstretch_in) .none kV_stretch_in dc_stretch_in pm_stretch_in an_stretch_in cd_stretch_in ct_stretch_in), sl_stretch_in⟩)
    (c_stretch_in : PySem.W.codeIn K cd_stretch_in "stretch_in" = true)
    (k_stretch_in : PySem.W.keepIn K (.ref f_stretch_in) = true)
    (a_pass_in : PySem.W.nsIn K mainGlobals "pass_in" = some (some (.ref f_pass_in)))
    (l_pass_in : K.lookup f_pass_in = some ⟨oc_pass_in, od_pass_in, .func (PySem.W.fnOf "pass_in" "pass_in" (defArgs spass_in) (defBody spass_in) (defScope spass_in) .none kV_pass_in dc_pass_in pm_pass_in an_pass_in cd_pass_in ct_pass_in), sl_pass_in⟩)
    (c_pass_in : PySem.W.codeIn K cd_pass_in "pass_in" = true)
    (k_pass_in : PySem.W.keepIn K (.ref f_pass_in) = true)
    (a_pass_in_row : PySem.W.nsIn K mainGlobals "pass_in_row" = some (some (.ref f_pass_in_row)))
    (l_pass_in_row : K.lookup f_pass_in_row = some ⟨oc_pass_in_row, od_pass_in_row, .func (PySem.W.fnOf "pass_in_row" "pass_in_row" (defArgs spass_in_row) (defBody spass_in_row) (defScope spass_in_row) .none kV_pass_in_row dc_pass_in_row pm_pass_in_row an_pass_in_row cd_pass_in_row ct_pass_in_row), sl_pass_in_row⟩)
    (c_pass_in_row : PySem.W.codeIn K cd_pass_in_row "pass_in_row" = true)
    (k_pass_in_row : PySem.W.keepIn K (.ref f_pass_in_row) = true)
    (a_length_in_row : PySem.W.nsIn K mainGlobals "length_in_row" = some (some (.ref f_length_in_row)))
    (l_length_in_row : K.lookup f_length_in_row = some ⟨oc_length_in_row, od_length_in_row, .func (PySem.W.fnOf "length_in_row" "length_in_row" (defArgs slength_in_row) (defBody slength_in_row) (defScope slength_in_row) .none kV_length_in_row dc_length_in_row pm_length_in_row an_length_in_row cd_length_in_row ct_length_in_row), sl_length_in_row⟩)
    (c_length_in_row : PySem.W.codeIn K cd_length_in_row "length_in_row" = true)
    (k_length_in_row : PySem.W.keepIn K (.ref f_length_in_row) = true)
    (a_track_in : PySem.W.nsIn K mainGlobals "track_in" = some (some (.ref f_track_in)))
    (l_track_in : K.lookup f_track_in = some ⟨oc_track_in, od_track_in, .func (PySem.W.fnOf "track_in" "track_in" (defArgs strack_in) (defBody strack_in) (defScope strack_in) .none kV_track_in dc_track_in pm_track_in an_track_in cd_track_in ct_track_in), sl_track_in⟩)
    (c_track_in : PySem.W.codeIn K cd_track_in "track_in" = true)
    (k_track_in : PySem.W.keepIn K (.ref f_track_in) = true)
    (a_Track_init : PySem.W.findIn K (.ref C) "__init__" = some (some (.ref f_Track_init)))
    (i_Track_init : PySem.W.isFn K (.ref f_Track_init) = true)
    (l_Track_init : K.lookup f_Track_init = some ⟨oc_Track_init, od_Track_init, .func (PySem.W.fnOf "__init__" "Track.__init__" (defArgs sTrack_init) (defBody sTrack_init) (defScope sTrack_init) (.ref T_Track_init) kV_Track_init dc_Track_init pm_Track_init an_Track_init cd_Track_init ct_Track_init), sl_Track_init⟩)
    (c_Track_init : PySem.W.codeIn K cd_Track_init "Track.__init__" = true)
    (k_Track_init : PySem.W.keepIn K (.ref f_Track_init) = true)
    (t_Track_init : K.lookup T_Track_init = some ⟨to_Track_init, td_Track_init, .seq #[.ref e_Track_init] tn_Track_init, ts_Track_init⟩)
    (e_Track_init_at : K.lookup e_Track_init = some ⟨.type "tuple", eo_Track_init, .seq #[] en_Track_init, es_Track_init⟩)
    (a_Track_read : PySem.W.findCls K (.ref C) (.type "type") "read" = some (.get (.builtin "classmethod.__get__") (.ref p_Track_read) .none (.ref C)))
    (rc_Track_read : PySem.W.recIn K p_Track_read "classmethod" = some (.ref f_Track_read :: pr_Track_read))
    (fi_Track_read : PySem.W.fnIn K f_Track_read = true)
    (rd_Track_read : PySem.W.readsIn K C (.type "type") = true)
    (ga_Track_read : PySem.W.specialIn K (.ref C) "__getattribute__" = some (some (.builtin "type.__getattribute__")))
    (l_Track_read : K.lookup f_Track_read = some ⟨oc_Track_read, od_Track_read, .func (PySem.W.fnOf "read" "Track.read" (defArgs sTrack_read) (defBody sTrack_read) (defScope sTrack_read) .none kV_Track_read dc_Track_read pm_Track_read an_Track_read cd_Track_read ct_Track_read), sl_Track_read⟩)
    (c_Track_read : PySem.W.codeIn K cd_Track_read "Track.read" = true)
    (k_Track_read : PySem.W.keepIn K (.ref f_Track_read) = true)
    (a_Track_length : PySem.W.findIn K (.ref C) "length" = some (some (.ref p_Track_length)))
    (pg_Track_length : PySem.W.specialIn K (.ref p_Track_length) "__get__" = some (some (.builtin "property.__get__")))
    (pt_Track_length : PySem.W.takesIn K (.ref p_Track_length) = some true)
    (pr_Track_length_at : PySem.W.recIn K p_Track_length "property" = some (.ref f_Track_length :: pr_Track_length))
    (l_Track_length : K.lookup f_Track_length = some ⟨oc_Track_length, od_Track_length, .func (PySem.W.fnOf "length" "Track.length" (defArgs sTrack_length) (defBody sTrack_length) (defScope sTrack_length) .none kV_Track_length dc_Track_length pm_Track_length an_Track_length cd_Track_length ct_Track_length), sl_Track_length⟩)
    (c_Track_length : PySem.W.codeIn K cd_Track_length "Track.length" = true)
    (k_Track_length : PySem.W.keepIn K (.ref f_Track_length) = true)
    (a_Track_passes : PySem.W.findIn K (.ref C) "passes" = some (some (.ref p_Track_passes)))
    (pg_Track_passes : PySem.W.specialIn K (.ref p_Track_passes) "__get__" = some (some (.builtin "property.__get__")))
    (pt_Track_passes : PySem.W.takesIn K (.ref p_Track_passes) = some true)
    (pr_Track_passes_at : PySem.W.recIn K p_Track_passes "property" = some (.ref f_Track_passes :: pr_Track_passes))
    (l_Track_passes : K.lookup f_Track_passes = some ⟨oc_Track_passes, od_Track_passes, .func (PySem.W.fnOf "passes" "Track.passes" (defArgs sTrack_passes) (defBody sTrack_passes) (defScope sTrack_passes) .none kV_Track_passes dc_Track_passes pm_Track_passes an_Track_passes cd_Track_passes ct_Track_passes), sl_Track_passes⟩)
    (c_Track_passes : PySem.W.codeIn K cd_Track_passes "Track.passes" = true)
    (k_Track_passes : PySem.W.keepIn K (.ref f_Track_passes) = true)
    (a_Track_names : PySem.W.findIn K (.ref C) "names" = some (some (.ref p_Track_names)))
    (pg_Track_names : PySem.W.specialIn K (.ref p_Track_names) "__get__" = some (some (.builtin "property.__get__")))
    (pt_Track_names : PySem.W.takesIn K (.ref p_Track_names) = some true)
    (pr_Track_names_at : PySem.W.recIn K p_Track_names "property" = some (.ref f_Track_names :: pr_Track_names))
    (l_Track_names : K.lookup f_Track_names = some ⟨oc_Track_names, od_Track_names, .func (PySem.W.fnOf "names" "Track.names" (defArgs sTrack_names) (defBody sTrack_names) (defScope sTrack_names) .none kV_Track_names dc_Track_names pm_Track_names an_Track_names cd_Track_names ct_Track_names), sl_Track_names⟩)
    (c_Track_names : PySem.W.codeIn K cd_Track_names "Track.names" = true)
    (k_Track_names : PySem.W.keepIn K (.ref f_Track_names) = true)
    (a_Track_eq : PySem.W.findIn K (.ref C) "__eq__" = some (some (.ref f_Track_eq)))
    (i_Track_eq : PySem.W.isFn K (.ref f_Track_eq) = true)
    (l_Track_eq : K.lookup f_Track_eq = some ⟨oc_Track_eq, od_Track_eq, .func (PySem.W.fnOf "__eq__" "Track.__eq__" (defArgs sTrack_eq) (defBody sTrack_eq) (defScope sTrack_eq) .none kV_Track_eq dc_Track_eq pm_Track_eq an_Track_eq cd_Track_eq ct_Track_eq), sl_Track_eq⟩)
    (c_Track_eq : PySem.W.codeIn K cd_Track_eq "Track.__eq__" = true)
    (k_Track_eq : PySem.W.keepIn K (.ref f_Track_eq) = true)
    (a_Track_str : PySem.W.findIn K (.ref C) "__str__" = some (some (.ref f_Track_str)))
    (i_Track_str : PySem.W.isFn K (.ref f_Track_str) = true)
    (l_Track_str : K.lookup f_Track_str = some ⟨oc_Track_str, od_Track_str, .func (PySem.W.fnOf "__str__" "Track.__str__" (defArgs sTrack_str) (defBody sTrack_str) (defScope sTrack_str) .none kV_Track_str dc_Track_str pm_Track_str an_Track_str cd_Track_str ct_Track_str), sl_Track_str⟩)
    (c_Track_str : PySem.W.codeIn K cd_Track_str "Track.__str__" = true)
    (k_Track_str : PySem.W.keepIn K (.ref f_Track_str) = true)
    (a_Track_known_place : PySem.W.findIn K (.ref C) "_known_place" = some (some (.ref f_Track_known_place)))
    (i_Track_known_place : PySem.W.isFn K (.ref f_Track_known_place) = true)
    (l_Track_known_place : K.lookup f_Track_known_place = some ⟨oc_Track_known_place, od_Track_known_place, .func (PySem.W.fnOf "_known_place" "Track._known_place" (defArgs sTrack_known_place) (defBody sTrack_known_place) (defScope sTrack_known_place) .none kV_Track_known_place dc_Track_known_place pm_Track_known_place an_Track_known_place cd_Track_known_place ct_Track_known_place), sl_Track_known_place⟩)
    (c_Track_known_place : PySem.W.codeIn K cd_Track_known_place "Track._known_place" = true)
    (k_Track_known_place : PySem.W.keepIn K (.ref f_Track_known_place) = true)
    (a_Track_put : PySem.W.findIn K (.ref C) "put" = some (some (.ref f_Track_put)))
    (i_Track_put : PySem.W.isFn K (.ref f_Track_put) = true)
    (l_Track_put : K.lookup f_Track_put = some ⟨oc_Track_put, od_Track_put, .func (PySem.W.fnOf "put" "Track.put" (defArgs sTrack_put) (defBody sTrack_put) (defScope sTrack_put) (.ref T_Track_put) kV_Track_put dc_Track_put pm_Track_put an_Track_put cd_Track_put ct_Track_put), sl_Track_put⟩)
    (c_Track_put : PySem.W.codeIn K cd_Track_put "Track.put" = true)
    (k_Track_put : PySem.W.keepIn K (.ref f_Track_put) = true)
    (t_Track_put : K.lookup T_Track_put = some ⟨to_Track_put, td_Track_put, .seq #[.none] tn_Track_put, ts_Track_put⟩)
    (a_Track_without : PySem.W.findIn K (.ref C) "without" = some (some (.ref f_Track_without)))
    (i_Track_without : PySem.W.isFn K (.ref f_Track_without) = true)
    (l_Track_without : K.lookup f_Track_without = some ⟨oc_Track_without, od_Track_without, .func (PySem.W.fnOf "without" "Track.without" (defArgs sTrack_without) (defBody sTrack_without) (defScope sTrack_without) .none kV_Track_without dc_Track_without pm_Track_without an_Track_without cd_Track_without ct_Track_without), sl_Track_without⟩)
    (c_Track_without : PySem.W.codeIn K cd_Track_without "Track.without" = true)
    (k_Track_without : PySem.W.keepIn K (.ref f_Track_without) = true)
    (a_Track_moved : PySem.W.findIn K (.ref C) "moved" = some (some (.ref f_Track_moved)))
    (i_Track_moved : PySem.W.isFn K (.ref f_Track_moved) = true)
    (l_Track_moved : K.lookup f_Track_moved = some ⟨oc_Track_moved, od_Track_moved, .func (PySem.W.fnOf "moved" "Track.moved" (defArgs sTrack_moved) (defBody sTrack_moved) (defScope sTrack_moved) .none kV_Track_moved dc_Track_moved pm_Track_moved an_Track_moved cd_Track_moved ct_Track_moved), sl_Track_moved⟩)
    (c_Track_moved : PySem.W.codeIn K cd_Track_moved "Track.moved" = true)
    (k_Track_moved : PySem.W.keepIn K (.ref f_Track_moved) = true)
    (a_Track_changed : PySem.W.findIn K (.ref C) "changed" = some (some (.ref f_Track_changed)))
    (i_Track_changed : PySem.W.isFn K (.ref f_Track_changed) = true)
    (l_Track_changed : K.lookup f_Track_changed = some ⟨oc_Track_changed, od_Track_changed, .func (PySem.W.fnOf "changed" "Track.changed" (defArgs sTrack_changed) (defBody sTrack_changed) (defScope sTrack_changed) .none kV_Track_changed dc_Track_changed pm_Track_changed an_Track_changed cd_Track_changed ct_Track_changed), sl_Track_changed⟩)
    (c_Track_changed : PySem.W.codeIn K cd_Track_changed "Track.changed" = true)
    (k_Track_changed : PySem.W.keepIn K (.ref f_Track_changed) = true)
    (a_law_purse : PySem.W.nsIn K mainGlobals "_law_purse" = some (some (.ref f_law_purse)))
    (l_law_purse : K.lookup f_law_purse = some ⟨oc_law_purse, od_law_purse, .func (PySem.W.fnOf "_law_purse" "_law_purse" (defArgs slaw_purse) (defBody slaw_purse) (defScope slaw_purse) .none kV_law_purse dc_law_purse pm_law_purse an_law_purse cd_law_purse ct_law_purse), sl_law_purse⟩)
    (c_law_purse : PySem.W.codeIn K cd_law_purse "_law_purse" = true)
    (k_law_purse : PySem.W.keepIn K (.ref f_law_purse) = true)
    (a_law_draw : PySem.W.nsIn K mainGlobals "_law_draw" = some (some (.ref f_law_draw)))
    (l_law_draw : K.lookup f_law_draw = some ⟨oc_law_draw, od_law_draw, .func (PySem.W.fnOf "_law_draw" "_law_draw" (defArgs slaw_draw) (defBody slaw_draw) (defScope slaw_draw) .none kV_law_draw dc_law_draw pm_law_draw an_law_draw cd_law_draw ct_law_draw), sl_law_draw⟩)
    (c_law_draw : PySem.W.codeIn K cd_law_draw "_law_draw" = true)
    (k_law_draw : PySem.W.keepIn K (.ref f_law_draw) = true)
    (a_law_pick : PySem.W.nsIn K mainGlobals "_law_pick" = some (some (.ref f_law_pick)))
    (l_law_pick : K.lookup f_law_pick = some ⟨oc_law_pick, od_law_pick, .func (PySem.W.fnOf "_law_pick" "_law_pick" (defArgs slaw_pick) (defBody slaw_pick) (defScope slaw_pick) .none kV_law_pick dc_law_pick pm_law_pick an_law_pick cd_law_pick ct_law_pick), sl_law_pick⟩)
    (c_law_pick : PySem.W.codeIn K cd_law_pick "_law_pick" = true)
    (k_law_pick : PySem.W.keepIn K (.ref f_law_pick) = true)
    (a_law_wide : PySem.W.nsIn K mainGlobals "_law_wide" = some (some (.ref f_law_wide)))
    (l_law_wide : K.lookup f_law_wide = some ⟨oc_law_wide, od_law_wide, .func (PySem.W.fnOf "_law_wide" "_law_wide" (defArgs slaw_wide) (defBody slaw_wide) (defScope slaw_wide) .none kV_law_wide dc_law_wide pm_law_wide an_law_wide cd_law_wide ct_law_wide), sl_law_wide⟩)
    (c_law_wide : PySem.W.codeIn K cd_law_wide "_law_wide" = true)
    (k_law_wide : PySem.W.keepIn K (.ref f_law_wide) = true)
    (a_law_touches : PySem.W.nsIn K mainGlobals "_law_touches" = some (some (.ref f_law_touches)))
    (l_law_touches : K.lookup f_law_touches = some ⟨oc_law_touches, od_law_touches, .func (PySem.W.fnOf "_law_touches" "_law_touches" (defArgs slaw_touches) (defBody slaw_touches) (defScope slaw_touches) .none kV_law_touches dc_law_touches pm_law_touches an_law_touches cd_law_touches ct_law_touches), sl_law_touches⟩)
    (c_law_touches : PySem.W.codeIn K cd_law_touches "_law_touches" = true)
    (k_law_touches : PySem.W.keepIn K (.ref f_law_touches) = true)
    (a_law_words : PySem.W.nsIn K mainGlobals "_law_words" = some (some (.ref f_law_words)))
    (l_law_words : K.lookup f_law_words = some ⟨oc_law_words, od_law_words, .func (PySem.W.fnOf "_law_words" "_law_words" (defArgs slaw_words) (defBody slaw_words) (defScope slaw_words) .none kV_law_words dc_law_words pm_law_words an_law_words cd_law_words ct_law_words), sl_law_words⟩)
    (c_law_words : PySem.W.codeIn K cd_law_words "_law_words" = true)
    (k_law_words : PySem.W.keepIn K (.ref f_law_words) = true)
    (a_law_fader : PySem.W.nsIn K mainGlobals "_law_fader" = some (some (.ref f_law_fader)))
    (l_law_fader : K.lookup f_law_fader = some ⟨oc_law_fader, od_law_fader, .func (PySem.W.fnOf "_law_fader" "_law_fader" (defArgs slaw_fader) (defBody slaw_fader) (defScope slaw_fader) .none kV_law_fader dc_law_fader pm_law_fader an_law_fader cd_law_fader ct_law_fader), sl_law_fader⟩)
    (c_law_fader : PySem.W.codeIn K cd_law_fader "_law_fader" = true)
    (k_law_fader : PySem.W.keepIn K (.ref f_law_fader) = true)
    (a_law_faders : PySem.W.nsIn K mainGlobals "_law_faders" = some (some (.ref f_law_faders)))
    (l_law_faders : K.lookup f_law_faders = some ⟨oc_law_faders, od_law_faders, .func (PySem.W.fnOf "_law_faders" "_law_faders" (defArgs slaw_faders) (defBody slaw_faders) (defScope slaw_faders) .none kV_law_faders dc_law_faders pm_law_faders an_law_faders cd_law_faders ct_law_faders), sl_law_faders⟩)
    (c_law_faders : PySem.W.codeIn K cd_law_faders "_law_faders" = true)
    (k_law_faders : PySem.W.keepIn K (.ref f_law_faders) = true)
    (a_law_long : PySem.W.nsIn K mainGlobals "_law_long" = some (some (.ref f_law_long)))
    (l_law_long : K.lookup f_law_long = some ⟨oc_law_long, od_law_long, .func (PySem.W.fnOf "_law_long" "_law_long" (defArgs slaw_long) (defBody slaw_long) (defScope slaw_long) .none kV_law_long dc_law_long pm_law_long an_law_long cd_law_long ct_law_long), sl_law_long⟩)
    (c_law_long : PySem.W.codeIn K cd_law_long "_law_long" = true)
    (k_law_long : PySem.W.keepIn K (.ref f_law_long) = true)
    (a_law_deed : PySem.W.nsIn K mainGlobals "_law_deed" = some (some (.ref f_law_deed)))
    (l_law_deed : K.lookup f_law_deed = some ⟨oc_law_deed, od_law_deed, .func (PySem.W.fnOf "_law_deed" "_law_deed" (defArgs slaw_deed) (defBody slaw_deed) (defScope slaw_deed) .none kV_law_deed dc_law_deed pm_law_deed an_law_deed cd_law_deed ct_law_deed), sl_law_deed⟩)
    (c_law_deed : PySem.W.codeIn K cd_law_deed "_law_deed" = true)
    (k_law_deed : PySem.W.keepIn K (.ref f_law_deed) = true)
    (a_law_back : PySem.W.nsIn K mainGlobals "_law_back" = some (some (.ref f_law_back)))
    (l_law_back : K.lookup f_law_back = some ⟨oc_law_back, od_law_back, .func (PySem.W.fnOf "_law_back" "_law_back" (defArgs slaw_back) (defBody slaw_back) (defScope slaw_back) .none kV_law_back dc_law_back pm_law_back an_law_back cd_law_back ct_law_back), sl_law_back⟩)
    (c_law_back : PySem.W.codeIn K cd_law_back "_law_back" = true)
    (k_law_back : PySem.W.keepIn K (.ref f_law_back) = true)
    (a_law_right : PySem.W.nsIn K mainGlobals "_law_right" = some (some (.ref f_law_right)))
    (l_law_right : K.lookup f_law_right = some ⟨oc_law_right, od_law_right, .func (PySem.W.fnOf "_law_right" "_law_right" (defArgs slaw_right) (defBody slaw_right) (defScope slaw_right) .none kV_law_right dc_law_right pm_law_right an_law_right cd_law_right ct_law_right), sl_law_right⟩)
    (c_law_right : PySem.W.codeIn K cd_law_right "_law_right" = true)
    (k_law_right : PySem.W.keepIn K (.ref f_law_right) = true)
    (a_law : PySem.W.nsIn K mainGlobals "law" = some (some (.ref f_law)))
    (l_law : K.lookup f_law = some ⟨oc_law, od_law, .func (PySem.W.fnOf "law" "law" (defArgs slaw) (defBody slaw) (defScope slaw) .none kV_law dc_law pm_law an_law cd_law ct_law), sl_law⟩)
    (c_law : PySem.W.codeIn K cd_law "law" = true)
    (k_law : PySem.W.keepIn K (.ref f_law) = true)
    (a_LETTERS : PySem.W.nsIn K mainGlobals "LETTERS" = some (some (.str "abcdefghijklmnopqrstuvwxyz" t_LETTERS)))
    (a_DIGITS : PySem.W.nsIn K mainGlobals "DIGITS" = some (some (.str "0123456789" t_DIGITS)))
    (a_MOST_SIGNS : PySem.W.nsIn K mainGlobals "MOST_SIGNS" = some (some (.int 8 t_MOST_SIGNS)))
    (a_MOST_LENGTH : PySem.W.nsIn K mainGlobals "MOST_LENGTH" = some (some (.int 1000000000000 t_MOST_LENGTH)))
    (a_MOST_PASSES : PySem.W.nsIn K mainGlobals "MOST_PASSES" = some (some (.int 8 t_MOST_PASSES)))
    (a_MOST_TOUCHES : PySem.W.nsIn K mainGlobals "MOST_TOUCHES" = some (some (.int 6 t_MOST_TOUCHES)))
    (a_MOST_GLIDE : PySem.W.nsIn K mainGlobals "MOST_GLIDE" = some (some (.int 100 t_MOST_GLIDE)))
    (a_OLD : PySem.W.nsIn K mainGlobals "OLD" = some (some (.str "old" t_OLD)))
    (b_MODES : PySem.W.nsIn K mainGlobals "MODES" = some (some (.ref a_MODES)))
    (l_MODES : K.lookup a_MODES = some ⟨.type "tuple", o_MODES, .seq #[.str "write" t0_MODES, .str "latch" t1_MODES, .str "touch" t2_MODES, .str "trim" t3_MODES] n_MODES, s_MODES⟩)
    (b_TAILS : PySem.W.nsIn K mainGlobals "TAILS" = some (some (.ref a_TAILS)))
    (l_TAILS : K.lookup a_TAILS = some ⟨.type "tuple", o_TAILS, .seq #[.str "stop" t0_TAILS, .str "on" t1_TAILS] n_TAILS, s_TAILS⟩)
    (a_SIZE : PySem.W.nsIn K mainGlobals "SIZE" = some (some (.int 7 t_SIZE)))
    (b_PARTS : PySem.W.nsIn K mainGlobals "PARTS" = some (some (.ref a_PARTS)))
    (l_PARTS : K.lookup a_PARTS = some ⟨.type "dict", none, .dict es_PARTS n_PARTS, #[]⟩)
    (kl_PARTS : PySem.W.KeysLit pr es_PARTS.toList)
    (sm_PARTS : (a_PARTS == sysModules) = false)
    (i_PARTS_mode : PySem.W.nsIn K a_PARTS "mode" = some (some (.int 1 t_PARTS_mode)))
    (i_PARTS_from : PySem.W.nsIn K a_PARTS "from" = some (some (.int 2 t_PARTS_from)))
    (i_PARTS_to : PySem.W.nsIn K a_PARTS "to" = some (some (.int 3 t_PARTS_to)))
    (i_PARTS_touches : PySem.W.nsIn K a_PARTS "touches" = some (some (.int 4 t_PARTS_touches)))
    (i_PARTS_glide : PySem.W.nsIn K a_PARTS "glide" = some (some (.int 5 t_PARTS_glide)))
    (i_PARTS_tail : PySem.W.nsIn K a_PARTS "tail" = some (some (.int 6 t_PARTS_tail)))
    (a_MOST_DIGITS : PySem.W.nsIn K mainGlobals "MOST_DIGITS" = some (some (.int 13 t_MOST_DIGITS)))
    (a_FEWEST_WORDS : PySem.W.nsIn K mainGlobals "FEWEST_WORDS" = some (some (.int 6 t_FEWEST_WORDS)))
    (z_len : PySem.W.nsIn K mainGlobals "len" = some none)
    (z_isinstance : PySem.W.nsIn K mainGlobals "isinstance" = some none)
    (z_int : PySem.W.nsIn K mainGlobals "int" = some none)
    (z_bool : PySem.W.nsIn K mainGlobals "bool" = some none)
    (z_str : PySem.W.nsIn K mainGlobals "str" = some none)
    (z_tuple : PySem.W.nsIn K mainGlobals "tuple" = some none)
    (z_all : PySem.W.nsIn K mainGlobals "all" = some none)
    (z_range : PySem.W.nsIn K mainGlobals "range" = some none)
    (z_enumerate : PySem.W.nsIn K mainGlobals "enumerate" = some none)
    (z_abs : PySem.W.nsIn K mainGlobals "abs" = some none)
    (z_divmod : PySem.W.nsIn K mainGlobals "divmod" = some none)
    (z_max : PySem.W.nsIn K mainGlobals "max" = some none)
    (z_min : PySem.W.nsIn K mainGlobals "min" = some none)
    (z_repr : PySem.W.nsIn K mainGlobals "repr" = some none) :
    ∃ T : Txt pr K mg, T.law.f = f_law := by
  have F_is_integer := fun_mk (st := sis_integer) l_is_integer c_is_integer k_is_integer
  have F_is_between := fun_mk (st := sis_between) l_is_between c_is_between k_is_between
  have F_is_name := fun_mk (st := sis_name) l_is_name c_is_name k_is_name
  have F_is_word := fun_mk (st := sis_word) l_is_word c_is_word k_is_word
  have F_is_stretch := fun_mk (st := sis_stretch) l_is_stretch c_is_stretch k_is_stretch
  have F_is_length := fun_mk (st := sis_length) l_is_length c_is_length k_is_length
  have F_are_touches := fun_mk (st := sare_touches) l_are_touches c_are_touches k_are_touches
  have F_is_pass := fun_mk (st := sis_pass) l_is_pass c_is_pass k_is_pass
  have F_first_wrong := fun_mk (st := sfirst_wrong) l_first_wrong c_first_wrong k_first_wrong
  have F_place_of := fun_mk (st := splace_of) l_place_of c_place_of k_place_of
  have F_is_change := fun_mk (st := sis_change) l_is_change c_is_change k_is_change
  have F_put_in := fun_mk (st := sput_in) l_put_in c_put_in k_put_in
  have F_taken_out := fun_mk (st := staken_out) l_taken_out c_taken_out k_taken_out
  have F_replaced := fun_mk (st := sreplaced) l_replaced c_replaced k_replaced
  have F_behind_change := fun_mk (st := sbehind_change) l_behind_change c_behind_change k_behind_change
  have F_row_of := fun_mk (st := srow_of) l_row_of c_row_of k_row_of
  have F_rows_of := fun_mk (st := srows_of) l_rows_of c_rows_of k_rows_of
  have F_number_in := fun_mk (st := snumber_in) l_number_in c_number_in k_number_in
  have F_stretch_in := fun_mk (st := sstretch_in) l_stretch_in c_stretch_in k_stretch_in
  have F_pass_in := fun_mk (st := spass_in) l_pass_in c_pass_in k_pass_in
  have F_pass_in_row := fun_mk (st := spass_in_row) l_pass_in_row c_pass_in_row k_pass_in_row
  have F_length_in_row := fun_mk (st := slength_in_row) l_length_in_row c_length_in_row k_length_in_row
  have F_track_in := fun_mk (st := strack_in) l_track_in c_track_in k_track_in
  have F_Track_init : FunD K "__init__" "Track.__init__" (defArgs sTrack_init) (defBody sTrack_init) (defScope sTrack_init) [(V.ref e_Track_init)] [] f_Track_init (PySem.W.fnOf "__init__" "Track.__init__" (defArgs sTrack_init) (defBody sTrack_init) (defScope sTrack_init) (.ref T_Track_init) kV_Track_init dc_Track_init pm_Track_init an_Track_init cd_Track_init ct_Track_init) := ⟨⟨oc_Track_init, od_Track_init, _, kV_Track_init, dc_Track_init, pm_Track_init, an_Track_init, cd_Track_init, ct_Track_init, sl_Track_init, rfl, l_Track_init, c_Track_init, .inr ⟨by simp, T_Track_init, _, [Value.ref e_Track_init], tn_Track_init, rfl, t_Track_init, rfl, .cons rfl .nil⟩, .inl rfl⟩, k_Track_init⟩
  have F_Track_read := fun_mk (st := sTrack_read) l_Track_read c_Track_read k_Track_read
  have F_Track_length := fun_mk (st := sTrack_length) l_Track_length c_Track_length k_Track_length
  have F_Track_passes := fun_mk (st := sTrack_passes) l_Track_passes c_Track_passes k_Track_passes
  have F_Track_names := fun_mk (st := sTrack_names) l_Track_names c_Track_names k_Track_names
  have F_Track_eq := fun_mk (st := sTrack_eq) l_Track_eq c_Track_eq k_Track_eq
  have F_Track_str := fun_mk (st := sTrack_str) l_Track_str c_Track_str k_Track_str
  have F_Track_known_place := fun_mk (st := sTrack_known_place) l_Track_known_place c_Track_known_place k_Track_known_place
  have F_Track_put : FunD K "put" "Track.put" (defArgs sTrack_put) (defBody sTrack_put) (defScope sTrack_put) [V.non] [] f_Track_put (PySem.W.fnOf "put" "Track.put" (defArgs sTrack_put) (defBody sTrack_put) (defScope sTrack_put) (.ref T_Track_put) kV_Track_put dc_Track_put pm_Track_put an_Track_put cd_Track_put ct_Track_put) := ⟨⟨oc_Track_put, od_Track_put, _, kV_Track_put, dc_Track_put, pm_Track_put, an_Track_put, cd_Track_put, ct_Track_put, sl_Track_put, rfl, l_Track_put, c_Track_put, .inr ⟨by simp, T_Track_put, _, [Value.none], tn_Track_put, rfl, t_Track_put, rfl, .cons rfl .nil⟩, .inl rfl⟩, k_Track_put⟩
  have F_Track_without := fun_mk (st := sTrack_without) l_Track_without c_Track_without k_Track_without
  have F_Track_moved := fun_mk (st := sTrack_moved) l_Track_moved c_Track_moved k_Track_moved
  have F_Track_changed := fun_mk (st := sTrack_changed) l_Track_changed c_Track_changed k_Track_changed
  have F_law_purse := fun_mk (st := slaw_purse) l_law_purse c_law_purse k_law_purse
  have F_law_draw := fun_mk (st := slaw_draw) l_law_draw c_law_draw k_law_draw
  have F_law_pick := fun_mk (st := slaw_pick) l_law_pick c_law_pick k_law_pick
  have F_law_wide := fun_mk (st := slaw_wide) l_law_wide c_law_wide k_law_wide
  have F_law_touches := fun_mk (st := slaw_touches) l_law_touches c_law_touches k_law_touches
  have F_law_words := fun_mk (st := slaw_words) l_law_words c_law_words k_law_words
  have F_law_fader := fun_mk (st := slaw_fader) l_law_fader c_law_fader k_law_fader
  have F_law_faders := fun_mk (st := slaw_faders) l_law_faders c_law_faders k_law_faders
  have F_law_long := fun_mk (st := slaw_long) l_law_long c_law_long k_law_long
  have F_law_deed := fun_mk (st := slaw_deed) l_law_deed c_law_deed k_law_deed
  have F_law_back := fun_mk (st := slaw_back) l_law_back c_law_back k_law_back
  have F_law_right := fun_mk (st := slaw_right) l_law_right c_law_right k_law_right
  have F_law := fun_mk (st := slaw) l_law c_law k_law
  refine ⟨{
      C := C,
      gC := PySem.W.mg_of X G aC,
      cl := ⟨cpg, chd, cpo, csa⟩,
      kC := ckc,
      makes := cmk,
      isC := ⟨⟨cpg, chd, cpo, csa⟩, cca, ccn, cct, ccm⟩,
      n_length := na_length,
      n_passes := na_passes,
      hne := cne,
      hob := cob,
      is_integer := { f := f_is_integer, fd := _, F := F_is_integer, g := PySem.W.mg_of X G a_is_integer, b := F_is_integer.binds (ps := ["value"]) fun _ _ _ _ _ _ us hl => match us, hl with | [_], _ => rfl },
      is_between := { f := f_is_between, fd := _, F := F_is_between, g := PySem.W.mg_of X G a_is_between, b := F_is_between.binds (ps := ["value", "low", "high"]) fun _ _ _ _ _ _ us hl => match us, hl with | [_, _, _], _ => rfl },
      is_name := { f := f_is_name, fd := _, F := F_is_name, g := PySem.W.mg_of X G a_is_name, b := F_is_name.binds (ps := ["value"]) fun _ _ _ _ _ _ us hl => match us, hl with | [_], _ => rfl },
      is_word := { f := f_is_word, fd := _, F := F_is_word, g := PySem.W.mg_of X G a_is_word, b := F_is_word.binds (ps := ["value", "words"]) fun _ _ _ _ _ _ us hl => match us, hl with | [_, _], _ => rfl },
      is_stretch := { f := f_is_stretch, fd := _, F := F_is_stretch, g := PySem.W.mg_of X G a_is_stretch, b := F_is_stretch.binds (ps := ["value", "low", "high"]) fun _ _ _ _ _ _ us hl => match us, hl with | [_, _, _], _ => rfl },
      is_length := { f := f_is_length, fd := _, F := F_is_length, g := PySem.W.mg_of X G a_is_length, b := F_is_length.binds (ps := ["value"]) fun _ _ _ _ _ _ us hl => match us, hl with | [_], _ => rfl },
      are_touches := { f := f_are_touches, fd := _, F := F_are_touches, g := PySem.W.mg_of X G a_are_touches, b := F_are_touches.binds (ps := ["value", "first", "last"]) fun _ _ _ _ _ _ us hl => match us, hl with | [_, _, _], _ => rfl },
      is_pass := { f := f_is_pass, fd := _, F := F_is_pass, g := PySem.W.mg_of X G a_is_pass, b := F_is_pass.binds (ps := ["value", "length"]) fun _ _ _ _ _ _ us hl => match us, hl with | [_, _], _ => rfl },
      first_wrong := { f := f_first_wrong, fd := _, F := F_first_wrong, g := PySem.W.mg_of X G a_first_wrong, b := F_first_wrong.binds (ps := ["passes", "length"]) fun _ _ _ _ _ _ us hl => match us, hl with | [_, _], _ => rfl },
      place_of := { f := f_place_of, fd := _, F := F_place_of, g := PySem.W.mg_of X G a_place_of, b := F_place_of.binds (ps := ["passes", "name"]) fun _ _ _ _ _ _ us hl => match us, hl with | [_, _], _ => rfl },
      is_change := { f := f_is_change, fd := _, F := F_is_change, g := PySem.W.mg_of X G a_is_change, b := F_is_change.binds (ps := ["value", "passes"]) fun _ _ _ _ _ _ us hl => match us, hl with | [_, _], _ => rfl },
      put_in := { f := f_put_in, fd := _, F := F_put_in, g := PySem.W.mg_of X G a_put_in, b := F_put_in.binds (ps := ["row", "at", "new"]) fun _ _ _ _ _ _ us hl => match us, hl with | [_, _, _], _ => rfl },
      taken_out := { f := f_taken_out, fd := _, F := F_taken_out, g := PySem.W.mg_of X G a_taken_out, b := F_taken_out.binds (ps := ["row", "at"]) fun _ _ _ _ _ _ us hl => match us, hl with | [_, _], _ => rfl },
      replaced := { f := f_replaced, fd := _, F := F_replaced, g := PySem.W.mg_of X G a_replaced, b := F_replaced.binds (ps := ["row", "at", "new"]) fun _ _ _ _ _ _ us hl => match us, hl with | [_, _, _], _ => rfl },
      behind_change := { f := f_behind_change, fd := _, F := F_behind_change, g := PySem.W.mg_of X G a_behind_change, b := F_behind_change.binds (ps := ["passes", "change"]) fun _ _ _ _ _ _ us hl => match us, hl with | [_, _], _ => rfl },
      row_of := { f := f_row_of, fd := _, F := F_row_of, g := PySem.W.mg_of X G a_row_of, b := F_row_of.binds (ps := ["one_pass"]) fun _ _ _ _ _ _ us hl => match us, hl with | [_], _ => rfl },
      rows_of := { f := f_rows_of, fd := _, F := F_rows_of, g := PySem.W.mg_of X G a_rows_of, b := F_rows_of.binds (ps := ["length", "passes"]) fun _ _ _ _ _ _ us hl => match us, hl with | [_, _], _ => rfl },
      number_in := { f := f_number_in, fd := _, F := F_number_in, g := PySem.W.mg_of X G a_number_in, b := F_number_in.binds (ps := ["word"]) fun _ _ _ _ _ _ us hl => match us, hl with | [_], _ => rfl },
      stretch_in := { f := f_stretch_in, fd := _, F := F_stretch_in, g := PySem.W.mg_of X G a_stretch_in, b := F_stretch_in.binds (ps := ["word"]) fun _ _ _ _ _ _ us hl => match us, hl with | [_], _ => rfl },
      pass_in := { f := f_pass_in, fd := _, F := F_pass_in, g := PySem.W.mg_of X G a_pass_in, b := F_pass_in.binds (ps := ["words"]) fun _ _ _ _ _ _ us hl => match us, hl with | [_], _ => rfl },
      pass_in_row := { f := f_pass_in_row, fd := _, F := F_pass_in_row, g := PySem.W.mg_of X G a_pass_in_row, b := F_pass_in_row.binds (ps := ["row"]) fun _ _ _ _ _ _ us hl => match us, hl with | [_], _ => rfl },
      length_in_row := { f := f_length_in_row, fd := _, F := F_length_in_row, g := PySem.W.mg_of X G a_length_in_row, b := F_length_in_row.binds (ps := ["row"]) fun _ _ _ _ _ _ us hl => match us, hl with | [_], _ => rfl },
      track_in := { f := f_track_in, fd := _, F := F_track_in, g := PySem.W.mg_of X G a_track_in, b := F_track_in.binds (ps := ["text"]) fun _ _ _ _ _ _ us hl => match us, hl with | [_], _ => rfl },
      e_Track_init := e_Track_init,
      et_Track_init := fun H => .inr ⟨_, #[], en_Track_init, e_Track_init_at, rfl, rfl, Nat.zero_le _, .nil⟩,
      Track_init := { f := f_Track_init, fd := _, F := F_Track_init, m := ⟨a_Track_init, i_Track_init, k_Track_init⟩, b := (match F_Track_init.binds1 3 1 (by simp) rfl fun _ _ _ _ _ _ _ us its hl hi => match us, its, hl, hi with | [_, _, _], [_], _, _ => ⟨_, rfl, rfl⟩ with | ⟨_, .nil, h⟩ => h), b1 := F_Track_init.binds1 2 0 (by simp) rfl fun _ _ _ _ _ _ _ us its hl hi => match us, its, hl, hi with | [_, _], [_], _, _ => ⟨_, rfl, rfl⟩ },
      Track_read := { f := f_Track_read, fd := _, F := F_Track_read, p := p_Track_read, R := ⟨rd_Track_read, ga_Track_read⟩, M := ⟨a_Track_read, ⟨_, rc_Track_read⟩, fi_Track_read⟩, b := F_Track_read.binds (ps := ["cls", "text"]) fun _ _ _ _ _ _ us hl => match us, hl with | [_, _], _ => rfl },
      Track_length := { f := f_Track_length, fd := _, F := F_Track_length, p := p_Track_length, P := ⟨a_Track_length, pg_Track_length, pt_Track_length, _, pr_Track_length_at⟩, b := F_Track_length.binds (ps := ["self"]) fun _ _ _ _ _ _ us hl => match us, hl with | [_], _ => rfl },
      Track_passes := { f := f_Track_passes, fd := _, F := F_Track_passes, p := p_Track_passes, P := ⟨a_Track_passes, pg_Track_passes, pt_Track_passes, _, pr_Track_passes_at⟩, b := F_Track_passes.binds (ps := ["self"]) fun _ _ _ _ _ _ us hl => match us, hl with | [_], _ => rfl },
      Track_names := { f := f_Track_names, fd := _, F := F_Track_names, p := p_Track_names, P := ⟨a_Track_names, pg_Track_names, pt_Track_names, _, pr_Track_names_at⟩, b := F_Track_names.binds (ps := ["self"]) fun _ _ _ _ _ _ us hl => match us, hl with | [_], _ => rfl },
      Track_eq := { f := f_Track_eq, fd := _, F := F_Track_eq, m := ⟨a_Track_eq, i_Track_eq, k_Track_eq⟩, b := F_Track_eq.binds (ps := ["self", "other"]) fun _ _ _ _ _ _ us hl => match us, hl with | [_, _], _ => rfl },
      Track_str := { f := f_Track_str, fd := _, F := F_Track_str, m := ⟨a_Track_str, i_Track_str, k_Track_str⟩, b := F_Track_str.binds (ps := ["self"]) fun _ _ _ _ _ _ us hl => match us, hl with | [_], _ => rfl },
      Track_known_place := { f := f_Track_known_place, fd := _, F := F_Track_known_place, m := ⟨a_Track_known_place, i_Track_known_place, k_Track_known_place⟩, b := F_Track_known_place.binds (ps := ["self", "name"]) fun _ _ _ _ _ _ us hl => match us, hl with | [_, _], _ => rfl },
      Track_put := { f := f_Track_put, fd := _, F := F_Track_put, m := ⟨a_Track_put, i_Track_put, k_Track_put⟩, b := (match F_Track_put.binds1 3 1 (by simp) rfl fun _ _ _ _ _ _ _ us its hl hi => match us, its, hl, hi with | [_, _, _], [_], _, _ => ⟨_, rfl, rfl⟩ with | ⟨_, .nil, h⟩ => h), b1 := F_Track_put.binds1 2 0 (by simp) rfl fun _ _ _ _ _ _ _ us its hl hi => match us, its, hl, hi with | [_, _], [_], _, _ => ⟨_, rfl, rfl⟩ },
      Track_without := { f := f_Track_without, fd := _, F := F_Track_without, m := ⟨a_Track_without, i_Track_without, k_Track_without⟩, b := F_Track_without.binds (ps := ["self", "name"]) fun _ _ _ _ _ _ us hl => match us, hl with | [_, _], _ => rfl },
      Track_moved := { f := f_Track_moved, fd := _, F := F_Track_moved, m := ⟨a_Track_moved, i_Track_moved, k_Track_moved⟩, b := F_Track_moved.binds (ps := ["self", "name", "place"]) fun _ _ _ _ _ _ us hl => match us, hl with | [_, _, _], _ => rfl },
      Track_changed := { f := f_Track_changed, fd := _, F := F_Track_changed, m := ⟨a_Track_changed, i_Track_changed, k_Track_changed⟩, b := F_Track_changed.binds (ps := ["self", "change"]) fun _ _ _ _ _ _ us hl => match us, hl with | [_, _], _ => rfl },
      law_purse := { f := f_law_purse, fd := _, F := F_law_purse, g := PySem.W.mg_of X G a_law_purse, b := F_law_purse.binds (ps := ["script", "k"]) fun _ _ _ _ _ _ us hl => match us, hl with | [_, _], _ => rfl },
      law_draw := { f := f_law_draw, fd := _, F := F_law_draw, g := PySem.W.mg_of X G a_law_draw, b := F_law_draw.binds (ps := ["purse", "size"]) fun _ _ _ _ _ _ us hl => match us, hl with | [_, _], _ => rfl },
      law_pick := { f := f_law_pick, fd := _, F := F_law_pick, g := PySem.W.mg_of X G a_law_pick, b := F_law_pick.binds (ps := ["purse", "menu"]) fun _ _ _ _ _ _ us hl => match us, hl with | [_, _], _ => rfl },
      law_wide := { f := f_law_wide, fd := _, F := F_law_wide, g := PySem.W.mg_of X G a_law_wide, b := F_law_wide.binds (ps := ["purse", "size"]) fun _ _ _ _ _ _ us hl => match us, hl with | [_, _], _ => rfl },
      law_touches := { f := f_law_touches, fd := _, F := F_law_touches, g := PySem.W.mg_of X G a_law_touches, b := F_law_touches.binds (ps := ["purse", "first", "last", "many", "wide"]) fun _ _ _ _ _ _ us hl => match us, hl with | [_, _, _, _, _], _ => rfl },
      law_words := { f := f_law_words, fd := _, F := F_law_words, g := PySem.W.mg_of X G a_law_words, b := F_law_words.binds (ps := ["purse"]) fun _ _ _ _ _ _ us hl => match us, hl with | [_], _ => rfl },
      law_fader := { f := f_law_fader, fd := _, F := F_law_fader, g := PySem.W.mg_of X G a_law_fader, b := F_law_fader.binds (ps := ["purse", "word", "long"]) fun _ _ _ _ _ _ us hl => match us, hl with | [_, _, _], _ => rfl },
      law_faders := { f := f_law_faders, fd := _, F := F_law_faders, g := PySem.W.mg_of X G a_law_faders, b := F_law_faders.binds (ps := ["purse", "long", "many"]) fun _ _ _ _ _ _ us hl => match us, hl with | [_, _, _], _ => rfl },
      law_long := { f := f_law_long, fd := _, F := F_law_long, g := PySem.W.mg_of X G a_law_long, b := F_law_long.binds (ps := ["purse"]) fun _ _ _ _ _ _ us hl => match us, hl with | [_], _ => rfl },
      law_deed := { f := f_law_deed, fd := _, F := F_law_deed, g := PySem.W.mg_of X G a_law_deed, b := F_law_deed.binds (ps := ["purse", "mine", "some"]) fun _ _ _ _ _ _ us hl => match us, hl with | [_, _, _], _ => rfl },
      law_back := { f := f_law_back, fd := _, F := F_law_back, g := PySem.W.mg_of X G a_law_back, b := F_law_back.binds (ps := ["purse", "mine", "some"]) fun _ _ _ _ _ _ us hl => match us, hl with | [_, _, _], _ => rfl },
      law_right := { f := f_law_right, fd := _, F := F_law_right, g := PySem.W.mg_of X G a_law_right, b := F_law_right.binds (ps := ["purse"]) fun _ _ _ _ _ _ us hl => match us, hl with | [_], _ => rfl },
      law := { f := f_law, fd := _, F := F_law, g := PySem.W.mg_of X G a_law, b := F_law.binds (ps := ["script"]) fun _ _ _ _ _ _ us hl => match us, hl with | [_], _ => rfl },
      c_LETTERS := ⟨t_LETTERS, PySem.W.mg_of X G a_LETTERS⟩,
      c_DIGITS := ⟨t_DIGITS, PySem.W.mg_of X G a_DIGITS⟩,
      c_MOST_SIGNS := ⟨t_MOST_SIGNS, PySem.W.mg_of X G a_MOST_SIGNS⟩,
      c_MOST_LENGTH := ⟨t_MOST_LENGTH, PySem.W.mg_of X G a_MOST_LENGTH⟩,
      c_MOST_PASSES := ⟨t_MOST_PASSES, PySem.W.mg_of X G a_MOST_PASSES⟩,
      c_MOST_TOUCHES := ⟨t_MOST_TOUCHES, PySem.W.mg_of X G a_MOST_TOUCHES⟩,
      c_MOST_GLIDE := ⟨t_MOST_GLIDE, PySem.W.mg_of X G a_MOST_GLIDE⟩,
      c_OLD := ⟨t_OLD, PySem.W.mg_of X G a_OLD⟩,
      c_MODES := ⟨a_MODES, PySem.W.mg_of X G b_MODES, fun H => .inr ⟨_, _, n_MODES, l_MODES, rfl, rfl, by show 4 ≤ sizeLine; decide, .cons ⟨_, rfl⟩ (.cons ⟨_, rfl⟩ (.cons ⟨_, rfl⟩ (.cons ⟨_, rfl⟩ (.nil))))⟩⟩,
      c_TAILS := ⟨a_TAILS, PySem.W.mg_of X G b_TAILS, fun H => .inr ⟨_, _, n_TAILS, l_TAILS, rfl, rfl, by show 2 ≤ sizeLine; decide, .cons ⟨_, rfl⟩ (.cons ⟨_, rfl⟩ (.nil))⟩⟩,
      c_SIZE := ⟨t_SIZE, PySem.W.mg_of X G a_SIZE⟩,
      a_PARTS := a_PARTS,
      c_PARTS := { g := PySem.W.mg_of X G b_PARTS, es := es_PARTS, n := n_PARTS, l := l_PARTS, k := kl_PARTS, s := sm_PARTS, i := fun p hp => (by simp only [List.mem_cons, List.not_mem_nil, or_false] at hp; rcases hp with rfl | rfl | rfl | rfl | rfl | rfl <;> first | exact ⟨_, i_PARTS_mode⟩ | exact ⟨_, i_PARTS_from⟩ | exact ⟨_, i_PARTS_to⟩ | exact ⟨_, i_PARTS_touches⟩ | exact ⟨_, i_PARTS_glide⟩ | exact ⟨_, i_PARTS_tail⟩) },
      c_MOST_DIGITS := ⟨t_MOST_DIGITS, PySem.W.mg_of X G a_MOST_DIGITS⟩,
      c_FEWEST_WORDS := ⟨t_FEWEST_WORDS, PySem.W.mg_of X G a_FEWEST_WORDS⟩,
      z_len := PySem.W.mg_none_of X G z_len,
      z_isinstance := PySem.W.mg_none_of X G z_isinstance,
      z_int := PySem.W.mg_none_of X G z_int,
      z_bool := PySem.W.mg_none_of X G z_bool,
      z_str := PySem.W.mg_none_of X G z_str,
      z_tuple := PySem.W.mg_none_of X G z_tuple,
      z_all := PySem.W.mg_none_of X G z_all,
      z_range := PySem.W.mg_none_of X G z_range,
      z_enumerate := PySem.W.mg_none_of X G z_enumerate,
      z_abs := PySem.W.mg_none_of X G z_abs,
      z_divmod := PySem.W.mg_none_of X G z_divmod,
      z_max := PySem.W.mg_none_of X G z_max,
      z_min := PySem.W.mg_none_of X G z_min,
      z_repr := PySem.W.mg_none_of X G z_repr }, rfl⟩
end My
namespace My
open PySem PySem.Spec PyProof.Rows L2 DL
def B_law_draw (C : Addr) : Mo Fl := (sSeq (sPar [2, 3] [false, false] (aCons (mIxV 0 (mC (.int 1))) (aCons (mOp dAdd (mOp dMod (mFn dInt (aCons (mIxV 0 (mC (.int 1))) aNil)) (mC (.int 40009))) (mC (.int 20021))) aNil)))
    (sSeq (sAsg (mOp dAdd (mIxV 0 (mC (.int 2))) (mC (.int 1))) (gPut 0 (mC (.int 2))))
    (sSeq (sAsg (mOp dMod (mFn dInt (aCons (mOp dAdd (mOp dAdd (mOp dMul (mVar 2) (mVar 3)) (mOp dMul (mC (.int 60013)) (mIxV 0 (mC (.int 2))))) (mC (.int 11))) aNil)) (mC (.int 2147483629))) (gPut 0 (mC (.int 1))))
    (sSeq (sIf (mTst (mOp dGt (mIxV 0 (mC (.int 0))) (mC (.int 0)))) (sSeq (sAsg (mFn dDivmod (aCons (mIxV 0 (mC (.int 0))) (aCons (mVar 1) aNil))) (gTp 2 (gsCons (gPut 0 (mC (.int 0))) (gsCons (gNm 4) gsNil))))
    (sRet (mVar 4))) sNx)
    (sRet (mOp dMod (mFn dInt (aCons (mOp dDiv (mIxV 0 (mC (.int 1))) (mC (.int 89))) aNil)) (mVar 1)))))))
def F_law_draw (C : Addr) : D → List D → Option (D × D) := runO 2 3 (B_law_draw C)
def B_law_pick (C : Addr) : Mo Fl := (sRet (mOp dIx (mVar 1) (mCallO (F_law_draw C) 0 (aCons (mFn dLen (aCons (mVar 1) aNil)) aNil))))
def F_law_pick (C : Addr) : D → List D → Option (D × D) := runO 2 0 (B_law_pick C)
def B_law_long (C : Addr) : Mo Fl := (sRet (mCallO (F_law_pick C) 0 (aCons (mLst (aCons (mC (.int 1)) (aCons (mC (.int 2)) (aCons (mC (.int 12)) (aCons (mC (.int 30)) (aCons (mOp dAdd (mC (.int 1)) (mCallO (F_law_draw C) 0 (aCons (mC (.int 40)) aNil))) (aCons (mC (.int 5000)) (aCons (mOp dPow (mC (.int 10)) (mC (.int 12))) (aCons (mOp dSub (mOp dPow (mC (.int 10)) (mC (.int 12))) (mC (.int 1))) aNil))))))))) aNil)))
def F_law_long (C : Addr) : D → List D → Option (D × D) := runO 1 0 (B_law_long C)
def B_law_words (C : Addr) : Mo Fl := (sSeq (sSet 1 (mLst (aCons (mC (.str "a")) (aCons (mC (.str "b")) (aCons (mC (.str "olds")) (aCons (mC (.str "z9")) (aCons (mC (.str "write")) (aCons (mC (.str "c")) (aCons (mC (.str "on")) (aCons (mC (.str "pass")) (aCons (mC (.str "abcdefgh")) (aCons (mC (.str "t0000001")) (aCons (mC (.str "ol")) (aCons (mC (.str "track")) (aCons (mC (.str "ab")) (aCons (mC (.str "aa")) aNil))))))))))))))))
    (sSeq (sSet 2 (mCallO (F_law_draw C) 0 (aCons (mFn dLen (aCons (mVar 1) aNil)) aNil)))
    (sRet (mSl dSl (mOp dAdd (mSl dSl (mVar 1) (mPart (mVar 2)) mNo) (mSl dSl (mVar 1) mNo (mPart (mVar 2)))) mNo (mPart (mC (.int 8)))))))
def F_law_words (C : Addr) : D → List D → Option (D × D) := runO 1 2 (B_law_words C)
def B_law_touches (C : Addr) : Mo Fl := (sSeq (sPar [5, 6] [true, false] (aCons (mLst aNil) (aCons (mVar 1) aNil)))
    (sSeq (sFor (iFn rng1? (aCons (mVar 3) aNil)) (gNm 7) (sSeq (sSet 8 (mOp dAdd (mVar 6) (mOp dMul (mCallO (F_law_draw C) 0 (aCons (mC (.int 4)) aNil)) (mCallO (F_law_pick C) 0 (aCons (mLst (aCons (mC (.int 1)) (aCons (mC (.int 1)) (aCons (mVar 4) aNil)))) aNil)))))
    (sSeq (sSet 9 (mOp dAdd (mOp dAdd (mVar 8) (mC (.int 1))) (mOp dMul (mCallO (F_law_draw C) 0 (aCons (mC (.int 3)) aNil)) (mCallO (F_law_pick C) 0 (aCons (mLst (aCons (mC (.int 1)) (aCons (mC (.int 1)) (aCons (mVar 4) aNil)))) aNil)))))
    (sIf (mTst (mOp dLe (mVar 9) (mVar 2))) (sSeq (sAppV 5 (mTup (aCons (mVar 8) (aCons (mVar 9) aNil))))
    (sSet 6 (mOp dAdd (mVar 9) (mC (.int 1))))) sNx))))
    (sRet (mFn dTuple (aCons (mVar 5) aNil)))))
def F_law_touches (C : Addr) : D → List D → Option (D × D) := runO 5 5 (B_law_touches C)
def B_law_wide (C : Addr) : Mo Fl := (sRet (mOp dMod (mFn dInt (aCons (mOp dAdd (mOp dMul (mCallO (F_law_draw C) 0 (aCons (mOp dPow (mC (.int 10)) (mC (.int 6))) aNil)) (mOp dPow (mC (.int 10)) (mC (.int 6)))) (mCallO (F_law_draw C) 0 (aCons (mOp dPow (mC (.int 10)) (mC (.int 6))) aNil))) aNil)) (mVar 1)))
def F_law_wide (C : Addr) : D → List D → Option (D × D) := runO 2 0 (B_law_wide C)
def B_law_fader (C : Addr) : Mo Fl := (sSeq (sSet 3 (mCallO (F_law_pick C) 0 (aCons (mLst (aCons (mC (.int 0)) (aCons (mCallO (F_law_wide C) 0 (aCons (mVar 2) aNil)) (aCons (mCallO (F_law_wide C) 0 (aCons (mVar 2) aNil)) aNil)))) aNil)))
    (sSeq (sSet 4 (mOp dAdd (mLst (aCons (mVar 2) aNil)) (mLc [5] (iFn rng1? (aCons (mC (.int 2)) aNil)) (gNm 5) (mC true) (mOp dAdd (mOp dAdd (mVar 3) (mC (.int 1))) (mCallO (F_law_wide C) 0 (aCons (mOp dSub (mVar 2) (mVar 3)) aNil))))))
    (sSeq (sSet 6 (mCallO (F_law_pick C) 0 (aCons (mVar 4) aNil)))
    (sSeq (sSet 7 (mCallO (F_law_pick C) 0 (aCons (mLst (aCons (mC (.int 1)) (aCons (mC (.int 1)) (aCons (mFn dMax (aCons (mC (.int 1)) (aCons (mOp dDiv (mOp dSub (mVar 6) (mVar 3)) (mC (.int 20))) aNil))) aNil)))) aNil)))
    (sSeq (sSet 8 (mCallO (F_law_touches C) 0 (aCons (mVar 3) (aCons (mVar 6) (aCons (mCallO (F_law_draw C) 0 (aCons (mC (.int 7)) aNil)) (aCons (mVar 7) aNil))))))
    (sSeq (sSet 9 (mCallO (F_law_pick C) 0 (aCons (mLst (aCons (mC (.str "write")) (aCons (mC (.str "latch")) (aCons (mC (.str "touch")) (aCons (mC (.str "touch")) (aCons (mC (.str "trim")) aNil)))))) aNil)))
    (sSeq (sPar [10, 11] [false, false] (aCons (mCallO (F_law_pick C) 0 (aCons (mLst (aCons (mC (.int 0)) (aCons (mC (.int 1)) (aCons (mC (.int 2)) (aCons (mC (.int 3)) (aCons (mC (.int 7)) (aCons (mC (.int 99)) (aCons (mC (.int 100)) aNil)))))))) aNil)) (aCons (mCallO (F_law_pick C) 0 (aCons (mLst (aCons (mC (.str "stop")) (aCons (mC (.str "stop")) (aCons (mC (.str "on")) aNil)))) aNil)) aNil)))
    (sRet (mTup (aCons (mVar 1) (aCons (mVar 9) (aCons (mVar 3) (aCons (mVar 6) (aCons (mVar 8) (aCons (mVar 10) (aCons (mVar 11) aNil))))))))))))))))
def F_law_fader (C : Addr) : D → List D → Option (D × D) := runO 3 9 (B_law_fader C)
def B_law_faders (C : Addr) : Mo Fl := (sSeq (sSet 3 (mCallO (F_law_words C) 0 aNil))
    (sRet (mFn dTuple (aCons (mLc [4] (iFn rng1? (aCons (mCallO (F_law_draw C) 0 (aCons (mOp dAdd (mVar 2) (mC (.int 1))) aNil)) aNil)) (gNm 4) (mC true) (mCallO (F_law_fader C) 0 (aCons (mOp dIx (mVar 3) (mVar 4)) (aCons (mVar 1) aNil)))) aNil))))
def F_law_faders (C : Addr) : D → List D → Option (D × D) := runO 3 2 (B_law_faders C)
def B_is_integer (C : Addr) : Mo Fl := (sRet (mAndV (mFn dIsT (aCons (mVar 0) (aCons (mC (.ty "int")) aNil))) (mNotV (mFn dIsT (aCons (mVar 0) (aCons (mC (.ty "bool")) aNil))))))
def F_is_integer (C : Addr) : List D → Option D := runF 1 0 (B_is_integer C)
def B_is_between (C : Addr) : Mo Fl := (sRet (mAndV (mFn (F_is_integer C) (aCons (mVar 0) aNil)) (mChain dLe dLe (mVar 1) (mVar 0) (mVar 2))))
def F_is_between (C : Addr) : List D → Option D := runF 3 0 (B_is_between C)
def B_is_stretch (C : Addr) : Mo Fl := (sSeq (sIf (mOr (mNot (mTst (mFn dIsT (aCons (mVar 0) (aCons (mC (.ty "tuple")) aNil))))) (mTst (mOp dNe (mFn dLen (aCons (mVar 0) aNil)) (mC (.int 2))))) (sRet (mC (.bl false))) sNx)
    (sRet (mAndV (mFn (F_is_between C) (aCons (mOp dIx (mVar 0) (mC (.int 0))) (aCons (mVar 1) (aCons (mVar 2) aNil)))) (mFn (F_is_between C) (aCons (mOp dIx (mVar 0) (mC (.int 1))) (aCons (mOp dAdd (mOp dIx (mVar 0) (mC (.int 0))) (mC (.int 1))) (aCons (mVar 2) aNil)))))))
def F_is_stretch (C : Addr) : List D → Option D := runF 3 0 (B_is_stretch C)
def B_are_touches (C : Addr) : Mo Fl := (sSeq (sIf (mOr (mNot (mTst (mFn dIsT (aCons (mVar 0) (aCons (mC (.ty "tuple")) aNil))))) (mTst (mOp dGt (mFn dLen (aCons (mVar 0) aNil)) (mC (.int 6))))) (sRet (mC (.bl false))) sNx)
    (sSeq (sSet 3 (mVar 1))
    (sSeq (sFor (iSeq seqT (mVar 0)) (gNm 4) (sSeq (sIf (mNot (mTst (mFn (F_is_stretch C) (aCons (mVar 4) (aCons (mVar 3) (aCons (mVar 2) aNil)))))) (sRet (mC (.bl false))) sNx)
    (sSet 3 (mOp dAdd (mOp dIx (mVar 4) (mC (.int 1))) (mC (.int 1))))))
    (sRet (mC (.bl true))))))
def F_are_touches (C : Addr) : List D → Option D := runF 3 2 (B_are_touches C)
def B_is_name (C : Addr) : Mo Fl := (sSeq (sIf (mOr (mNot (mTst (mFn dIsT (aCons (mVar 0) (aCons (mC (.ty "str")) aNil))))) (mNot (mTst (mChain dLe dLe (mC (.int 1)) (mFn dLen (aCons (mVar 0) aNil)) (mC (.int 8)))))) (sRet (mC (.bl false))) sNx)
    (sRet (mAndV (mOp dIn (mOp dIx (mVar 0) (mC (.int 0))) (mC (.str "abcdefghijklmnopqrstuvwxyz"))) (mFn dAll (aCons (mLc [1] (iSeq seqS (mVar 0)) (gNm 1) (mC true) (mOp dIn (mVar 1) (mOp dAdd (mC (.str "abcdefghijklmnopqrstuvwxyz")) (mC (.str "0123456789"))))) aNil)))))
def F_is_name (C : Addr) : List D → Option D := runF 1 1 (B_is_name C)
def B_is_word (C : Addr) : Mo Fl := (sRet (mAndV (mFn dIsT (aCons (mVar 0) (aCons (mC (.ty "str")) aNil))) (mOp dIn (mVar 0) (mVar 1))))
def F_is_word (C : Addr) : List D → Option D := runF 2 0 (B_is_word C)
def B_is_pass (C : Addr) : Mo Fl := (sSeq (sIf (mOr (mNot (mTst (mFn dIsT (aCons (mVar 0) (aCons (mC (.ty "tuple")) aNil))))) (mTst (mOp dNe (mFn dLen (aCons (mVar 0) aNil)) (mC (.int 7))))) (sRet (mC (.bl false))) sNx)
    (sSeq (sAsg (mVar 0) (gTp 7 (gsCons (gNm 2) (gsCons (gNm 3) (gsCons (gNm 4) (gsCons (gNm 5) (gsCons (gNm 6) (gsCons (gNm 7) (gsCons (gNm 8) gsNil)))))))))
    (sSeq (sIf (mOr (mNot (mTst (mFn (F_is_name C) (aCons (mVar 2) aNil)))) (mTst (mOp dEq (mVar 2) (mC (.str "old"))))) (sRet (mC (.bl false))) sNx)
    (sSeq (sIf (mOr (mNot (mTst (mFn (F_is_word C) (aCons (mVar 3) (aCons (mC (.tup [(.str "write"), (.str "latch"), (.str "touch"), (.str "trim")])) aNil))))) (mNot (mTst (mFn (F_is_word C) (aCons (mVar 8) (aCons (mC (.tup [(.str "stop"), (.str "on")])) aNil)))))) (sRet (mC (.bl false))) sNx)
    (sSeq (sIf (mNot (mTst (mFn (F_is_stretch C) (aCons (mTup (aCons (mVar 4) (aCons (mVar 5) aNil))) (aCons (mC (.int 0)) (aCons (mVar 1) aNil)))))) (sRet (mC (.bl false))) sNx)
    (sRet (mAndV (mFn (F_are_touches C) (aCons (mVar 6) (aCons (mVar 4) (aCons (mVar 5) aNil)))) (mFn (F_is_between C) (aCons (mVar 7) (aCons (mC (.int 0)) (aCons (mC (.int 100)) aNil)))))))))))
def F_is_pass (C : Addr) : List D → Option D := runF 2 7 (B_is_pass C)
def B_first_wrong (C : Addr) : Mo Fl := (sSeq (sSetN 2 (mLst aNil))
    (sSeq (sFor (iFn enumT? (aCons (mVar 0) aNil)) (gTp 2 (gsCons (gNm 3) (gsCons (gNm 4) gsNil))) (sSeq (sIf (mOr (mTst (mOp dGe (mVar 3) (mC (.int 8)))) (mOr (mNot (mTst (mFn (F_is_pass C) (aCons (mVar 4) (aCons (mVar 1) aNil))))) (mTst (mOpRt dIn (mOp dIx (mVar 4) (mC (.int 0))) 2)))) (sRet (mVar 3)) sNx)
    (sAppV 2 (mOp dIx (mVar 4) (mC (.int 0))))))
    (sRet (mC .non))))
def F_first_wrong (C : Addr) : List D → Option D := runF 2 3 (B_first_wrong C)
def B_is_length (C : Addr) : Mo Fl := (sRet (mFn (F_is_between C) (aCons (mVar 0) (aCons (mC (.int 1)) (aCons (mC (.int 1000000000000)) aNil)))))
def F_is_length (C : Addr) : List D → Option D := runF 1 0 (B_is_length C)
def B_Track_init (C : Addr) : Mo Fl := (sSeq (sIf (mNot (mTst (mFn (F_is_length C) (aCons (mVar 1) aNil)))) (sNo) sNx)
    (sSeq (sIf (mNot (mTst (mFn dIsT (aCons (mVar 2) (aCons (mC (.ty "tuple")) aNil))))) (sNo) sNx)
    (sSeq (sSet 3 (mFn (F_first_wrong C) (aCons (mVar 2) (aCons (mVar 1) aNil))))
    (sSeq (sIf (mTst (mOp dIsNot (mVar 3) (mC .non))) (sNo) sNx)
    (sSeq (sFldV C 0 "_length" (mVar 1))
    (sFldV C 0 "_passes" (mVar 2)))))))
def F_Track_init (C : Addr) : D → List D → Option (D × D) := runO 3 1 (B_Track_init C)
def B_Track_eq (C : Addr) : Mo Fl := (sRet (mAndV (mFn (dIsCT C) (aCons (mVar 1) (aCons (mC (.cls C)) aNil))) (mAndV (mOp dEq (mFld C "_length" (mVar 0)) (mFld C "_length" (mVar 1))) (mOp dEq (mFld C "_passes" (mVar 0)) (mFld C "_passes" (mVar 1))))))
def F_Track_eq (C : Addr) : List D → Option D := runF 2 0 (B_Track_eq C)
def B_place_of (C : Addr) : Mo Fl := (sSeq (sIf (mTst (mFn dIsT (aCons (mVar 1) (aCons (mC (.ty "str")) aNil)))) (sFor (iFn enumT? (aCons (mVar 0) aNil)) (gTp 2 (gsCons (gNm 2) (gsCons (gNm 3) gsNil))) (sIf (mTst (mOp dEq (mOp dIx (mVar 3) (mC (.int 0))) (mVar 1))) (sRet (mVar 2)) sNx)) sNx)
    (sRet (mC .non)))
def F_place_of (C : Addr) : List D → Option D := runF 2 2 (B_place_of C)
def B_put_in (C : Addr) : Mo Fl := (sRet (mOp dAdd (mOp dAdd (mSl dSl (mVar 0) mNo (mPart (mVar 1))) (mTup (aCons (mVar 2) aNil))) (mSl dSl (mVar 0) (mPart (mVar 1)) mNo)))
def F_put_in (C : Addr) : List D → Option D := runF 3 0 (B_put_in C)
def B_taken_out (C : Addr) : Mo Fl := (sRet (mOp dAdd (mSl dSl (mVar 0) mNo (mPart (mVar 1))) (mSl dSl (mVar 0) (mPart (mOp dAdd (mVar 1) (mC (.int 1)))) mNo)))
def F_taken_out (C : Addr) : List D → Option D := runF 2 0 (B_taken_out C)
def B_replaced (C : Addr) : Mo Fl := (sRet (mFn (F_put_in C) (aCons (mFn (F_taken_out C) (aCons (mVar 0) (aCons (mVar 1) aNil))) (aCons (mVar 1) (aCons (mVar 2) aNil)))))
def F_replaced (C : Addr) : List D → Option D := runF 3 0 (B_replaced C)
def B_behind_change (C : Addr) : Mo Fl := (sSeq (sAsg (mVar 1) (gTp 3 (gsCons (gNm 2) (gsCons (gNm 3) (gsCons (gNm 4) gsNil)))))
    (sSeq (sSet 5 (mFn (F_place_of C) (aCons (mVar 0) (aCons (mVar 2) aNil))))
    (sRet (mFn (F_replaced C) (aCons (mVar 0) (aCons (mVar 5) (aCons (mFn (F_replaced C) (aCons (mOp dIx (mVar 0) (mVar 5)) (aCons (mUn (dTab [("mode", 1), ("from", 2), ("to", 3), ("touches", 4), ("glide", 5), ("tail", 6)]) (mVar 3)) (aCons (mVar 4) aNil)))) aNil)))))))
def F_behind_change (C : Addr) : List D → Option D := runF 2 4 (B_behind_change C)
def B_is_change (C : Addr) : Mo Fl := (sSeq (sIf (mOr (mNot (mTst (mFn dIsT (aCons (mVar 0) (aCons (mC (.ty "tuple")) aNil))))) (mTst (mOp dNe (mFn dLen (aCons (mVar 0) aNil)) (mC (.int 3))))) (sRet (mC (.bl false))) sNx)
    (sSeq (sAsg (mVar 0) (gTp 3 (gsCons (gNm 2) (gsCons (gNm 3) (gsCons (gNm 4) gsNil)))))
    (sRet (mAndV (mOp dIsNot (mFn (F_place_of C) (aCons (mVar 1) (aCons (mVar 2) aNil))) (mC .non)) (mAndV (mFn dIsT (aCons (mVar 3) (aCons (mC (.ty "str")) aNil))) (mUn (dTabIn [("mode", 1), ("from", 2), ("to", 3), ("touches", 4), ("glide", 5), ("tail", 6)]) (mVar 3)))))))
def F_is_change (C : Addr) : List D → Option D := runF 2 3 (B_is_change C)
def B_Track_changed (C : Addr) : Mo Fl := (sSeq (sIf (mNot (mTst (mFn (F_is_change C) (aCons (mVar 1) (aCons (mFld C "_passes" (mVar 0)) aNil))))) (sNo) sNx)
    (sSeq (sSet 2 (mFn (F_behind_change C) (aCons (mFld C "_passes" (mVar 0)) (aCons (mVar 1) aNil))))
    (sSeq (sIf (mTst (mOp dIsNot (mFn (F_first_wrong C) (aCons (mVar 2) (aCons (mFld C "_length" (mVar 0)) aNil))) (mC .non))) (sNo) sNx)
    (sRet (mMake C (F_Track_init C) [] (aCons (mFld C "_length" (mVar 0)) (aCons (mVar 2) aNil)))))))
def F_Track_changed (C : Addr) : List D → Option D := runF 2 1 (B_Track_changed C)
def B_Track_length (C : Addr) : Mo Fl := (sRet (mFld C "_length" (mVar 0)))
def F_Track_length (C : Addr) : List D → Option D := runF 1 0 (B_Track_length C)
def B_Track_put (C : Addr) : Mo Fl := (sSeq (sSet 3 (mFn dLen (aCons (mFld C "_passes" (mVar 0)) aNil)))
    (sSeq (sIf (mOr (mNot (mTst (mFn (F_is_pass C) (aCons (mVar 1) (aCons (mFld C "_length" (mVar 0)) aNil))))) (mTst (mOp dIsNot (mFn (F_place_of C) (aCons (mFld C "_passes" (mVar 0)) (aCons (mOp dIx (mVar 1) (mC (.int 0))) aNil))) (mC .non)))) (sNo) sNx)
    (sSeq (sIf (mAnd (mTst (mOp dIsNot (mVar 2) (mC .non))) (mNot (mTst (mFn (F_is_between C) (aCons (mVar 2) (aCons (mC (.int 0)) (aCons (mVar 3) aNil))))))) (sNo) sNx)
    (sSeq (sIf (mTst (mOp dGe (mVar 3) (mC (.int 8)))) (sNo) sNx)
    (sSeq (sSet 4 (mIf (mTst (mOp dIs (mVar 2) (mC .non))) (mVar 3) (mVar 2)))
    (sRet (mMake C (F_Track_init C) [] (aCons (mFld C "_length" (mVar 0)) (aCons (mFn (F_put_in C) (aCons (mFld C "_passes" (mVar 0)) (aCons (mVar 4) (aCons (mVar 1) aNil)))) aNil)))))))))
def F_Track_put (C : Addr) : List D → Option D := runF 3 2 (B_Track_put C)
def B_Track_known_place (C : Addr) : Mo Fl := (sSeq (sSet 2 (mFn (F_place_of C) (aCons (mFld C "_passes" (mVar 0)) (aCons (mVar 1) aNil))))
    (sSeq (sIf (mTst (mOp dIs (mVar 2) (mC .non))) (sNo) sNx)
    (sRet (mVar 2))))
def F_Track_known_place (C : Addr) : List D → Option D := runF 2 1 (B_Track_known_place C)
def B_Track_without (C : Addr) : Mo Fl := (sRet (mMake C (F_Track_init C) [] (aCons (mFld C "_length" (mVar 0)) (aCons (mFn (F_taken_out C) (aCons (mFld C "_passes" (mVar 0)) (aCons (mMeth C "_known_place" (plus (F_Track_known_place C) []) (mVar 0) (aCons (mVar 1) aNil)) aNil))) aNil))))
def F_Track_without (C : Addr) : List D → Option D := runF 2 0 (B_Track_without C)
def B_Track_moved (C : Addr) : Mo Fl := (sSeq (sSet 3 (mMeth C "_known_place" (plus (F_Track_known_place C) []) (mVar 0) (aCons (mVar 1) aNil)))
    (sSeq (sIf (mNot (mTst (mFn (F_is_between C) (aCons (mVar 2) (aCons (mC (.int 0)) (aCons (mOp dSub (mFn dLen (aCons (mFld C "_passes" (mVar 0)) aNil)) (mC (.int 1))) aNil)))))) (sNo) sNx)
    (sRet (mMake C (F_Track_init C) [] (aCons (mFld C "_length" (mVar 0)) (aCons (mFn (F_put_in C) (aCons (mFn (F_taken_out C) (aCons (mFld C "_passes" (mVar 0)) (aCons (mVar 3) aNil))) (aCons (mVar 2) (aCons (mOp dIx (mFld C "_passes" (mVar 0)) (mVar 3)) aNil)))) aNil))))))
def F_Track_moved (C : Addr) : List D → Option D := runF 3 1 (B_Track_moved C)
def B_number_in (C : Addr) : Mo Fl := (sSeq (sIf (mNot (mTst (mChain dLe dLe (mC (.int 1)) (mFn dLen (aCons (mVar 0) aNil)) (mC (.int 13))))) (sRet (mC .non)) sNx)
    (sSeq (sIf (mNot (mTst (mFn dAll (aCons (mLc [1] (iSeq seqS (mVar 0)) (gNm 1) (mC true) (mOp dIn (mVar 1) (mC (.str "0123456789")))) aNil)))) (sRet (mC .non)) sNx)
    (sSeq (sIf (mAnd (mTst (mOp dEq (mOp dIx (mVar 0) (mC (.int 0))) (mC (.str "0")))) (mTst (mOp dNe (mVar 0) (mC (.str "0"))))) (sRet (mC .non)) sNx)
    (sRet (mFn dInt (aCons (mVar 0) aNil))))))
def F_number_in (C : Addr) : List D → Option D := runF 1 1 (B_number_in C)
def B_length_in_row (C : Addr) : Mo Fl := (sSeq (sAsg (mStr dSplit (mVar 0) (mC (.str " "))) (gStarN [1] 2))
    (sSeq (sIf (mOr (mTst (mOp dNe (mVar 1) (mC (.str "track")))) (mTst (mOp dNe (mFnP dLen 2) (mC (.int 1))))) (sRet (mC .non)) sNx)
    (sSeq (sSet 3 (mFn (F_number_in C) (aCons (mIxV 2 (mC (.int 0))) aNil)))
    (sRet (mIf (mTst (mFn (F_is_length C) (aCons (mVar 3) aNil))) (mVar 3) (mC .non))))))
def F_length_in_row (C : Addr) : List D → Option D := runF 1 3 (B_length_in_row C)
def B_stretch_in (C : Addr) : Mo Fl := (sSeq (sSet 1 (mLc [2] (iSeq seqL (mStr dSplit (mVar 0) (mC (.str "-")))) (gNm 2) (mC true) (mFn (F_number_in C) (aCons (mVar 2) aNil))))
    (sSeq (sIf (mOr (mTst (mOp dNe (mFn dLen (aCons (mVar 1) aNil)) (mC (.int 2)))) (mTst (mOp dIn (mC .non) (mVar 1)))) (sRet (mC .non)) sNx)
    (sRet (mTup (aCons (mOp dIx (mVar 1) (mC (.int 0))) (aCons (mOp dIx (mVar 1) (mC (.int 1))) aNil))))))
def F_stretch_in (C : Addr) : List D → Option D := runF 1 2 (B_stretch_in C)
def B_pass_in (C : Addr) : Mo Fl := (sSeq (sIf (mTst (mOp dLt (mFn dLen (aCons (mVar 0) aNil)) (mC (.int 6)))) (sRet (mC .non)) sNx)
    (sSeq (sAsg (mVar 0) (gStarN [1, 2, 3, 4, 5, 6] 7))
    (sSeq (sSet 8 (mLc [9] (iSeq seqT (mTup (aCons (mVar 3) (aCons (mVar 4) (aCons (mVar 5) aNil))))) (gNm 9) (mC true) (mFn (F_number_in C) (aCons (mVar 9) aNil))))
    (sSeq (sSet 10 (mLc [9] (iSeq seqL (mVar 7)) (gNm 9) (mC true) (mFn (F_stretch_in C) (aCons (mVar 9) aNil))))
    (sSeq (sIf (mOr (mTst (mOp dIn (mC .non) (mVar 8))) (mTst (mOp dIn (mC .non) (mVar 10)))) (sRet (mC .non)) sNx)
    (sRet (mTup (aCons (mVar 1) (aCons (mVar 2) (aCons (mOp dIx (mVar 8) (mC (.int 0))) (aCons (mOp dIx (mVar 8) (mC (.int 1))) (aCons (mFn dTuple (aCons (mVar 10) aNil)) (aCons (mOp dIx (mVar 8) (mC (.int 2))) (aCons (mVar 6) aNil))))))))))))))
def F_pass_in (C : Addr) : List D → Option D := runF 1 10 (B_pass_in C)
def B_pass_in_row (C : Addr) : Mo Fl := (sSeq (sAsg (mStr dSplit (mVar 0) (mC (.str " "))) (gStarN [1] 2))
    (sRet (mIf (mTst (mOp dEq (mVar 1) (mC (.str "pass")))) (mFn (F_pass_in C) (aCons (mVar 2) aNil)) (mC .non))))
def F_pass_in_row (C : Addr) : List D → Option D := runF 1 2 (B_pass_in_row C)
def B_track_in (C : Addr) : Mo Fl := (sSeq (sIf (mNot (mTst (mFn dIsT (aCons (mVar 0) (aCons (mC (.ty "str")) aNil))))) (sRet (mC .non)) sNx)
    (sSeq (sAsg (mStr dSplit (mVar 0) (mC (.str "\n"))) (gStarN [1] 2))
    (sSeq (sSet 3 (mFn (F_length_in_row C) (aCons (mVar 1) aNil)))
    (sSeq (sIf (mTst (mOp dIs (mVar 3) (mC .non))) (sRet (mC .non)) sNx)
    (sSeq (sSet 4 (mFn dTuple (aCons (mLc [5] (iSeq seqL (mVar 2)) (gNm 5) (mC true) (mFn (F_pass_in_row C) (aCons (mVar 5) aNil))) aNil)))
    (sRet (mIf (mTst (mOp dIs (mFn (F_first_wrong C) (aCons (mVar 4) (aCons (mVar 3) aNil))) (mC .non))) (mTup (aCons (mVar 3) (aCons (mVar 4) aNil))) (mC .non))))))))
def F_track_in (C : Addr) : List D → Option D := runF 1 5 (B_track_in C)
def B_Track_read (C : Addr) : Mo Fl := (sSeq (sSet 2 (mFn (F_track_in C) (aCons (mVar 1) aNil)))
    (sSeq (sIf (mTst (mOp dIs (mVar 2) (mC .non))) (sNo) sNx)
    (sSeq (sAsg (mVar 2) (gTp 2 (gsCons (gNm 3) (gsCons (gNm 4) gsNil))))
    (sRet (mMakeL 0 C (F_Track_init C) [] (aCons (mVar 3) (aCons (mVar 4) aNil)))))))
def F_Track_read (C : Addr) : List D → Option D := runF 2 3 (B_Track_read C)
def B_row_of (C : Addr) : Mo Fl := (sSeq (sAsg (mVar 0) (gTp 7 (gsCons (gNm 1) (gsCons (gNm 2) (gsCons (gNm 3) (gsCons (gNm 4) (gsCons (gNm 5) (gsCons (gNm 6) (gsCons (gNm 7) gsNil)))))))))
    (sSeq (sSet 8 (mLst (aCons (mC (.str "pass")) (aCons (mVar 1) (aCons (mVar 2) (aCons (mFn dStr (aCons (mVar 3) aNil)) (aCons (mFn dStr (aCons (mVar 4) aNil)) (aCons (mFn dStr (aCons (mVar 6) aNil)) (aCons (mVar 7) aNil)))))))))
    (sRet (mStr dJoin (mC (.str " ")) (mOp dAdd (mVar 8) (mLc [9, 10] (iSeq seqT (mVar 5)) (gTp 2 (gsCons (gNm 9) (gsCons (gNm 10) gsNil))) (mC true) (mFs [(mUn dFmt (mVar 9)), (mC (.str "-")), (mUn dFmt (mVar 10))])))))))
def F_row_of (C : Addr) : List D → Option D := runF 1 10 (B_row_of C)
def B_rows_of (C : Addr) : Mo Fl := (sRet (mOp dAdd (mLst (aCons (mFs [(mC (.str "track ")), (mUn dFmt (mVar 0))]) aNil)) (mLc [2] (iSeq seqT (mVar 1)) (gNm 2) (mC true) (mFn (F_row_of C) (aCons (mVar 2) aNil)))))
def F_rows_of (C : Addr) : List D → Option D := runF 2 1 (B_rows_of C)
def B_Track_str (C : Addr) : Mo Fl := (sRet (mStr dJoin (mC (.str "\n")) (mFn (F_rows_of C) (aCons (mFld C "_length" (mVar 0)) (aCons (mFld C "_passes" (mVar 0)) aNil)))))
def F_Track_str (C : Addr) : List D → Option D := runF 1 0 (B_Track_str C)
def B_law_deed (C : Addr) : Mo Fl := (sSeq (sPar [3, 4] [false, false] (aCons (mCallO (F_law_draw C) 0 (aCons (mC (.int 4)) aNil)) (aCons (mCallO (F_law_fader C) 0 (aCons (mCallO (F_law_pick C) 0 (aCons (mLst (aCons (mC (.str "zz")) (aCons (mC (.str "q")) (aCons (mC (.str "old0")) aNil)))) aNil)) (aCons (mProp C (F_Track_length C) (mVar 1)) aNil))) aNil)))
    (sSeq (sSet 5 (mCallO (F_law_draw C) 0 (aCons (mOp dAdd (mFn dLen (aCons (mVar 2) aNil)) (mC (.int 1))) aNil)))
    (sSeq (sIf (mOr (mTst (mOp dEq (mVar 3) (mC (.int 0)))) (mTst (mOp dEq (mVar 2) (mTup aNil)))) (sSeq (sIf (mOr (mTst (mOp dEq (mFn dLen (aCons (mVar 2) aNil)) (mC (.int 8)))) (mTst (mOp dIn (mOp dIx (mVar 4) (mC (.int 0))) (mLc [6] (iSeq seqT (mVar 2)) (gNm 6) (mC true) (mOp dIx (mVar 6) (mC (.int 0))))))) (sRet (mTup (aCons (mCMeth C (F_Track_read C) (mC (.cls C)) (aCons (mFn (dStrI C (F_Track_str C)) (aCons (mVar 1) aNil)) aNil)) (aCons (mVar 2) aNil)))) sNx)
    (sRet (mTup (aCons (mMeth C "put" (plus (F_Track_put C) []) (mVar 1) (aCons (mVar 4) (aCons (mVar 5) aNil))) (aCons (mOp dAdd (mOp dAdd (mSl dSl (mVar 2) mNo (mPart (mVar 5))) (mTup (aCons (mVar 4) aNil))) (mSl dSl (mVar 2) (mPart (mVar 5)) mNo)) aNil))))) sNx)
    (sSeq (sSet 7 (mCallO (F_law_draw C) 0 (aCons (mFn dLen (aCons (mVar 2) aNil)) aNil)))
    (sSeq (sPar [8, 9, 5] [false, false, false] (aCons (mOp dIx (mOp dIx (mVar 2) (mVar 7)) (mC (.int 0))) (aCons (mOp dAdd (mSl dSl (mVar 2) mNo (mPart (mVar 7))) (mSl dSl (mVar 2) (mPart (mOp dAdd (mVar 7) (mC (.int 1)))) mNo)) (aCons (mFn dMin (aCons (mVar 5) (aCons (mOp dSub (mFn dLen (aCons (mVar 2) aNil)) (mC (.int 1))) aNil))) aNil))))
    (sSeq (sIf (mTst (mOp dEq (mVar 3) (mC (.int 1)))) (sRet (mTup (aCons (mMeth C "without" (plus (F_Track_without C) []) (mVar 1) (aCons (mVar 8) aNil)) (aCons (mVar 9) aNil)))) sNx)
    (sSeq (sIf (mTst (mOp dEq (mVar 3) (mC (.int 2)))) (sRet (mTup (aCons (mMeth C "moved" (plus (F_Track_moved C) []) (mVar 1) (aCons (mVar 8) (aCons (mVar 5) aNil))) (aCons (mOp dAdd (mOp dAdd (mSl dSl (mVar 9) mNo (mPart (mVar 5))) (mTup (aCons (mOp dIx (mVar 2) (mVar 7)) aNil))) (mSl dSl (mVar 9) (mPart (mVar 5)) mNo)) aNil)))) sNx)
    (sSeq (sSet 10 (mOp dAdd (mSl dSl (mOp dIx (mVar 2) (mVar 7)) mNo (mPart (mC (.int 5)))) (mTup (aCons (mOp dIx (mVar 4) (mC (.int 5))) (aCons (mOp dIx (mVar 4) (mC (.int 6))) aNil)))))
    (sSeq (sSet 11 (mMeth C "changed" (plus (F_Track_changed C) []) (mMeth C "changed" (plus (F_Track_changed C) []) (mVar 1) (aCons (mTup (aCons (mVar 8) (aCons (mC (.str "tail")) (aCons (mOp dIx (mVar 4) (mC (.int 6))) aNil)))) aNil)) (aCons (mTup (aCons (mVar 8) (aCons (mC (.str "glide")) (aCons (mOp dIx (mVar 4) (mC (.int 5))) aNil)))) aNil)))
    (sSeq (sIf (mTst (mOp (dNeI C (F_Track_eq C)) (mVar 11) (mMeth C "changed" (plus (F_Track_changed C) []) (mMeth C "changed" (plus (F_Track_changed C) []) (mVar 1) (aCons (mTup (aCons (mVar 8) (aCons (mC (.str "glide")) (aCons (mOp dIx (mVar 4) (mC (.int 5))) aNil)))) aNil)) (aCons (mTup (aCons (mVar 8) (aCons (mC (.str "tail")) (aCons (mOp dIx (mVar 4) (mC (.int 6))) aNil)))) aNil)))) (sRet (mTup (aCons (mMake C (F_Track_init C) [.tup []] (aCons (mC (.int 1)) aNil)) (aCons (mVar 2) aNil)))) sNx)
    (sRet (mTup (aCons (mVar 11) (aCons (mOp dAdd (mOp dAdd (mSl dSl (mVar 2) mNo (mPart (mVar 7))) (mTup (aCons (mVar 10) aNil))) (mSl dSl (mVar 2) (mPart (mOp dAdd (mVar 7) (mC (.int 1)))) mNo)) aNil))))))))))))))
def F_law_deed (C : Addr) : D → List D → Option (D × D) := runO 3 9 (B_law_deed C)
def B_law_back (C : Addr) : Mo Fl := (sSeq (sFor (iFn rng1? (aCons (mFn dLen (aCons (mVar 2) aNil)) aNil)) (gNm 3) (sSeq (sPar [4, 5] [false, false] (aCons (mOp dIx (mOp dIx (mVar 2) (mVar 3)) (mC (.int 0))) (aCons (mCallO (F_law_draw C) 0 (aCons (mFn dLen (aCons (mVar 2) aNil)) aNil)) aNil)))
    (sSeq (sIf (mOr (mTst (mOp (dNeI C (F_Track_eq C)) (mMeth C "put" (plus (F_Track_put C) []) (mMeth C "without" (plus (F_Track_without C) []) (mVar 1) (aCons (mVar 4) aNil)) (aCons (mOp dIx (mVar 2) (mVar 3)) (aCons (mVar 3) aNil))) (mVar 1))) (mTst (mOp (dNeI C (F_Track_eq C)) (mMeth C "moved" (plus (F_Track_moved C) []) (mMeth C "moved" (plus (F_Track_moved C) []) (mVar 1) (aCons (mVar 4) (aCons (mVar 5) aNil))) (aCons (mVar 4) (aCons (mVar 3) aNil))) (mVar 1)))) (sRet (mC (.bl false))) sNx)
    (sSeq (sIf (mTst (mOp (dNeI C (F_Track_eq C)) (mMeth C "changed" (plus (F_Track_changed C) []) (mMeth C "changed" (plus (F_Track_changed C) []) (mVar 1) (aCons (mTup (aCons (mVar 4) (aCons (mC (.str "glide")) (aCons (mOp dSub (mC (.int 100)) (mOp dIx (mOp dIx (mVar 2) (mVar 3)) (mC (.int 5)))) aNil)))) aNil)) (aCons (mTup (aCons (mVar 4) (aCons (mC (.str "glide")) (aCons (mOp dIx (mOp dIx (mVar 2) (mVar 3)) (mC (.int 5))) aNil)))) aNil)) (mVar 1))) (sRet (mC (.bl false))) sNx)
    (sIf (mOr (mTst (mOp (dNeI C (F_Track_eq C)) (mMeth C "moved" (plus (F_Track_moved C) []) (mVar 1) (aCons (mVar 4) (aCons (mVar 3) aNil))) (mVar 1))) (mTst (mOp (dNeI C (F_Track_eq C)) (mMeth C "changed" (plus (F_Track_changed C) []) (mVar 1) (aCons (mTup (aCons (mVar 4) (aCons (mC (.str "mode")) (aCons (mOp dIx (mOp dIx (mVar 2) (mVar 3)) (mC (.int 1))) aNil)))) aNil)) (mVar 1)))) (sRet (mC (.bl false))) sNx)))))
    (sRet (mC (.bl true))))
def F_law_back (C : Addr) : D → List D → Option (D × D) := runO 3 3 (B_law_back C)
def B_Track_passes (C : Addr) : Mo Fl := (sRet (mFld C "_passes" (mVar 0)))
def F_Track_passes (C : Addr) : List D → Option D := runF 1 0 (B_Track_passes C)
def B_Track_names (C : Addr) : Mo Fl := (sRet (mFn dTuple (aCons (mLc [1] (iSeq seqT (mFld C "_passes" (mVar 0))) (gNm 1) (mC true) (mOp dIx (mVar 1) (mC (.int 0)))) aNil)))
def F_Track_names (C : Addr) : List D → Option D := runF 1 1 (B_Track_names C)
def B_law_right (C : Addr) : Mo Fl := (sSeq (sSet 1 (mCallO (F_law_long C) 0 aNil))
    (sSeq (sSet 2 (mCallO (F_law_faders C) 0 (aCons (mVar 1) (aCons (mC (.int 6)) aNil))))
    (sSeq (sSet 3 (mMake C (F_Track_init C) [] (aCons (mVar 1) (aCons (mVar 2) aNil))))
    (sSeq (sFor (iFn rng1? (aCons (mC (.int 10)) aNil)) (gNm 4) (sSeq (sAsg (mCallO (F_law_deed C) 0 (aCons (mVar 3) (aCons (mVar 2) aNil))) (gTp 2 (gsCons (gNm 3) (gsCons (gNm 2) gsNil))))
    (sSeq (sIf (mTst (mOp dNe (mFn dRepr (aCons (mLst (aCons (mProp C (F_Track_length C) (mVar 3)) (aCons (mProp C (F_Track_passes C) (mVar 3)) (aCons (mProp C (F_Track_names C) (mVar 3)) aNil)))) aNil)) (mFn dRepr (aCons (mLst (aCons (mVar 1) (aCons (mVar 2) (aCons (mFn dTuple (aCons (mLc [5] (iSeq seqT (mVar 2)) (gNm 5) (mC true) (mOp dIx (mVar 5) (mC (.int 0)))) aNil)) aNil)))) aNil)))) (sRet (mC (.bl false))) sNx)
    (sIf (mOr (mTst (mOp (dNeI C (F_Track_eq C)) (mVar 3) (mMake C (F_Track_init C) [] (aCons (mVar 1) (aCons (mVar 2) aNil))))) (mNot (mTst (mCallO (F_law_back C) 0 (aCons (mVar 3) (aCons (mVar 2) aNil)))))) (sRet (mC (.bl false))) sNx))))
    (sRet (mC (.bl true)))))))
def F_law_right (C : Addr) : D → List D → Option (D × D) := runO 1 5 (B_law_right C)
def B_law_purse (C : Addr) : Mo Fl := (sSeq (sIf (mTst (mOp dLt (mVar 1) (mFn dLen (aCons (mVar 0) aNil)))) (sSeq (sSet 2 (mOp dIx (mVar 0) (mVar 1)))
    (sSeq (sSet 3 (mIf (mOr (mTst (mOp dLt (mVar 2) (mC (.int 0)))) (mTst (mOp dGe (mVar 2) (mOp dPow (mC (.int 10)) (mC (.int 18)))))) (mFn dAbs (aCons (mVar 2) aNil)) (mC (.int 0))))
    (sRetNew (mLst (aCons (mVar 3) (aCons (mOp dMod (mFn dInt (aCons (mOp dAdd (mOp dAdd (mOp dMul (mVar 2) (mC (.int 39373))) (mOp dMul (mC (.int 104723)) (mVar 1))) (mC (.int 17))) aNil)) (mC (.int 2147483629))) (aCons (mC (.int 0)) aNil))))))) sNx)
    (sSeq (sSet 4 (mOp dAdd (mOp dMul (mC (.int 86243)) (mVar 1)) (mC (.int 131))))
    (sSeq (sFor (iSeq seqL (mSl dSl (mVar 0) mNo (mPart (mC (.int 4))))) (gNm 2) (sSet 4 (mOp dMod (mFn dInt (aCons (mOp dAdd (mOp dMul (mVar 4) (mC (.int 48271))) (mVar 2)) aNil)) (mC (.int 2147483587)))))
    (sRetNew (mLst (aCons (mC (.int 0)) (aCons (mVar 4) (aCons (mC (.int 0)) aNil))))))))
def F_law_purse (C : Addr) : List D → Option D := runN 2 3 (B_law_purse C)
def B_law (C : Addr) : Mo Fl := (sSeq (sFor (iFn rng1? (aCons (mFn dMax (aCons (mC (.int 2)) (aCons (mFn dMin (aCons (mFn dLen (aCons (mVar 0) aNil)) (aCons (mC (.int 5)) aNil))) aNil))) aNil)) (gNm 1) (sIf (mNot (mTst (mCallNew (F_law_right C) (mFn (F_law_purse C) (aCons (mVar 0) (aCons (mVar 1) aNil))) aNil))) (sRet (mC (.bl false))) sNx))
    (sRet (mC (.bl true))))
def F_law (C : Addr) : List D → Option D := runF 1 1 (B_law C)
end My
namespace My
open PySem PySem.Spec PyProof.Rows L2 DL
section
variable {P : Program} {w : World} {K : PySem.W.Frag} {mg : Str → Option Value} {base : Heap}
set_option maxHeartbeats 2000000 in
theorem bd_law_draw (T : Txt w.params K mg) : BodyD P w K mg base "_law_draw" slaw_draw T.law_draw.f ["purse", "size", "seed", "by", "digit"] 0 (B_law_draw T.C) := by
  intro cdv A outer s H E hr
  have hu := hu100 hr
  have hu64 := hu64_of hr
  have hu1 := hu1_of hr
  unfold B_law_draw
  exact ⟨_, fun M0 P0 H0 => (b_cons (s_par (i := 2) (j := 3) rfl sclaw_draw.nd rfl rfl (by decide) rfl rfl (f_dat (d_ixV 0 d_int (fun _ _ => rfl)) (f_dat (d_op op_ADD (d_op op_MOD (d_cty call_INT T.z_int (by decide +kernel) (d_acons (d_ixV 0 d_int (fun _ _ => rfl)) d_anil)) d_int) d_int) f_nil)) (by rfl))
      (b_cons (s_asg (d_op op_ADD (d_ixV 0 d_int (fun _ _ => rfl)) d_int) (g_put 0 d_int))
      (b_cons (s_asg (d_op op_MOD (d_cty call_INT T.z_int (by decide +kernel) (d_acons (d_op op_ADD (d_op op_ADD (d_op op_MUL (dv 2) (dv 3)) (d_op op_MUL d_int (d_ixV 0 d_int (fun _ _ => rfl)))) d_int) d_anil)) d_int) (g_put 0 d_int))
      (b_cons (s_if (d_tcmp op_GT (d_ixV 0 d_int (fun _ _ => rfl)) d_int (nomark _)) (b_cons (s_asg (d_blt call_DIVMOD T.z_divmod (by decide +kernel) (d_acons (d_ixV 0 d_int (fun _ _ => rfl)) (d_acons (dv 1) d_anil))) (g_tup rfl (gs_cons (g_put 0 d_int) (gs_cons (g_name (i := 4) sclaw_draw.nd rfl (Or.inl rfl)) gs_nil))))
      (b_one (s_ret (dv 4)))) b_nil)
      (b_one (s_ret (d_op op_MOD (d_cty call_INT T.z_int (by decide +kernel) (d_acons (d_op op_DIV (d_ixV 0 d_int (fun _ _ => rfl)) d_int) d_anil)) (dv 1))))))))⟩
theorem ok_law_draw (T : Txt w.params K mg) : FnOk P w K mg base CX0 1 T.law_draw.f T.law_draw.fd ["purse", "size"] (spO K 2 (F_law_draw T.C)) := okO T.law_draw.F sclaw_draw rfl rfl (bd_law_draw T)
set_option maxHeartbeats 2000000 in
theorem bd_law_pick (T : Txt w.params K mg) : BodyD P w K mg base "_law_pick" slaw_pick T.law_pick.f ["purse", "menu"] 1 (B_law_pick T.C) := by
  intro cdv A outer s H E hr
  have hu := hu100 hr
  have hu64 := hu64_of hr
  have hu1 := hu1_of hr
  unfold B_law_pick
  exact ⟨_, fun M0 P0 H0 => (b_one (s_ret (d_ix (dv 1) (d_callO 0 (ok_law_draw T) takesO (hr.mono (by decide)) T.law_draw.g T.law_draw.F.kp T.law_draw.b (d_acons (d_blt call_LEN T.z_len (by decide +kernel) (d_acons (dv 1) d_anil)) d_anil)) (fun _ _ => rfl))))⟩
theorem ok_law_pick (T : Txt w.params K mg) : FnOk P w K mg base CX0 2 T.law_pick.f T.law_pick.fd ["purse", "menu"] (spO K 2 (F_law_pick T.C)) := okO T.law_pick.F sclaw_pick rfl rfl (bd_law_pick T)
set_option maxHeartbeats 2000000 in
theorem bd_law_long (T : Txt w.params K mg) : BodyD P w K mg base "_law_long" slaw_long T.law_long.f ["purse"] 2 (B_law_long T.C) := by
  intro cdv A outer s H E hr
  have hu := hu100 hr
  have hu64 := hu64_of hr
  have hu1 := hu1_of hr
  unfold B_law_long
  exact ⟨_, fun M0 P0 H0 => (b_one (s_ret (d_callO 0 (ok_law_pick T) takesO (hr.mono (by decide)) T.law_pick.g T.law_pick.F.kp T.law_pick.b (d_acons (DN.e (d_lst (d_acons d_int (d_acons d_int (d_acons d_int (d_acons d_int (d_acons (d_op op_ADD d_int (d_callO 0 (ok_law_draw T) takesO (hr.mono (by decide)) T.law_draw.g T.law_draw.F.kp T.law_draw.b (d_acons d_int d_anil))) (d_acons d_int (d_acons (d_op op_POW d_int d_int) (d_acons (d_op op_SUB (d_op op_POW d_int d_int) d_int) d_anil)))))))))) d_anil))))⟩
theorem ok_law_long (T : Txt w.params K mg) : FnOk P w K mg base CX0 3 T.law_long.f T.law_long.fd ["purse"] (spO K 1 (F_law_long T.C)) := okO T.law_long.F sclaw_long rfl rfl (bd_law_long T)
set_option maxHeartbeats 2000000 in
theorem bd_law_words (T : Txt w.params K mg) : BodyD P w K mg base "_law_words" slaw_words T.law_words.f ["purse", "some", "at"] 1 (B_law_words T.C) := by
  intro cdv A outer s H E hr
  have hu := hu100 hr
  have hu64 := hu64_of hr
  have hu1 := hu1_of hr
  unfold B_law_words
  exact ⟨_, fun M0 P0 H0 => (b_cons (s_set (i := 1) sclaw_words.nd rfl (Or.inl rfl) (DN.e (d_lst (d_acons d_str (d_acons d_str (d_acons d_str (d_acons d_str (d_acons d_str (d_acons d_str (d_acons d_str (d_acons d_str (d_acons d_str (d_acons d_str (d_acons d_str (d_acons d_str (d_acons d_str (d_acons d_str d_anil)))))))))))))))))
      (b_cons (s_set (i := 2) sclaw_words.nd rfl (Or.inl rfl) (d_callO 0 (ok_law_draw T) takesO (hr.mono (by decide)) T.law_draw.g T.law_draw.F.kp T.law_draw.b (d_acons (d_blt call_LEN T.z_len (by decide +kernel) (d_acons (dv 1) d_anil)) d_anil)))
      (b_one (s_ret (d_sl (d_op op_ADD (d_sl (dv 1) (d_part (dv 2)) d_no) (d_sl (dv 1) d_no (d_part (dv 2)))) d_no (d_part d_int))))))⟩
theorem ok_law_words (T : Txt w.params K mg) : FnOk P w K mg base CX0 2 T.law_words.f T.law_words.fd ["purse"] (spO K 1 (F_law_words T.C)) := okO T.law_words.F sclaw_words rfl rfl (bd_law_words T)
set_option maxHeartbeats 2000000 in
theorem bd_law_touches (T : Txt w.params K mg) : BodyD P w K mg base "_law_touches" slaw_touches T.law_touches.f ["purse", "first", "last", "many", "wide", "found", "at", "k", "a", "b"] 2 (B_law_touches T.C) := by
  intro cdv A outer s H E hr
  have hu := hu100 hr
  have hu64 := hu64_of hr
  have hu1 := hu1_of hr
  unfold B_law_touches
  exact ⟨_, fun M0 P0 H0 => (b_cons (s_par (i := 5) (j := 6) rfl sclaw_touches.nd rfl rfl (by decide) rfl rfl (f_new (d_lst d_anil) (f_dat (dv 1) f_nil)) (by rfl))
      (b_cons (s_for PassesOwn.never rfl (i_rng1 T.z_range (d_acons (dv 3) d_anil)) (g_name (i := 7) sclaw_touches.nd rfl (Or.inl rfl)) (b_cons (s_set (i := 8) sclaw_touches.nd rfl (Or.inl rfl) (d_op op_ADD (dv 6) (d_op op_MUL (d_callO 0 (ok_law_draw T) takesO (hr.mono (by decide)) T.law_draw.g T.law_draw.F.kp T.law_draw.b (d_acons d_int d_anil)) (d_callO 0 (ok_law_pick T) takesO (hr.mono (by decide)) T.law_pick.g T.law_pick.F.kp T.law_pick.b (d_acons (DN.e (d_lst (d_acons d_int (d_acons d_int (d_acons (dv 4) d_anil))))) d_anil)))))
      (b_cons (s_set (i := 9) sclaw_touches.nd rfl (Or.inl rfl) (d_op op_ADD (d_op op_ADD (dv 8) d_int) (d_op op_MUL (d_callO 0 (ok_law_draw T) takesO (hr.mono (by decide)) T.law_draw.g T.law_draw.F.kp T.law_draw.b (d_acons d_int d_anil)) (d_callO 0 (ok_law_pick T) takesO (hr.mono (by decide)) T.law_pick.g T.law_pick.F.kp T.law_pick.b (d_acons (DN.e (d_lst (d_acons d_int (d_acons d_int (d_acons (dv 4) d_anil))))) d_anil)))))
      (b_one (s_if (d_tcmp op_LE (dv 9) (dv 2) (nomark _)) (b_cons (s_app 5 (d_tup (d_acons (dv 8) (d_acons (dv 9) d_anil))))
      (b_one (s_set (i := 6) sclaw_touches.nd rfl (Or.inl rfl) (d_op op_ADD (dv 9) d_int)))) b_nil)))))
      (b_one (s_ret (d_cty call_TUPLE T.z_tuple (by decide +kernel) (d_acons (dv 5) d_anil))))))⟩
theorem ok_law_touches (T : Txt w.params K mg) : FnOk P w K mg base CX0 3 T.law_touches.f T.law_touches.fd ["purse", "first", "last", "many", "wide"] (spO K 5 (F_law_touches T.C)) := okO T.law_touches.F sclaw_touches rfl rfl (bd_law_touches T)
set_option maxHeartbeats 2000000 in
theorem bd_law_wide (T : Txt w.params K mg) : BodyD P w K mg base "_law_wide" slaw_wide T.law_wide.f ["purse", "size"] 1 (B_law_wide T.C) := by
  intro cdv A outer s H E hr
  have hu := hu100 hr
  have hu64 := hu64_of hr
  have hu1 := hu1_of hr
  unfold B_law_wide
  exact ⟨_, fun M0 P0 H0 => (b_one (s_ret (d_op op_MOD (d_cty call_INT T.z_int (by decide +kernel) (d_acons (d_op op_ADD (d_op op_MUL (d_callO 0 (ok_law_draw T) takesO (hr.mono (by decide)) T.law_draw.g T.law_draw.F.kp T.law_draw.b (d_acons (d_op op_POW d_int d_int) d_anil)) (d_op op_POW d_int d_int)) (d_callO 0 (ok_law_draw T) takesO (hr.mono (by decide)) T.law_draw.g T.law_draw.F.kp T.law_draw.b (d_acons (d_op op_POW d_int d_int) d_anil))) d_anil)) (dv 1))))⟩
theorem ok_law_wide (T : Txt w.params K mg) : FnOk P w K mg base CX0 2 T.law_wide.f T.law_wide.fd ["purse", "size"] (spO K 2 (F_law_wide T.C)) := okO T.law_wide.F sclaw_wide rfl rfl (bd_law_wide T)
set_option maxHeartbeats 2000000 in
theorem bd_law_fader (T : Txt w.params K mg) : BodyD P w K mg base "_law_fader" slaw_fader T.law_fader.f ["purse", "word", "long", "first", "some", "k", "last", "wide", "marks", "mode", "slide", "tail"] 3 (B_law_fader T.C) := by
  intro cdv A outer s H E hr
  have hu := hu100 hr
  have hu64 := hu64_of hr
  have hu1 := hu1_of hr
  unfold B_law_fader
  exact ⟨_, fun M0 P0 H0 => (b_cons (s_set (i := 3) sclaw_fader.nd rfl (Or.inr rfl) (d_callO 0 (ok_law_pick T) takesO (hr.mono (by decide)) T.law_pick.g T.law_pick.F.kp T.law_pick.b (d_acons (DN.e (d_lst (d_acons d_int (d_acons (d_callO 0 (ok_law_wide T) takesO (hr.mono (by decide)) T.law_wide.g T.law_wide.F.kp T.law_wide.b (d_acons (dv 2) d_anil)) (d_acons (d_callO 0 (ok_law_wide T) takesO (hr.mono (by decide)) T.law_wide.g T.law_wide.F.kp T.law_wide.b (d_acons (dv 2) d_anil)) d_anil))))) d_anil)))
      (b_cons (s_set (i := 4) sclaw_fader.nd rfl (Or.inl rfl) (d_op op_ADD (DN.e (d_lst (d_acons (dv 2) d_anil))) (DN.e (d_lc (own := [("k", 5)]) rfl sclaw_fader.nd (i_rng1 T.z_range (d_acons d_int d_anil)) (blkOk_by (N := ["purse", "word", "long", "first", "some", "k", "last", "wide", "marks", "mode", "slide", "tail"]) (sc := defScope slaw_fader) (by decide +kernel)) (own_nam (by decide)).1 ⟨fun _ _ _ _ _ => (g_name (i := 5) sclaw_fader.nd rfl (Or.inl rfl)), fun _ _ _ _ _ => t_nil, fun _ _ _ _ _ => (d_op op_ADD (d_op op_ADD (dv 3) d_int) (d_callO 0 (ok_law_wide T) takesO (hr.mono (by decide)) T.law_wide.g T.law_wide.F.kp T.law_wide.b (d_acons (d_op op_SUB (dv 2) (dv 3)) d_anil)))⟩))))
      (b_cons (s_set (i := 6) sclaw_fader.nd rfl (Or.inl rfl) (d_callO 0 (ok_law_pick T) takesO (hr.mono (by decide)) T.law_pick.g T.law_pick.F.kp T.law_pick.b (d_acons (dv 4) d_anil)))
      (b_cons (s_set (i := 7) sclaw_fader.nd rfl (Or.inl rfl) (d_callO 0 (ok_law_pick T) takesO (hr.mono (by decide)) T.law_pick.g T.law_pick.F.kp T.law_pick.b (d_acons (DN.e (d_lst (d_acons d_int (d_acons d_int (d_acons (d_blt (call_MAX rfl) T.z_max (by decide +kernel) (d_acons d_int (d_acons (d_op op_DIV (d_op op_SUB (dv 6) (dv 3)) d_int) d_anil))) d_anil))))) d_anil)))
      (b_cons (s_set (i := 8) sclaw_fader.nd rfl (Or.inl rfl) (d_callO 0 (ok_law_touches T) takesO (hr.mono (by decide)) T.law_touches.g T.law_touches.F.kp T.law_touches.b (d_acons (dv 3) (d_acons (dv 6) (d_acons (d_callO 0 (ok_law_draw T) takesO (hr.mono (by decide)) T.law_draw.g T.law_draw.F.kp T.law_draw.b (d_acons d_int d_anil)) (d_acons (dv 7) d_anil))))))
      (b_cons (s_set (i := 9) sclaw_fader.nd rfl (Or.inl rfl) (d_callO 0 (ok_law_pick T) takesO (hr.mono (by decide)) T.law_pick.g T.law_pick.F.kp T.law_pick.b (d_acons (DN.e (d_lst (d_acons d_str (d_acons d_str (d_acons d_str (d_acons d_str (d_acons d_str d_anil))))))) d_anil)))
      (b_cons (s_par (i := 10) (j := 11) rfl sclaw_fader.nd rfl rfl (by decide) rfl rfl (f_dat (d_callO 0 (ok_law_pick T) takesO (hr.mono (by decide)) T.law_pick.g T.law_pick.F.kp T.law_pick.b (d_acons (DN.e (d_lst (d_acons d_int (d_acons d_int (d_acons d_int (d_acons d_int (d_acons d_int (d_acons d_int (d_acons d_int d_anil))))))))) d_anil)) (f_dat (d_callO 0 (ok_law_pick T) takesO (hr.mono (by decide)) T.law_pick.g T.law_pick.F.kp T.law_pick.b (d_acons (DN.e (d_lst (d_acons d_str (d_acons d_str (d_acons d_str d_anil))))) d_anil)) f_nil)) (by rfl))
      (b_one (s_ret (d_tup (d_acons (dv 1) (d_acons (dv 9) (d_acons (dv 3) (d_acons (dv 6) (d_acons (dv 8) (d_acons (dv 10) (d_acons (dv 11) d_anil)))))))))))))))))⟩
theorem ok_law_fader (T : Txt w.params K mg) : FnOk P w K mg base CX0 4 T.law_fader.f T.law_fader.fd ["purse", "word", "long"] (spO K 3 (F_law_fader T.C)) := okO T.law_fader.F sclaw_fader rfl rfl (bd_law_fader T)
set_option maxHeartbeats 2000000 in
theorem bd_law_faders (T : Txt w.params K mg) : BodyD P w K mg base "_law_faders" slaw_faders T.law_faders.f ["purse", "long", "many", "words", "k"] 4 (B_law_faders T.C) := by
  intro cdv A outer s H E hr
  have hu := hu100 hr
  have hu64 := hu64_of hr
  have hu1 := hu1_of hr
  unfold B_law_faders
  exact ⟨_, fun M0 P0 H0 => (b_cons (s_set (i := 3) sclaw_faders.nd rfl (Or.inr rfl) (d_callO 0 (ok_law_words T) takesO (hr.mono (by decide)) T.law_words.g T.law_words.F.kp T.law_words.b d_anil))
      (b_one (s_ret (d_cty call_TUPLE T.z_tuple (by decide +kernel) (d_acons (DN.e (d_lc (own := [("k", 4)]) rfl sclaw_faders.nd (i_rng1 T.z_range (d_acons (d_callO 0 (ok_law_draw T) takesO (hr.mono (by decide)) T.law_draw.g T.law_draw.F.kp T.law_draw.b (d_acons (d_op op_ADD (dv 2) d_int) d_anil)) d_anil)) (blkOk_by (N := ["purse", "long", "many", "words", "k"]) (sc := defScope slaw_faders) (by decide +kernel)) (own_nam (by decide)).1 ⟨fun _ _ _ _ _ => (g_name (i := 4) sclaw_faders.nd rfl (Or.inl rfl)), fun _ _ _ _ _ => t_nil, fun _ _ _ _ _ => (d_callO 0 (ok_law_fader T) takesO (hr.mono (by decide)) T.law_fader.g T.law_fader.F.kp T.law_fader.b (d_acons (d_ix (dv 3) (dv 4) (fun _ _ => rfl)) (d_acons (dv 1) d_anil)))⟩)) d_anil)))))⟩
theorem ok_law_faders (T : Txt w.params K mg) : FnOk P w K mg base CX0 5 T.law_faders.f T.law_faders.fd ["purse", "long", "many"] (spO K 3 (F_law_faders T.C)) := okO T.law_faders.F sclaw_faders rfl rfl (bd_law_faders T)
set_option maxHeartbeats 2000000 in
theorem bd_is_integer (T : Txt w.params K mg) : BodyD P w K mg base "is_integer" sis_integer T.is_integer.f ["value"] 0 (B_is_integer T.C) := by
  intro cdv A outer s H E hr
  have hu := hu100 hr
  have hu64 := hu64_of hr
  have hu1 := hu1_of hr
  unfold B_is_integer
  exact ⟨_, fun M0 P0 H0 => (b_one (s_ret (d_andV (d_blt call_ISIT T.z_isinstance (by decide +kernel) (d_acons (dv 0) (d_acons (d_ty T.z_int (by decide +kernel)) d_anil))) (d_one (d_notV (d_blt call_ISIT T.z_isinstance (by decide +kernel) (d_acons (dv 0) (d_acons (d_ty T.z_bool (by decide +kernel)) d_anil))))))))⟩
theorem ok_is_integer (T : Txt w.params K mg) : FnOk P w K mg base CX0 1 T.is_integer.f T.is_integer.fd ["value"] (spF K 1 (F_is_integer T.C)) := okF T.is_integer.F scis_integer rfl rfl (bd_is_integer T)
set_option maxHeartbeats 2000000 in
theorem bd_is_between (T : Txt w.params K mg) : BodyD P w K mg base "is_between" sis_between T.is_between.f ["value", "low", "high"] 1 (B_is_between T.C) := by
  intro cdv A outer s H E hr
  have hu := hu100 hr
  have hu64 := hu64_of hr
  have hu1 := hu1_of hr
  unfold B_is_between
  exact ⟨_, fun M0 P0 H0 => (b_one (s_ret (d_andV (d_call (ok_is_integer T) takesF (hr.mono (by decide)) T.is_integer.g T.is_integer.F.kp T.is_integer.b (d_acons (dv 0) d_anil)) (d_one (d_chain op_LE op_LE (dv 1) (dv 0) (dv 2))))))⟩
theorem ok_is_between (T : Txt w.params K mg) : FnOk P w K mg base CX0 2 T.is_between.f T.is_between.fd ["value", "low", "high"] (spF K 3 (F_is_between T.C)) := okF T.is_between.F scis_between rfl rfl (bd_is_between T)
set_option maxHeartbeats 2000000 in
theorem bd_is_stretch (T : Txt w.params K mg) : BodyD P w K mg base "is_stretch" sis_stretch T.is_stretch.f ["value", "low", "high"] 2 (B_is_stretch T.C) := by
  intro cdv A outer s H E hr
  have hu := hu100 hr
  have hu64 := hu64_of hr
  have hu1 := hu1_of hr
  unfold B_is_stretch
  exact ⟨_, fun M0 P0 H0 => (b_cons (s_if (DW.dt (d_or (d_not (d_tval (d_blt call_ISIT T.z_isinstance (by decide +kernel) (d_acons (dv 0) (d_acons (d_ty T.z_tuple (by decide +kernel)) d_anil))))) (d_or1 (d_tcmp (op_NE hu64) (d_blt call_LEN T.z_len (by decide +kernel) (d_acons (dv 0) d_anil)) d_int (nomark _))))) (b_one (s_ret d_bl)) b_nil)
      (b_one (s_ret (d_andV (d_call (ok_is_between T) takesF (hr.mono (by decide)) T.is_between.g T.is_between.F.kp T.is_between.b (d_acons (d_ix (dv 0) d_int (fun _ _ => rfl)) (d_acons (dv 1) (d_acons (dv 2) d_anil)))) (d_one (d_call (ok_is_between T) takesF (hr.mono (by decide)) T.is_between.g T.is_between.F.kp T.is_between.b (d_acons (d_ix (dv 0) d_int (fun _ _ => rfl)) (d_acons (d_op op_ADD (d_ix (dv 0) d_int (fun _ _ => rfl)) d_int) (d_acons (dv 2) d_anil)))))))))⟩
theorem ok_is_stretch (T : Txt w.params K mg) : FnOk P w K mg base CX0 3 T.is_stretch.f T.is_stretch.fd ["value", "low", "high"] (spF K 3 (F_is_stretch T.C)) := okF T.is_stretch.F scis_stretch rfl rfl (bd_is_stretch T)
set_option maxHeartbeats 2000000 in
theorem bd_are_touches (T : Txt w.params K mg) : BodyD P w K mg base "are_touches" sare_touches T.are_touches.f ["value", "first", "last", "low", "stretch"] 3 (B_are_touches T.C) := by
  intro cdv A outer s H E hr
  have hu := hu100 hr
  have hu64 := hu64_of hr
  have hu1 := hu1_of hr
  unfold B_are_touches
  exact ⟨_, fun M0 P0 H0 => (b_cons (s_if (DW.dt (d_or (d_not (d_tval (d_blt call_ISIT T.z_isinstance (by decide +kernel) (d_acons (dv 0) (d_acons (d_ty T.z_tuple (by decide +kernel)) d_anil))))) (d_or1 (d_tcmp op_GT (d_blt call_LEN T.z_len (by decide +kernel) (d_acons (dv 0) d_anil)) (d_gi T.c_MOST_TOUCHES) (nomark _))))) (b_one (s_ret d_bl)) b_nil)
      (b_cons (s_set (i := 3) scare_touches.nd rfl (Or.inl rfl) (dv 1))
      (b_cons (s_for PassesOwn.never rfl (i_tup (dv 0)) (g_name (i := 4) scare_touches.nd rfl (Or.inl rfl)) (b_cons (s_if (d_not (d_tval (d_call (ok_is_stretch T) takesF (hr.mono (by decide)) T.is_stretch.g T.is_stretch.F.kp T.is_stretch.b (d_acons (dv 4) (d_acons (dv 3) (d_acons (dv 2) d_anil)))))) (b_one (s_ret d_bl)) b_nil)
      (b_one (s_set (i := 3) scare_touches.nd rfl (Or.inl rfl) (d_op op_ADD (d_ix (dv 4) d_int (fun _ _ => rfl)) d_int)))))
      (b_one (s_ret d_bl)))))⟩
theorem ok_are_touches (T : Txt w.params K mg) : FnOk P w K mg base CX0 4 T.are_touches.f T.are_touches.fd ["value", "first", "last"] (spF K 3 (F_are_touches T.C)) := okF T.are_touches.F scare_touches rfl rfl (bd_are_touches T)
set_option maxHeartbeats 2000000 in
theorem bd_is_name (T : Txt w.params K mg) : BodyD P w K mg base "is_name" sis_name T.is_name.f ["value", "sign"] 0 (B_is_name T.C) := by
  intro cdv A outer s H E hr
  have hu := hu100 hr
  have hu64 := hu64_of hr
  have hu1 := hu1_of hr
  unfold B_is_name
  exact ⟨_, fun M0 P0 H0 => (b_cons (s_if (DW.dt (d_or (d_not (d_tval (d_blt call_ISIT T.z_isinstance (by decide +kernel) (d_acons (dv 0) (d_acons (d_ty T.z_str (by decide +kernel)) d_anil))))) (d_or1 (d_not (d_tchain op_LE op_LE d_int (d_blt call_LEN T.z_len (by decide +kernel) (d_acons (dv 0) d_anil)) (d_gi T.c_MOST_SIGNS)))))) (b_one (s_ret d_bl)) b_nil)
      (b_one (s_ret (d_andV (d_cmp (op_IN hu) (d_ix (dv 0) d_int (fun _ _ => rfl)) (d_gs T.c_LETTERS) (by rfl)) (d_one (d_blt (call_ALL rfl) T.z_all (by decide +kernel) (d_acons (DN.e (d_lc (own := [("sign", 1)]) rfl scis_name.nd (i_str (dv 0)) (blkOk_by (N := ["value", "sign"]) (sc := defScope sis_name) (by decide +kernel)) (own_nam (by decide)).1 ⟨fun _ _ _ _ _ => (g_name (i := 1) scis_name.nd rfl (Or.inl rfl)), fun _ _ _ _ _ => t_nil, fun _ _ _ _ _ => (d_cmp (op_IN hu) (dv 1) (d_op op_ADD (d_gs T.c_LETTERS) (d_gs T.c_DIGITS)) (by rfl))⟩)) d_anil)))))))⟩
theorem ok_is_name (T : Txt w.params K mg) : FnOk P w K mg base CX0 1 T.is_name.f T.is_name.fd ["value"] (spF K 1 (F_is_name T.C)) := okF T.is_name.F scis_name rfl rfl (bd_is_name T)
set_option maxHeartbeats 2000000 in
theorem bd_is_word (T : Txt w.params K mg) : BodyD P w K mg base "is_word" sis_word T.is_word.f ["value", "words"] 0 (B_is_word T.C) := by
  intro cdv A outer s H E hr
  have hu := hu100 hr
  have hu64 := hu64_of hr
  have hu1 := hu1_of hr
  unfold B_is_word
  exact ⟨_, fun M0 P0 H0 => (b_one (s_ret (d_andV (d_blt call_ISIT T.z_isinstance (by decide +kernel) (d_acons (dv 0) (d_acons (d_ty T.z_str (by decide +kernel)) d_anil))) (d_one (d_cmp (op_IN hu) (dv 0) (dv 1) (by rfl))))))⟩
theorem ok_is_word (T : Txt w.params K mg) : FnOk P w K mg base CX0 1 T.is_word.f T.is_word.fd ["value", "words"] (spF K 2 (F_is_word T.C)) := okF T.is_word.F scis_word rfl rfl (bd_is_word T)
set_option maxHeartbeats 2000000 in
theorem bd_is_pass (T : Txt w.params K mg) : BodyD P w K mg base "is_pass" sis_pass T.is_pass.f ["value", "length", "name", "mode", "first", "last", "touches", "glide", "tail"] 4 (B_is_pass T.C) := by
  intro cdv A outer s H E hr
  have hu := hu100 hr
  have hu64 := hu64_of hr
  have hu1 := hu1_of hr
  unfold B_is_pass
  exact ⟨_, fun M0 P0 H0 => (b_cons (s_if (DW.dt (d_or (d_not (d_tval (d_blt call_ISIT T.z_isinstance (by decide +kernel) (d_acons (dv 0) (d_acons (d_ty T.z_tuple (by decide +kernel)) d_anil))))) (d_or1 (d_tcmp (op_NE hu64) (d_blt call_LEN T.z_len (by decide +kernel) (d_acons (dv 0) d_anil)) (d_gi T.c_SIZE) (nomark _))))) (b_one (s_ret d_bl)) b_nil)
      (b_cons (s_asg (dv 0) (g_tup rfl (gs_cons (g_name (i := 2) scis_pass.nd rfl (Or.inl rfl)) (gs_cons (g_name (i := 3) scis_pass.nd rfl (Or.inl rfl)) (gs_cons (g_name (i := 4) scis_pass.nd rfl (Or.inl rfl)) (gs_cons (g_name (i := 5) scis_pass.nd rfl (Or.inl rfl)) (gs_cons (g_name (i := 6) scis_pass.nd rfl (Or.inl rfl)) (gs_cons (g_name (i := 7) scis_pass.nd rfl (Or.inl rfl)) (gs_cons (g_name (i := 8) scis_pass.nd rfl (Or.inl rfl)) gs_nil)))))))))
      (b_cons (s_if (DW.dt (d_or (d_not (d_tval (d_call (ok_is_name T) takesF (hr.mono (by decide)) T.is_name.g T.is_name.F.kp T.is_name.b (d_acons (dv 2) d_anil)))) (d_or1 (d_tcmp (op_EQ hu64) (dv 2) (d_gs T.c_OLD) (nomark _))))) (b_one (s_ret d_bl)) b_nil)
      (b_cons (s_if (DW.dt (d_or (d_not (d_tval (d_call (ok_is_word T) takesF (hr.mono (by decide)) T.is_word.g T.is_word.F.kp T.is_word.b (d_acons (dv 3) (d_acons (d_gtu T.c_MODES.g T.c_MODES.q (fun _ _ => (.cons (.str _) (.cons (.str _) (.cons (.str _) (.cons (.str _) .nil)))))) d_anil))))) (d_or1 (d_not (d_tval (d_call (ok_is_word T) takesF (hr.mono (by decide)) T.is_word.g T.is_word.F.kp T.is_word.b (d_acons (dv 8) (d_acons (d_gtu T.c_TAILS.g T.c_TAILS.q (fun _ _ => (.cons (.str _) (.cons (.str _) .nil)))) d_anil)))))))) (b_one (s_ret d_bl)) b_nil)
      (b_cons (s_if (d_not (d_tval (d_call (ok_is_stretch T) takesF (hr.mono (by decide)) T.is_stretch.g T.is_stretch.F.kp T.is_stretch.b (d_acons (d_tup (d_acons (dv 4) (d_acons (dv 5) d_anil))) (d_acons d_int (d_acons (dv 1) d_anil)))))) (b_one (s_ret d_bl)) b_nil)
      (b_one (s_ret (d_andV (d_call (ok_are_touches T) takesF (hr.mono (by decide)) T.are_touches.g T.are_touches.F.kp T.are_touches.b (d_acons (dv 6) (d_acons (dv 4) (d_acons (dv 5) d_anil)))) (d_one (d_call (ok_is_between T) takesF (hr.mono (by decide)) T.is_between.g T.is_between.F.kp T.is_between.b (d_acons (dv 7) (d_acons d_int (d_acons (d_gi T.c_MOST_GLIDE) d_anil)))))))))))))⟩
theorem ok_is_pass (T : Txt w.params K mg) : FnOk P w K mg base CX0 5 T.is_pass.f T.is_pass.fd ["value", "length"] (spF K 2 (F_is_pass T.C)) := okF T.is_pass.F scis_pass rfl rfl (bd_is_pass T)
set_option maxHeartbeats 2000000 in
theorem bd_first_wrong (T : Txt w.params K mg) : BodyD P w K mg base "first_wrong" sfirst_wrong T.first_wrong.f ["passes", "length", "names", "at", "one"] 5 (B_first_wrong T.C) := by
  intro cdv A outer s H E hr
  have hu := hu100 hr
  have hu64 := hu64_of hr
  have hu1 := hu1_of hr
  unfold B_first_wrong
  exact ⟨_, fun M0 P0 H0 => (b_cons (s_setN (i := 2) scfirst_wrong.nd rfl (Or.inl rfl) (d_lst d_anil))
      (b_cons (s_for PassesOwn.never rfl (i_enumT T.z_enumerate (d_acons (dv 0) d_anil)) (g_tup rfl (gs_cons (g_name (i := 3) scfirst_wrong.nd rfl (Or.inl rfl)) (gs_cons (g_name (i := 4) scfirst_wrong.nd rfl (Or.inl rfl)) gs_nil))) (b_cons (s_if (DW.dt (d_or (d_tcmp op_GE (dv 3) (d_gi T.c_MOST_PASSES) (nomark _)) (d_or (d_not (d_tval (d_call (ok_is_pass T) takesF (hr.mono (by decide)) T.is_pass.g T.is_pass.F.kp T.is_pass.b (d_acons (dv 4) (d_acons (dv 1) d_anil))))) (d_or1 (d_tcmpRt 2 (op_IN hu) (d_ix (dv 4) d_int (fun _ _ => rfl)) (by rfl)))))) (b_one (s_ret (dv 3))) b_nil)
      (b_one (s_app 2 (d_ix (dv 4) d_int (fun _ _ => rfl))))))
      (b_one (s_ret d_non))))⟩
theorem ok_first_wrong (T : Txt w.params K mg) : FnOk P w K mg base CX0 6 T.first_wrong.f T.first_wrong.fd ["passes", "length"] (spF K 2 (F_first_wrong T.C)) := okF T.first_wrong.F scfirst_wrong rfl rfl (bd_first_wrong T)
set_option maxHeartbeats 2000000 in
theorem bd_is_length (T : Txt w.params K mg) : BodyD P w K mg base "is_length" sis_length T.is_length.f ["value"] 2 (B_is_length T.C) := by
  intro cdv A outer s H E hr
  have hu := hu100 hr
  have hu64 := hu64_of hr
  have hu1 := hu1_of hr
  unfold B_is_length
  exact ⟨_, fun M0 P0 H0 => (b_one (s_ret (d_call (ok_is_between T) takesF (hr.mono (by decide)) T.is_between.g T.is_between.F.kp T.is_between.b (d_acons (dv 0) (d_acons d_int (d_acons (d_gi T.c_MOST_LENGTH) d_anil))))))⟩
theorem ok_is_length (T : Txt w.params K mg) : FnOk P w K mg base CX0 3 T.is_length.f T.is_length.fd ["value"] (spF K 1 (F_is_length T.C)) := okF T.is_length.F scis_length rfl rfl (bd_is_length T)
set_option maxHeartbeats 2000000 in
theorem bd_Track_init (T : Txt w.params K mg) : BodyD P w K mg base "Track.__init__" sTrack_init T.Track_init.f ["self", "length", "passes", "wrong"] 6 (B_Track_init T.C) := by
  intro cdv A outer s H E hr
  have hu := hu100 hr
  have hu64 := hu64_of hr
  have hu1 := hu1_of hr
  unfold B_Track_init
  exact ⟨_, fun M0 P0 H0 => (b_cons (s_if (d_not (d_tval (d_call (ok_is_length T) takesF (hr.mono (by decide)) T.is_length.g T.is_length.F.kp T.is_length.b (d_acons (dv 1) d_anil)))) (b_one (s_never)) b_nil)
      (b_cons (s_if (d_not (d_tval (d_blt call_ISIT T.z_isinstance (by decide +kernel) (d_acons (dv 2) (d_acons (d_ty T.z_tuple (by decide +kernel)) d_anil))))) (b_one (s_never)) b_nil)
      (b_cons (s_set (i := 3) scTrack_init.nd rfl (Or.inl rfl) (d_call (ok_first_wrong T) takesF (hr.mono (by decide)) T.first_wrong.g T.first_wrong.F.kp T.first_wrong.b (d_acons (dv 2) (d_acons (dv 1) d_anil))))
      (b_cons (s_if (d_tcmp op_ISNOT (dv 3) d_non (nomark _)) (b_one (s_never)) b_nil)
      (b_cons (s_fld 0 T.cl T.n_length (dv 1))
      (b_one (s_fld 0 T.cl T.n_passes (dv 2))))))))⟩
theorem ok_Track_init (T : Txt w.params K mg) : FnOk P w K mg base CX0 7 T.Track_init.f T.Track_init.fd ["self", "length", "passes"] (spO K 3 (F_Track_init T.C)) := okOD T.Track_init.F scTrack_init rfl rfl (bd_Track_init T)
set_option maxHeartbeats 2000000 in
theorem bd_Track_eq (T : Txt w.params K mg) : BodyD P w K mg base "Track.__eq__" sTrack_eq T.Track_eq.f ["self", "other"] 0 (B_Track_eq T.C) := by
  intro cdv A outer s H E hr
  have hu := hu100 hr
  have hu64 := hu64_of hr
  have hu1 := hu1_of hr
  unfold B_Track_eq
  exact ⟨_, fun M0 P0 H0 => (b_one (s_ret (d_andV (d_blt (call_ISICT T.isC) T.z_isinstance (by decide +kernel) (d_acons (dv 1) (d_acons (d_cls T.gC) d_anil))) (d_andV (d_cmp (op_EQ hu64) (d_fld (dv 0) T.cl T.n_length) (d_fld (dv 1) T.cl T.n_length) (nomark _)) (d_one (d_cmp (op_EQ hu64) (d_fld (dv 0) T.cl T.n_passes) (d_fld (dv 1) T.cl T.n_passes) (nomark _)))))))⟩
theorem ok_Track_eq (T : Txt w.params K mg) : FnOk P w K mg base CX0 1 T.Track_eq.f T.Track_eq.fd ["self", "other"] (spF K 2 (F_Track_eq T.C)) := okF T.Track_eq.F scTrack_eq rfl rfl (bd_Track_eq T)
set_option maxHeartbeats 2000000 in
theorem bd_place_of (T : Txt w.params K mg) : BodyD P w K mg base "place_of" splace_of T.place_of.f ["passes", "name", "at", "one"] 0 (B_place_of T.C) := by
  intro cdv A outer s H E hr
  have hu := hu100 hr
  have hu64 := hu64_of hr
  have hu1 := hu1_of hr
  unfold B_place_of
  exact ⟨_, fun M0 P0 H0 => (b_cons (s_if (d_tval (d_blt call_ISIT T.z_isinstance (by decide +kernel) (d_acons (dv 1) (d_acons (d_ty T.z_str (by decide +kernel)) d_anil)))) (b_one (s_for PassesOwn.never rfl (i_enumT T.z_enumerate (d_acons (dv 0) d_anil)) (g_tup rfl (gs_cons (g_name (i := 2) scplace_of.nd rfl (Or.inl rfl)) (gs_cons (g_name (i := 3) scplace_of.nd rfl (Or.inl rfl)) gs_nil))) (b_one (s_if (d_tcmp (op_EQ hu64) (d_ix (dv 3) d_int (fun _ _ => rfl)) (dv 1) (nomark _)) (b_one (s_ret (dv 2))) b_nil)))) b_nil)
      (b_one (s_ret d_non)))⟩
theorem ok_place_of (T : Txt w.params K mg) : FnOk P w K mg base CX0 1 T.place_of.f T.place_of.fd ["passes", "name"] (spF K 2 (F_place_of T.C)) := okF T.place_of.F scplace_of rfl rfl (bd_place_of T)
set_option maxHeartbeats 2000000 in
theorem bd_put_in (T : Txt w.params K mg) : BodyD P w K mg base "put_in" sput_in T.put_in.f ["row", "at", "new"] 0 (B_put_in T.C) := by
  intro cdv A outer s H E hr
  have hu := hu100 hr
  have hu64 := hu64_of hr
  have hu1 := hu1_of hr
  unfold B_put_in
  exact ⟨_, fun M0 P0 H0 => (b_one (s_ret (d_op op_ADD (d_op op_ADD (d_sl (dv 0) d_no (d_part (dv 1))) (d_tup (d_acons (dv 2) d_anil))) (d_sl (dv 0) (d_part (dv 1)) d_no))))⟩
theorem ok_put_in (T : Txt w.params K mg) : FnOk P w K mg base CX0 1 T.put_in.f T.put_in.fd ["row", "at", "new"] (spF K 3 (F_put_in T.C)) := okF T.put_in.F scput_in rfl rfl (bd_put_in T)
set_option maxHeartbeats 2000000 in
theorem bd_taken_out (T : Txt w.params K mg) : BodyD P w K mg base "taken_out" staken_out T.taken_out.f ["row", "at"] 0 (B_taken_out T.C) := by
  intro cdv A outer s H E hr
  have hu := hu100 hr
  have hu64 := hu64_of hr
  have hu1 := hu1_of hr
  unfold B_taken_out
  exact ⟨_, fun M0 P0 H0 => (b_one (s_ret (d_op op_ADD (d_sl (dv 0) d_no (d_part (dv 1))) (d_sl (dv 0) (d_part (d_op op_ADD (dv 1) d_int)) d_no))))⟩
theorem ok_taken_out (T : Txt w.params K mg) : FnOk P w K mg base CX0 1 T.taken_out.f T.taken_out.fd ["row", "at"] (spF K 2 (F_taken_out T.C)) := okF T.taken_out.F sctaken_out rfl rfl (bd_taken_out T)
set_option maxHeartbeats 2000000 in
theorem bd_replaced (T : Txt w.params K mg) : BodyD P w K mg base "replaced" sreplaced T.replaced.f ["row", "at", "new"] 1 (B_replaced T.C) := by
  intro cdv A outer s H E hr
  have hu := hu100 hr
  have hu64 := hu64_of hr
  have hu1 := hu1_of hr
  unfold B_replaced
  exact ⟨_, fun M0 P0 H0 => (b_one (s_ret (d_call (ok_put_in T) takesF (hr.mono (by decide)) T.put_in.g T.put_in.F.kp T.put_in.b (d_acons (d_call (ok_taken_out T) takesF (hr.mono (by decide)) T.taken_out.g T.taken_out.F.kp T.taken_out.b (d_acons (dv 0) (d_acons (dv 1) d_anil))) (d_acons (dv 1) (d_acons (dv 2) d_anil))))))⟩
theorem ok_replaced (T : Txt w.params K mg) : FnOk P w K mg base CX0 2 T.replaced.f T.replaced.fd ["row", "at", "new"] (spF K 3 (F_replaced T.C)) := okF T.replaced.F screplaced rfl rfl (bd_replaced T)
set_option maxHeartbeats 2000000 in
theorem bd_behind_change (T : Txt w.params K mg) : BodyD P w K mg base "behind_change" sbehind_change T.behind_change.f ["passes", "change", "name", "part", "value", "at"] 2 (B_behind_change T.C) := by
  intro cdv A outer s H E hr
  have hu := hu100 hr
  have hu64 := hu64_of hr
  have hu1 := hu1_of hr
  unfold B_behind_change
  exact ⟨_, fun M0 P0 H0 => (b_cons (s_asg (dv 1) (g_tup rfl (gs_cons (g_name (i := 2) scbehind_change.nd rfl (Or.inl rfl)) (gs_cons (g_name (i := 3) scbehind_change.nd rfl (Or.inl rfl)) (gs_cons (g_name (i := 4) scbehind_change.nd rfl (Or.inl rfl)) gs_nil)))))
      (b_cons (s_set (i := 5) scbehind_change.nd rfl (Or.inl rfl) (d_call (ok_place_of T) takesF (hr.mono (by decide)) T.place_of.g T.place_of.F.kp T.place_of.b (d_acons (dv 0) (d_acons (dv 2) d_anil))))
      (b_one (s_ret (d_call (ok_replaced T) takesF (hr.mono (by decide)) T.replaced.g T.replaced.F.kp T.replaced.b (d_acons (dv 0) (d_acons (dv 5) (d_acons (d_call (ok_replaced T) takesF (hr.mono (by decide)) T.replaced.g T.replaced.F.kp T.replaced.b (d_acons (d_ix (dv 0) (dv 5) (fun _ _ => rfl)) (d_acons (d_tab T.c_PARTS (dv 3) (fun _ _ => rfl)) (d_acons (dv 4) d_anil)))) d_anil))))))))⟩
theorem ok_behind_change (T : Txt w.params K mg) : FnOk P w K mg base CX0 3 T.behind_change.f T.behind_change.fd ["passes", "change"] (spF K 2 (F_behind_change T.C)) := okF T.behind_change.F scbehind_change rfl rfl (bd_behind_change T)
set_option maxHeartbeats 2000000 in
theorem bd_is_change (T : Txt w.params K mg) : BodyD P w K mg base "is_change" sis_change T.is_change.f ["value", "passes", "name", "part", "_"] 1 (B_is_change T.C) := by
  intro cdv A outer s H E hr
  have hu := hu100 hr
  have hu64 := hu64_of hr
  have hu1 := hu1_of hr
  unfold B_is_change
  exact ⟨_, fun M0 P0 H0 => (b_cons (s_if (DW.dt (d_or (d_not (d_tval (d_blt call_ISIT T.z_isinstance (by decide +kernel) (d_acons (dv 0) (d_acons (d_ty T.z_tuple (by decide +kernel)) d_anil))))) (d_or1 (d_tcmp (op_NE hu64) (d_blt call_LEN T.z_len (by decide +kernel) (d_acons (dv 0) d_anil)) d_int (nomark _))))) (b_one (s_ret d_bl)) b_nil)
      (b_cons (s_asg (dv 0) (g_tup rfl (gs_cons (g_name (i := 2) scis_change.nd rfl (Or.inl rfl)) (gs_cons (g_name (i := 3) scis_change.nd rfl (Or.inl rfl)) (gs_cons (g_name (i := 4) scis_change.nd rfl (Or.inl rfl)) gs_nil)))))
      (b_one (s_ret (d_andV (d_cmp op_ISNOT (d_call (ok_place_of T) takesF (hr.mono (by decide)) T.place_of.g T.place_of.F.kp T.place_of.b (d_acons (dv 1) (d_acons (dv 2) d_anil))) d_non (nomark _)) (d_andV (d_blt call_ISIT T.z_isinstance (by decide +kernel) (d_acons (dv 3) (d_acons (d_ty T.z_str (by decide +kernel)) d_anil))) (d_one (d_tabIn T.c_PARTS (dv 3)))))))))⟩
theorem ok_is_change (T : Txt w.params K mg) : FnOk P w K mg base CX0 2 T.is_change.f T.is_change.fd ["value", "passes"] (spF K 2 (F_is_change T.C)) := okF T.is_change.F scis_change rfl rfl (bd_is_change T)
set_option maxHeartbeats 2000000 in
theorem bd_Track_changed (T : Txt w.params K mg) : BodyD P w K mg base "Track.changed" sTrack_changed T.Track_changed.f ["self", "change", "passes"] 8 (B_Track_changed T.C) := by
  intro cdv A outer s H E hr
  have hu := hu100 hr
  have hu64 := hu64_of hr
  have hu1 := hu1_of hr
  unfold B_Track_changed
  exact ⟨_, fun M0 P0 H0 => (b_cons (s_if (d_not (d_tval (d_call (ok_is_change T) takesF (hr.mono (by decide)) T.is_change.g T.is_change.F.kp T.is_change.b (d_acons (dv 1) (d_acons (d_fld (dv 0) T.cl T.n_passes) d_anil))))) (b_one (s_never)) b_nil)
      (b_cons (s_set (i := 2) scTrack_changed.nd rfl (Or.inl rfl) (d_call (ok_behind_change T) takesF (hr.mono (by decide)) T.behind_change.g T.behind_change.F.kp T.behind_change.b (d_acons (d_fld (dv 0) T.cl T.n_passes) (d_acons (dv 1) d_anil))))
      (b_cons (s_if (d_tcmp op_ISNOT (d_call (ok_first_wrong T) takesF (hr.mono (by decide)) T.first_wrong.g T.first_wrong.F.kp T.first_wrong.b (d_acons (dv 2) (d_acons (d_fld (dv 0) T.cl T.n_length) d_anil))) d_non (nomark _)) (b_one (s_never)) b_nil)
      (b_one (s_ret (DN.e (d_make ⟨T.makes, T.Track_init.m.at_, T.Track_init.m.fn, T.kC⟩ (ok_Track_init T) takesO (hr.mono (by decide)) T.gC T.Track_init.b .nil (fun _ _ => .nil) (d_acons (d_fld (dv 0) T.cl T.n_length) (d_acons (dv 2) d_anil)))))))))⟩
theorem ok_Track_changed (T : Txt w.params K mg) : FnOk P w K mg base CX0 9 T.Track_changed.f T.Track_changed.fd ["self", "change"] (spF K 2 (F_Track_changed T.C)) := okF T.Track_changed.F scTrack_changed rfl rfl (bd_Track_changed T)
set_option maxHeartbeats 2000000 in
theorem bd_Track_length (T : Txt w.params K mg) : BodyD P w K mg base "Track.length" sTrack_length T.Track_length.f ["self"] 0 (B_Track_length T.C) := by
  intro cdv A outer s H E hr
  have hu := hu100 hr
  have hu64 := hu64_of hr
  have hu1 := hu1_of hr
  unfold B_Track_length
  exact ⟨_, fun M0 P0 H0 => (b_one (s_ret (d_fld (dv 0) T.cl T.n_length)))⟩
theorem ok_Track_length (T : Txt w.params K mg) : FnOk P w K mg base CX0 1 T.Track_length.f T.Track_length.fd ["self"] (spF K 1 (F_Track_length T.C)) := okF T.Track_length.F scTrack_length rfl rfl (bd_Track_length T)
set_option maxHeartbeats 2000000 in
theorem bd_Track_put (T : Txt w.params K mg) : BodyD P w K mg base "Track.put" sTrack_put T.Track_put.f ["self", "one_pass", "place", "many", "at"] 8 (B_Track_put T.C) := by
  intro cdv A outer s H E hr
  have hu := hu100 hr
  have hu64 := hu64_of hr
  have hu1 := hu1_of hr
  unfold B_Track_put
  exact ⟨_, fun M0 P0 H0 => (b_cons (s_set (i := 3) scTrack_put.nd rfl (Or.inl rfl) (d_blt call_LEN T.z_len (by decide +kernel) (d_acons (d_fld (dv 0) T.cl T.n_passes) d_anil)))
      (b_cons (s_if (DW.dt (d_or (d_not (d_tval (d_call (ok_is_pass T) takesF (hr.mono (by decide)) T.is_pass.g T.is_pass.F.kp T.is_pass.b (d_acons (dv 1) (d_acons (d_fld (dv 0) T.cl T.n_length) d_anil))))) (d_or1 (d_tcmp op_ISNOT (d_call (ok_place_of T) takesF (hr.mono (by decide)) T.place_of.g T.place_of.F.kp T.place_of.b (d_acons (d_fld (dv 0) T.cl T.n_passes) (d_acons (d_ix (dv 1) d_int (fun _ _ => rfl)) d_anil))) d_non (nomark _))))) (b_one (s_never)) b_nil)
      (b_cons (s_if (DW.dt (d_and (d_tcmp op_ISNOT (dv 2) d_non (nomark _)) (d_and1 (d_not (d_tval (d_call (ok_is_between T) takesF (hr.mono (by decide)) T.is_between.g T.is_between.F.kp T.is_between.b (d_acons (dv 2) (d_acons d_int (d_acons (dv 3) d_anil))))))))) (b_one (s_never)) b_nil)
      (b_cons (s_if (d_tcmp op_GE (dv 3) (d_gi T.c_MOST_PASSES) (nomark _)) (b_one (s_never)) b_nil)
      (b_cons (s_set (i := 4) scTrack_put.nd rfl (Or.inl rfl) (d_if (d_tcmp op_IS (dv 2) d_non (nomark _)) (dv 3) (dv 2)))
      (b_one (s_ret (DN.e (d_make ⟨T.makes, T.Track_init.m.at_, T.Track_init.m.fn, T.kC⟩ (ok_Track_init T) takesO (hr.mono (by decide)) T.gC T.Track_init.b .nil (fun _ _ => .nil) (d_acons (d_fld (dv 0) T.cl T.n_length) (d_acons (d_call (ok_put_in T) takesF (hr.mono (by decide)) T.put_in.g T.put_in.F.kp T.put_in.b (d_acons (d_fld (dv 0) T.cl T.n_passes) (d_acons (dv 4) (d_acons (dv 1) d_anil)))) d_anil)))))))))))⟩
theorem ok_Track_put (T : Txt w.params K mg) : FnOk P w K mg base CX0 9 T.Track_put.f T.Track_put.fd ["self", "one_pass", "place"] (spF K 3 (F_Track_put T.C)) := okFD T.Track_put.F scTrack_put rfl rfl (bd_Track_put T)
set_option maxHeartbeats 2000000 in
theorem bd_Track_known_place (T : Txt w.params K mg) : BodyD P w K mg base "Track._known_place" sTrack_known_place T.Track_known_place.f ["self", "name", "place"] 1 (B_Track_known_place T.C) := by
  intro cdv A outer s H E hr
  have hu := hu100 hr
  have hu64 := hu64_of hr
  have hu1 := hu1_of hr
  unfold B_Track_known_place
  exact ⟨_, fun M0 P0 H0 => (b_cons (s_set (i := 2) scTrack_known_place.nd rfl (Or.inl rfl) (d_call (ok_place_of T) takesF (hr.mono (by decide)) T.place_of.g T.place_of.F.kp T.place_of.b (d_acons (d_fld (dv 0) T.cl T.n_passes) (d_acons (dv 1) d_anil))))
      (b_cons (s_if (d_tcmp op_IS (dv 2) d_non (nomark _)) (b_one (s_never)) b_nil)
      (b_one (s_ret (dv 2)))))⟩
theorem ok_Track_known_place (T : Txt w.params K mg) : FnOk P w K mg base CX0 2 T.Track_known_place.f T.Track_known_place.fd ["self", "name"] (spF K 2 (F_Track_known_place T.C)) := okF T.Track_known_place.F scTrack_known_place rfl rfl (bd_Track_known_place T)
set_option maxHeartbeats 2000000 in
theorem bd_Track_without (T : Txt w.params K mg) : BodyD P w K mg base "Track.without" sTrack_without T.Track_without.f ["self", "name"] 8 (B_Track_without T.C) := by
  intro cdv A outer s H E hr
  have hu := hu100 hr
  have hu64 := hu64_of hr
  have hu1 := hu1_of hr
  unfold B_Track_without
  exact ⟨_, fun M0 P0 H0 => (b_one (s_ret (DN.e (d_make ⟨T.makes, T.Track_init.m.at_, T.Track_init.m.fn, T.kC⟩ (ok_Track_init T) takesO (hr.mono (by decide)) T.gC T.Track_init.b .nil (fun _ _ => .nil) (d_acons (d_fld (dv 0) T.cl T.n_length) (d_acons (d_call (ok_taken_out T) takesF (hr.mono (by decide)) T.taken_out.g T.taken_out.F.kp T.taken_out.b (d_acons (d_fld (dv 0) T.cl T.n_passes) (d_acons (d_meth (dv 0) T.cl T.Track_known_place.m (ok_Track_known_place T) takesF (hr.mono (by decide)) T.Track_known_place.b .nil (fun _ _ => .nil) (d_acons (dv 1) d_anil)) d_anil))) d_anil))))))⟩
theorem ok_Track_without (T : Txt w.params K mg) : FnOk P w K mg base CX0 9 T.Track_without.f T.Track_without.fd ["self", "name"] (spF K 2 (F_Track_without T.C)) := okF T.Track_without.F scTrack_without rfl rfl (bd_Track_without T)
set_option maxHeartbeats 2000000 in
theorem bd_Track_moved (T : Txt w.params K mg) : BodyD P w K mg base "Track.moved" sTrack_moved T.Track_moved.f ["self", "name", "place", "at"] 8 (B_Track_moved T.C) := by
  intro cdv A outer s H E hr
  have hu := hu100 hr
  have hu64 := hu64_of hr
  have hu1 := hu1_of hr
  unfold B_Track_moved
  exact ⟨_, fun M0 P0 H0 => (b_cons (s_set (i := 3) scTrack_moved.nd rfl (Or.inl rfl) (d_meth (dv 0) T.cl T.Track_known_place.m (ok_Track_known_place T) takesF (hr.mono (by decide)) T.Track_known_place.b .nil (fun _ _ => .nil) (d_acons (dv 1) d_anil)))
      (b_cons (s_if (d_not (d_tval (d_call (ok_is_between T) takesF (hr.mono (by decide)) T.is_between.g T.is_between.F.kp T.is_between.b (d_acons (dv 2) (d_acons d_int (d_acons (d_op op_SUB (d_blt call_LEN T.z_len (by decide +kernel) (d_acons (d_fld (dv 0) T.cl T.n_passes) d_anil)) d_int) d_anil)))))) (b_one (s_never)) b_nil)
      (b_one (s_ret (DN.e (d_make ⟨T.makes, T.Track_init.m.at_, T.Track_init.m.fn, T.kC⟩ (ok_Track_init T) takesO (hr.mono (by decide)) T.gC T.Track_init.b .nil (fun _ _ => .nil) (d_acons (d_fld (dv 0) T.cl T.n_length) (d_acons (d_call (ok_put_in T) takesF (hr.mono (by decide)) T.put_in.g T.put_in.F.kp T.put_in.b (d_acons (d_call (ok_taken_out T) takesF (hr.mono (by decide)) T.taken_out.g T.taken_out.F.kp T.taken_out.b (d_acons (d_fld (dv 0) T.cl T.n_passes) (d_acons (dv 3) d_anil))) (d_acons (dv 2) (d_acons (d_ix (d_fld (dv 0) T.cl T.n_passes) (dv 3) (fun _ _ => rfl)) d_anil)))) d_anil))))))))⟩
theorem ok_Track_moved (T : Txt w.params K mg) : FnOk P w K mg base CX0 9 T.Track_moved.f T.Track_moved.fd ["self", "name", "place"] (spF K 3 (F_Track_moved T.C)) := okF T.Track_moved.F scTrack_moved rfl rfl (bd_Track_moved T)
set_option maxHeartbeats 2000000 in
theorem bd_number_in (T : Txt w.params K mg) : BodyD P w K mg base "number_in" snumber_in T.number_in.f ["word", "sign"] 0 (B_number_in T.C) := by
  intro cdv A outer s H E hr
  have hu := hu100 hr
  have hu64 := hu64_of hr
  have hu1 := hu1_of hr
  unfold B_number_in
  exact ⟨_, fun M0 P0 H0 => (b_cons (s_if (d_not (d_tchain op_LE op_LE d_int (d_blt call_LEN T.z_len (by decide +kernel) (d_acons (dv 0) d_anil)) (d_gi T.c_MOST_DIGITS))) (b_one (s_ret d_non)) b_nil)
      (b_cons (s_if (d_not (d_tval (d_blt (call_ALL rfl) T.z_all (by decide +kernel) (d_acons (DN.e (d_lc (own := [("sign", 1)]) rfl scnumber_in.nd (i_str (dv 0)) (blkOk_by (N := ["word", "sign"]) (sc := defScope snumber_in) (by decide +kernel)) (own_nam (by decide)).1 ⟨fun _ _ _ _ _ => (g_name (i := 1) scnumber_in.nd rfl (Or.inl rfl)), fun _ _ _ _ _ => t_nil, fun _ _ _ _ _ => (d_cmp (op_IN hu) (dv 1) (d_gs T.c_DIGITS) (by rfl))⟩)) d_anil)))) (b_one (s_ret d_non)) b_nil)
      (b_cons (s_if (DW.dt (d_and (d_tcmp (op_EQ hu64) (d_ix (dv 0) d_int (fun _ _ => rfl)) d_str (nomark _)) (d_and1 (d_tcmp (op_NE hu64) (dv 0) d_str (nomark _))))) (b_one (s_ret d_non)) b_nil)
      (b_one (s_ret (d_cty call_INT T.z_int (by decide +kernel) (d_acons (dv 0) d_anil)))))))⟩
theorem ok_number_in (T : Txt w.params K mg) : FnOk P w K mg base CX0 1 T.number_in.f T.number_in.fd ["word"] (spF K 1 (F_number_in T.C)) := okF T.number_in.F scnumber_in rfl rfl (bd_number_in T)
set_option maxHeartbeats 2000000 in
theorem bd_length_in_row (T : Txt w.params K mg) : BodyD P w K mg base "length_in_row" slength_in_row T.length_in_row.f ["row", "word", "rest", "length"] 3 (B_length_in_row T.C) := by
  intro cdv A outer s H E hr
  have hu := hu100 hr
  have hu64 := hu64_of hr
  have hu1 := hu1_of hr
  unfold B_length_in_row
  exact ⟨_, fun M0 P0 H0 => (b_cons (s_asg (DN.e (d_split (dv 0) d_str)) (g_star [1] 2 rfl (pgs_cons (pg_name (i := 1) sclength_in_row.nd rfl (Or.inl rfl)) (pgs_star (pg_name (i := 2) sclength_in_row.nd rfl (Or.inl rfl)) pgs_nil))))
      (b_cons (s_if (DW.dt (d_or (d_tcmp (op_NE hu64) (dv 1) d_str (nomark _)) (d_or1 (d_tcmp (op_NE hu64) (d_bltP 2 call_LEN T.z_len (by decide +kernel)) d_int (nomark _))))) (b_one (s_ret d_non)) b_nil)
      (b_cons (s_set (i := 3) sclength_in_row.nd rfl (Or.inl rfl) (d_call (ok_number_in T) takesF (hr.mono (by decide)) T.number_in.g T.number_in.F.kp T.number_in.b (d_acons (d_ixV 2 d_int (fun _ _ => rfl)) d_anil)))
      (b_one (s_ret (d_if (d_tval (d_call (ok_is_length T) takesF (hr.mono (by decide)) T.is_length.g T.is_length.F.kp T.is_length.b (d_acons (dv 3) d_anil))) (dv 3) d_non))))))⟩
theorem ok_length_in_row (T : Txt w.params K mg) : FnOk P w K mg base CX0 4 T.length_in_row.f T.length_in_row.fd ["row"] (spF K 1 (F_length_in_row T.C)) := okF T.length_in_row.F sclength_in_row rfl rfl (bd_length_in_row T)
set_option maxHeartbeats 2000000 in
theorem bd_stretch_in (T : Txt w.params K mg) : BodyD P w K mg base "stretch_in" sstretch_in T.stretch_in.f ["word", "numbers", "part"] 1 (B_stretch_in T.C) := by
  intro cdv A outer s H E hr
  have hu := hu100 hr
  have hu64 := hu64_of hr
  have hu1 := hu1_of hr
  unfold B_stretch_in
  exact ⟨_, fun M0 P0 H0 => (b_cons (s_setLcD (i := 1) (own := [("part", 2)]) rfl scstretch_in.nd rfl rfl (by rfl) (i_list (DN.e (d_split (dv 0) d_str))) (blkOk_by (N := ["word", "numbers", "part"]) (sc := defScope sstretch_in) (by decide +kernel)) (own_nam (by decide)).1 ⟨fun _ _ _ _ _ => (g_name (i := 2) scstretch_in.nd rfl (Or.inl rfl)), fun _ _ _ _ _ => t_nil, fun _ _ _ _ _ => (d_call (ok_number_in T) takesF (hr.mono (by decide)) T.number_in.g T.number_in.F.kp T.number_in.b (d_acons (dv 2) d_anil))⟩)
      (b_cons (s_if (DW.dt (d_or (d_tcmp (op_NE hu64) (d_blt call_LEN T.z_len (by decide +kernel) (d_acons (dv 1) d_anil)) d_int (nomark _)) (d_or1 (d_tcmp (op_IN hu) d_non (dv 1) (by rfl))))) (b_one (s_ret d_non)) b_nil)
      (b_one (s_ret (d_tup (d_acons (d_ix (dv 1) d_int (fun _ _ => rfl)) (d_acons (d_ix (dv 1) d_int (fun _ _ => rfl)) d_anil)))))))⟩
theorem ok_stretch_in (T : Txt w.params K mg) : FnOk P w K mg base CX0 2 T.stretch_in.f T.stretch_in.fd ["word"] (spF K 1 (F_stretch_in T.C)) := okF T.stretch_in.F scstretch_in rfl rfl (bd_stretch_in T)
set_option maxHeartbeats 2000000 in
theorem bd_pass_in (T : Txt w.params K mg) : BodyD P w K mg base "pass_in" spass_in T.pass_in.f ["words", "name", "mode", "first", "last", "glide", "tail", "rest", "numbers", "word", "touches"] 2 (B_pass_in T.C) := by
  intro cdv A outer s H E hr
  have hu := hu100 hr
  have hu64 := hu64_of hr
  have hu1 := hu1_of hr
  unfold B_pass_in
  exact ⟨_, fun M0 P0 H0 => (b_cons (s_if (d_tcmp op_LT (d_blt call_LEN T.z_len (by decide +kernel) (d_acons (dv 0) d_anil)) (d_gi T.c_FEWEST_WORDS) (nomark _)) (b_one (s_ret d_non)) b_nil)
      (b_cons (s_asg (dv 0) (g_star [1, 2, 3, 4, 5, 6] 7 rfl (pgs_cons (pg_name (i := 1) scpass_in.nd rfl (Or.inl rfl)) (pgs_cons (pg_name (i := 2) scpass_in.nd rfl (Or.inl rfl)) (pgs_cons (pg_name (i := 3) scpass_in.nd rfl (Or.inl rfl)) (pgs_cons (pg_name (i := 4) scpass_in.nd rfl (Or.inl rfl)) (pgs_cons (pg_name (i := 5) scpass_in.nd rfl (Or.inl rfl)) (pgs_cons (pg_name (i := 6) scpass_in.nd rfl (Or.inl rfl)) (pgs_star (pg_name (i := 7) scpass_in.nd rfl (Or.inl rfl)) pgs_nil)))))))))
      (b_cons (s_setLcD (i := 8) (own := [("word", 9)]) rfl scpass_in.nd rfl rfl (by rfl) (i_tup (d_tup (d_acons (dv 3) (d_acons (dv 4) (d_acons (dv 5) d_anil))))) (blkOk_by (N := ["words", "name", "mode", "first", "last", "glide", "tail", "rest", "numbers", "word", "touches"]) (sc := defScope spass_in) (by decide +kernel)) (own_nam (by decide)).1 ⟨fun _ _ _ _ _ => (g_name (i := 9) scpass_in.nd rfl (Or.inl rfl)), fun _ _ _ _ _ => t_nil, fun _ _ _ _ _ => (d_call (ok_number_in T) takesF (hr.mono (by decide)) T.number_in.g T.number_in.F.kp T.number_in.b (d_acons (dv 9) d_anil))⟩)
      (b_cons (s_setLcD (i := 10) (own := [("word", 9)]) rfl scpass_in.nd rfl rfl (by rfl) (i_list (dv 7)) (blkOk_by (N := ["words", "name", "mode", "first", "last", "glide", "tail", "rest", "numbers", "word", "touches"]) (sc := defScope spass_in) (by decide +kernel)) (own_nam (by decide)).1 ⟨fun _ _ _ _ _ => (g_name (i := 9) scpass_in.nd rfl (Or.inl rfl)), fun _ _ _ _ _ => t_nil, fun _ _ _ _ _ => (d_call (ok_stretch_in T) takesF (hr.mono (by decide)) T.stretch_in.g T.stretch_in.F.kp T.stretch_in.b (d_acons (dv 9) d_anil))⟩)
      (b_cons (s_if (DW.dt (d_or (d_tcmp (op_IN hu) d_non (dv 8) (by rfl)) (d_or1 (d_tcmp (op_IN hu) d_non (dv 10) (by rfl))))) (b_one (s_ret d_non)) b_nil)
      (b_one (s_ret (d_tup (d_acons (dv 1) (d_acons (dv 2) (d_acons (d_ix (dv 8) d_int (fun _ _ => rfl)) (d_acons (d_ix (dv 8) d_int (fun _ _ => rfl)) (d_acons (d_cty call_TUPLE T.z_tuple (by decide +kernel) (d_acons (dv 10) d_anil)) (d_acons (d_ix (dv 8) d_int (fun _ _ => rfl)) (d_acons (dv 6) d_anil)))))))))))))))⟩
theorem ok_pass_in (T : Txt w.params K mg) : FnOk P w K mg base CX0 3 T.pass_in.f T.pass_in.fd ["words"] (spF K 1 (F_pass_in T.C)) := okF T.pass_in.F scpass_in rfl rfl (bd_pass_in T)
set_option maxHeartbeats 2000000 in
theorem bd_pass_in_row (T : Txt w.params K mg) : BodyD P w K mg base "pass_in_row" spass_in_row T.pass_in_row.f ["row", "word", "rest"] 3 (B_pass_in_row T.C) := by
  intro cdv A outer s H E hr
  have hu := hu100 hr
  have hu64 := hu64_of hr
  have hu1 := hu1_of hr
  unfold B_pass_in_row
  exact ⟨_, fun M0 P0 H0 => (b_cons (s_asg (DN.e (d_split (dv 0) d_str)) (g_star [1] 2 rfl (pgs_cons (pg_name (i := 1) scpass_in_row.nd rfl (Or.inl rfl)) (pgs_star (pg_name (i := 2) scpass_in_row.nd rfl (Or.inl rfl)) pgs_nil))))
      (b_one (s_ret (d_if (d_tcmp (op_EQ hu64) (dv 1) d_str (nomark _)) (d_call (ok_pass_in T) takesF (hr.mono (by decide)) T.pass_in.g T.pass_in.F.kp T.pass_in.b (d_acons (dv 2) d_anil)) d_non))))⟩
theorem ok_pass_in_row (T : Txt w.params K mg) : FnOk P w K mg base CX0 4 T.pass_in_row.f T.pass_in_row.fd ["row"] (spF K 1 (F_pass_in_row T.C)) := okF T.pass_in_row.F scpass_in_row rfl rfl (bd_pass_in_row T)
set_option maxHeartbeats 2000000 in
theorem bd_track_in (T : Txt w.params K mg) : BodyD P w K mg base "track_in" strack_in T.track_in.f ["text", "first", "rest", "length", "passes", "row"] 6 (B_track_in T.C) := by
  intro cdv A outer s H E hr
  have hu := hu100 hr
  have hu64 := hu64_of hr
  have hu1 := hu1_of hr
  unfold B_track_in
  exact ⟨_, fun M0 P0 H0 => (b_cons (s_if (d_not (d_tval (d_blt call_ISIT T.z_isinstance (by decide +kernel) (d_acons (dv 0) (d_acons (d_ty T.z_str (by decide +kernel)) d_anil))))) (b_one (s_ret d_non)) b_nil)
      (b_cons (s_asg (DN.e (d_split (dv 0) d_str)) (g_star [1] 2 rfl (pgs_cons (pg_name (i := 1) sctrack_in.nd rfl (Or.inl rfl)) (pgs_star (pg_name (i := 2) sctrack_in.nd rfl (Or.inl rfl)) pgs_nil))))
      (b_cons (s_set (i := 3) sctrack_in.nd rfl (Or.inl rfl) (d_call (ok_length_in_row T) takesF (hr.mono (by decide)) T.length_in_row.g T.length_in_row.F.kp T.length_in_row.b (d_acons (dv 1) d_anil)))
      (b_cons (s_if (d_tcmp op_IS (dv 3) d_non (nomark _)) (b_one (s_ret d_non)) b_nil)
      (b_cons (s_set (i := 4) sctrack_in.nd rfl (Or.inl rfl) (d_cty call_TUPLE T.z_tuple (by decide +kernel) (d_acons (DN.e (d_lc (own := [("row", 5)]) rfl sctrack_in.nd (i_list (dv 2)) (blkOk_by (N := ["text", "first", "rest", "length", "passes", "row"]) (sc := defScope strack_in) (by decide +kernel)) (own_nam (by decide)).1 ⟨fun _ _ _ _ _ => (g_name (i := 5) sctrack_in.nd rfl (Or.inl rfl)), fun _ _ _ _ _ => t_nil, fun _ _ _ _ _ => (d_call (ok_pass_in_row T) takesF (hr.mono (by decide)) T.pass_in_row.g T.pass_in_row.F.kp T.pass_in_row.b (d_acons (dv 5) d_anil))⟩)) d_anil)))
      (b_one (s_ret (d_if (d_tcmp op_IS (d_call (ok_first_wrong T) takesF (hr.mono (by decide)) T.first_wrong.g T.first_wrong.F.kp T.first_wrong.b (d_acons (dv 4) (d_acons (dv 3) d_anil))) d_non (nomark _)) (d_tup (d_acons (dv 3) (d_acons (dv 4) d_anil))) d_non))))))))⟩
theorem ok_track_in (T : Txt w.params K mg) : FnOk P w K mg base CX0 7 T.track_in.f T.track_in.fd ["text"] (spF K 1 (F_track_in T.C)) := okF T.track_in.F sctrack_in rfl rfl (bd_track_in T)
set_option maxHeartbeats 2000000 in
theorem bd_Track_read (T : Txt w.params K mg) : BodyD P w K mg base "Track.read" sTrack_read T.Track_read.f ["cls", "text", "told", "length", "passes"] 8 (B_Track_read T.C) := by
  intro cdv A outer s H E hr
  have hu := hu100 hr
  have hu64 := hu64_of hr
  have hu1 := hu1_of hr
  unfold B_Track_read
  exact ⟨_, fun M0 P0 H0 => (b_cons (s_set (i := 2) scTrack_read.nd rfl (Or.inl rfl) (d_call (ok_track_in T) takesF (hr.mono (by decide)) T.track_in.g T.track_in.F.kp T.track_in.b (d_acons (dv 1) d_anil)))
      (b_cons (s_if (d_tcmp op_IS (dv 2) d_non (nomark _)) (b_one (s_never)) b_nil)
      (b_cons (s_asg (dv 2) (g_tup rfl (gs_cons (g_name (i := 3) scTrack_read.nd rfl (Or.inl rfl)) (gs_cons (g_name (i := 4) scTrack_read.nd rfl (Or.inl rfl)) gs_nil))))
      (b_one (s_ret (DN.e (d_makeL 0 ⟨T.makes, T.Track_init.m.at_, T.Track_init.m.fn, T.kC⟩ (ok_Track_init T) takesO (hr.mono (by decide)) T.Track_init.b .nil (fun _ _ => .nil) (d_acons (dv 3) (d_acons (dv 4) d_anil)))))))))⟩
theorem ok_Track_read (T : Txt w.params K mg) : FnOk P w K mg base CX0 9 T.Track_read.f T.Track_read.fd ["cls", "text"] (spF K 2 (F_Track_read T.C)) := okF T.Track_read.F scTrack_read rfl rfl (bd_Track_read T)
set_option maxHeartbeats 2000000 in
theorem bd_row_of (T : Txt w.params K mg) : BodyD P w K mg base "row_of" srow_of T.row_of.f ["one_pass", "name", "mode", "first", "last", "touches", "glide", "tail", "words", "a", "b"] 0 (B_row_of T.C) := by
  intro cdv A outer s H E hr
  have hu := hu100 hr
  have hu64 := hu64_of hr
  have hu1 := hu1_of hr
  unfold B_row_of
  exact ⟨_, fun M0 P0 H0 => (b_cons (s_asg (dv 0) (g_tup rfl (gs_cons (g_name (i := 1) scrow_of.nd rfl (Or.inl rfl)) (gs_cons (g_name (i := 2) scrow_of.nd rfl (Or.inl rfl)) (gs_cons (g_name (i := 3) scrow_of.nd rfl (Or.inl rfl)) (gs_cons (g_name (i := 4) scrow_of.nd rfl (Or.inl rfl)) (gs_cons (g_name (i := 5) scrow_of.nd rfl (Or.inl rfl)) (gs_cons (g_name (i := 6) scrow_of.nd rfl (Or.inl rfl)) (gs_cons (g_name (i := 7) scrow_of.nd rfl (Or.inl rfl)) gs_nil)))))))))
      (b_cons (s_set (i := 8) scrow_of.nd rfl (Or.inl rfl) (DN.e (d_lst (d_acons d_str (d_acons (dv 1) (d_acons (dv 2) (d_acons (d_cty call_STR T.z_str (by decide +kernel) (d_acons (dv 3) d_anil)) (d_acons (d_cty call_STR T.z_str (by decide +kernel) (d_acons (dv 4) d_anil)) (d_acons (d_cty call_STR T.z_str (by decide +kernel) (d_acons (dv 6) d_anil)) (d_acons (dv 7) d_anil))))))))))
      (b_one (s_ret (d_join d_str (d_op op_ADD (dv 8) (DN.e (d_lc (own := [("a", 9), ("b", 10)]) rfl scrow_of.nd (i_tup (dv 5)) (blkOk_by (N := ["one_pass", "name", "mode", "first", "last", "touches", "glide", "tail", "words", "a", "b"]) (sc := defScope srow_of) (by decide +kernel)) (own_tu (own_con (own_nam (by decide)) (own_con (own_nam (by decide)) own_ni))).1 ⟨fun _ _ _ _ _ => (g_tup rfl (gs_cons (g_name (i := 9) scrow_of.nd rfl (Or.inl rfl)) (gs_cons (g_name (i := 10) scrow_of.nd rfl (Or.inl rfl)) gs_nil))), fun _ _ _ _ _ => t_nil, fun _ _ _ _ _ => (d_fs (DJ.cons (d_fmt (dv 9)) (DJ.cons d_str (DJ.cons (d_fmt (dv 10)) DJ.nil))))⟩))))))))⟩
theorem ok_row_of (T : Txt w.params K mg) : FnOk P w K mg base CX0 1 T.row_of.f T.row_of.fd ["one_pass"] (spF K 1 (F_row_of T.C)) := okF T.row_of.F scrow_of rfl rfl (bd_row_of T)
set_option maxHeartbeats 2000000 in
theorem bd_rows_of (T : Txt w.params K mg) : BodyD P w K mg base "rows_of" srows_of T.rows_of.f ["length", "passes", "one"] 1 (B_rows_of T.C) := by
  intro cdv A outer s H E hr
  have hu := hu100 hr
  have hu64 := hu64_of hr
  have hu1 := hu1_of hr
  unfold B_rows_of
  exact ⟨_, fun M0 P0 H0 => (b_one (s_ret (d_op op_ADD (DN.e (d_lst (d_acons (d_fs (DJ.cons d_str (DJ.cons (d_fmt (dv 0)) DJ.nil))) d_anil))) (DN.e (d_lc (own := [("one", 2)]) rfl scrows_of.nd (i_tup (dv 1)) (blkOk_by (N := ["length", "passes", "one"]) (sc := defScope srows_of) (by decide +kernel)) (own_nam (by decide)).1 ⟨fun _ _ _ _ _ => (g_name (i := 2) scrows_of.nd rfl (Or.inl rfl)), fun _ _ _ _ _ => t_nil, fun _ _ _ _ _ => (d_call (ok_row_of T) takesF (hr.mono (by decide)) T.row_of.g T.row_of.F.kp T.row_of.b (d_acons (dv 2) d_anil))⟩)))))⟩
theorem ok_rows_of (T : Txt w.params K mg) : FnOk P w K mg base CX0 2 T.rows_of.f T.rows_of.fd ["length", "passes"] (spF K 2 (F_rows_of T.C)) := okF T.rows_of.F scrows_of rfl rfl (bd_rows_of T)
set_option maxHeartbeats 2000000 in
theorem bd_Track_str (T : Txt w.params K mg) : BodyD P w K mg base "Track.__str__" sTrack_str T.Track_str.f ["self"] 2 (B_Track_str T.C) := by
  intro cdv A outer s H E hr
  have hu := hu100 hr
  have hu64 := hu64_of hr
  have hu1 := hu1_of hr
  unfold B_Track_str
  exact ⟨_, fun M0 P0 H0 => (b_one (s_ret (d_join d_str (d_call (ok_rows_of T) takesF (hr.mono (by decide)) T.rows_of.g T.rows_of.F.kp T.rows_of.b (d_acons (d_fld (dv 0) T.cl T.n_length) (d_acons (d_fld (dv 0) T.cl T.n_passes) d_anil))))))⟩
theorem ok_Track_str (T : Txt w.params K mg) : FnOk P w K mg base CX0 3 T.Track_str.f T.Track_str.fd ["self"] (spF K 1 (F_Track_str T.C)) := okF T.Track_str.F scTrack_str rfl rfl (bd_Track_str T)
set_option maxHeartbeats 2000000 in
theorem bd_law_deed (T : Txt w.params K mg) : BodyD P w K mg base "_law_deed" slaw_deed T.law_deed.f ["purse", "mine", "some", "way", "fader", "at", "each", "k", "word", "rest", "bent", "turned"] 9 (B_law_deed T.C) := by
  intro cdv A outer s H E hr
  have hu := hu100 hr
  have hu64 := hu64_of hr
  have hu1 := hu1_of hr
  obtain ⟨ds_Track_init, hv_Track_init, hb_Track_init⟩ := T.Track_init.b1
  unfold B_law_deed
  exact ⟨_, fun M0 P0 H0 => (b_cons (s_par (i := 3) (j := 4) rfl sclaw_deed.nd rfl rfl (by decide) rfl rfl (f_dat (d_callO 0 (ok_law_draw T) takesO (hr.mono (by decide)) T.law_draw.g T.law_draw.F.kp T.law_draw.b (d_acons d_int d_anil)) (f_dat (d_callO 0 (ok_law_fader T) takesO (hr.mono (by decide)) T.law_fader.g T.law_fader.F.kp T.law_fader.b (d_acons (d_callO 0 (ok_law_pick T) takesO (hr.mono (by decide)) T.law_pick.g T.law_pick.F.kp T.law_pick.b (d_acons (DN.e (d_lst (d_acons d_str (d_acons d_str (d_acons d_str d_anil))))) d_anil)) (d_acons (d_prop (dv 1) T.cl T.Track_length.P (ok_Track_length T) takesF (hr.mono (by decide)) T.Track_length.b) d_anil))) f_nil)) (by rfl))
      (b_cons (s_set (i := 5) sclaw_deed.nd rfl (Or.inl rfl) (d_callO 0 (ok_law_draw T) takesO (hr.mono (by decide)) T.law_draw.g T.law_draw.F.kp T.law_draw.b (d_acons (d_op op_ADD (d_blt call_LEN T.z_len (by decide +kernel) (d_acons (dv 2) d_anil)) d_int) d_anil)))
      (b_cons (s_if (DW.dt (d_or (d_tcmp (op_EQ hu64) (dv 3) d_int (nomark _)) (d_or1 (d_tcmp (op_EQ hu64) (dv 2) (d_tup d_anil) (nomark _))))) (b_cons (s_if (DW.dt (d_or (d_tcmp (op_EQ hu64) (d_blt call_LEN T.z_len (by decide +kernel) (d_acons (dv 2) d_anil)) d_int (nomark _)) (d_or1 (d_tcmp (op_IN hu) (d_ix (dv 4) d_int (fun _ _ => rfl)) (DN.e (d_lc (own := [("each", 6)]) rfl sclaw_deed.nd (i_tup (dv 2)) (blkOk_by (N := ["purse", "mine", "some", "way", "fader", "at", "each", "k", "word", "rest", "bent", "turned"]) (sc := defScope slaw_deed) (by decide +kernel)) (own_nam (by decide)).1 ⟨fun _ _ _ _ _ => (g_name (i := 6) sclaw_deed.nd rfl (Or.inl rfl)), fun _ _ _ _ _ => t_nil, fun _ _ _ _ _ => (d_ix (dv 6) d_int (fun _ _ => rfl))⟩)) (by rfl))))) (b_one (s_ret (d_tup (d_acons (d_cmeth (d_cls T.gC) T.Track_read.R T.Track_read.M (ok_Track_read T) takesF (hr.mono (by decide)) T.Track_read.b (d_acons (d_cty (call_STRI (ok_Track_str T) takesF (hr.mono (by decide)) T.Track_str.m.at_ T.Track_str.m.fn T.Track_str.b) T.z_str (by decide +kernel) (d_acons (dv 1) d_anil)) d_anil)) (d_acons (dv 2) d_anil))))) b_nil)
      (b_one (s_ret (d_tup (d_acons (d_meth (dv 1) T.cl T.Track_put.m (ok_Track_put T) takesF (hr.mono (by decide)) T.Track_put.b .nil (fun _ _ => .nil) (d_acons (dv 4) (d_acons (dv 5) d_anil))) (d_acons (d_op op_ADD (d_op op_ADD (d_sl (dv 2) d_no (d_part (dv 5))) (d_tup (d_acons (dv 4) d_anil))) (d_sl (dv 2) (d_part (dv 5)) d_no)) d_anil)))))) b_nil)
      (b_cons (s_set (i := 7) sclaw_deed.nd rfl (Or.inl rfl) (d_callO 0 (ok_law_draw T) takesO (hr.mono (by decide)) T.law_draw.g T.law_draw.F.kp T.law_draw.b (d_acons (d_blt call_LEN T.z_len (by decide +kernel) (d_acons (dv 2) d_anil)) d_anil)))
      (b_cons (s_par3 (i := 8) (j := 9) (l := 5) rfl sclaw_deed.nd rfl rfl rfl (by decide) (by decide) (by decide) rfl rfl rfl (f_dat (d_ix (d_ix (dv 2) (dv 7) (fun _ _ => rfl)) d_int (fun _ _ => rfl)) (f_dat (d_op op_ADD (d_sl (dv 2) d_no (d_part (dv 7))) (d_sl (dv 2) (d_part (d_op op_ADD (dv 7) d_int)) d_no)) (f_dat (d_blt (call_MIN rfl) T.z_min (by decide +kernel) (d_acons (dv 5) (d_acons (d_op op_SUB (d_blt call_LEN T.z_len (by decide +kernel) (d_acons (dv 2) d_anil)) d_int) d_anil))) f_nil))) (by rfl))
      (b_cons (s_if (d_tcmp (op_EQ hu64) (dv 3) d_int (nomark _)) (b_one (s_ret (d_tup (d_acons (d_meth (dv 1) T.cl T.Track_without.m (ok_Track_without T) takesF (hr.mono (by decide)) T.Track_without.b .nil (fun _ _ => .nil) (d_acons (dv 8) d_anil)) (d_acons (dv 9) d_anil))))) b_nil)
      (b_cons (s_if (d_tcmp (op_EQ hu64) (dv 3) d_int (nomark _)) (b_one (s_ret (d_tup (d_acons (d_meth (dv 1) T.cl T.Track_moved.m (ok_Track_moved T) takesF (hr.mono (by decide)) T.Track_moved.b .nil (fun _ _ => .nil) (d_acons (dv 8) (d_acons (dv 5) d_anil))) (d_acons (d_op op_ADD (d_op op_ADD (d_sl (dv 9) d_no (d_part (dv 5))) (d_tup (d_acons (d_ix (dv 2) (dv 7) (fun _ _ => rfl)) d_anil))) (d_sl (dv 9) (d_part (dv 5)) d_no)) d_anil))))) b_nil)
      (b_cons (s_set (i := 10) sclaw_deed.nd rfl (Or.inl rfl) (d_op op_ADD (d_sl (d_ix (dv 2) (dv 7) (fun _ _ => rfl)) d_no (d_part d_int)) (d_tup (d_acons (d_ix (dv 4) d_int (fun _ _ => rfl)) (d_acons (d_ix (dv 4) d_int (fun _ _ => rfl)) d_anil)))))
      (b_cons (s_set (i := 11) sclaw_deed.nd rfl (Or.inl rfl) (d_meth (d_meth (dv 1) T.cl T.Track_changed.m (ok_Track_changed T) takesF (hr.mono (by decide)) T.Track_changed.b .nil (fun _ _ => .nil) (d_acons (d_tup (d_acons (dv 8) (d_acons d_str (d_acons (d_ix (dv 4) d_int (fun _ _ => rfl)) d_anil)))) d_anil)) T.cl T.Track_changed.m (ok_Track_changed T) takesF (hr.mono (by decide)) T.Track_changed.b .nil (fun _ _ => .nil) (d_acons (d_tup (d_acons (dv 8) (d_acons d_str (d_acons (d_ix (dv 4) d_int (fun _ _ => rfl)) d_anil)))) d_anil)))
      (b_cons (s_if (d_tcmp (op_NEI (ok_Track_eq T) takesF (hr.mono (by decide)) T.hne T.hob T.Track_eq.m.at_ T.Track_eq.m.fn T.Track_eq.b) (dv 11) (d_meth (d_meth (dv 1) T.cl T.Track_changed.m (ok_Track_changed T) takesF (hr.mono (by decide)) T.Track_changed.b .nil (fun _ _ => .nil) (d_acons (d_tup (d_acons (dv 8) (d_acons d_str (d_acons (d_ix (dv 4) d_int (fun _ _ => rfl)) d_anil)))) d_anil)) T.cl T.Track_changed.m (ok_Track_changed T) takesF (hr.mono (by decide)) T.Track_changed.b .nil (fun _ _ => .nil) (d_acons (d_tup (d_acons (dv 8) (d_acons d_str (d_acons (d_ix (dv 4) d_int (fun _ _ => rfl)) d_anil)))) d_anil)) (nomark _)) (b_one (s_ret (d_tup (d_acons (DN.e (d_make ⟨T.makes, T.Track_init.m.at_, T.Track_init.m.fn, T.kC⟩ (ok_Track_init T) takesO (hr.mono (by decide)) T.gC hb_Track_init hv_Track_init (fun _ H => .cons (.tup (T.et_Track_init H) .nil) .nil) (d_acons d_int d_anil))) (d_acons (dv 2) d_anil))))) b_nil)
      (b_one (s_ret (d_tup (d_acons (dv 11) (d_acons (d_op op_ADD (d_op op_ADD (d_sl (dv 2) d_no (d_part (dv 7))) (d_tup (d_acons (dv 10) d_anil))) (d_sl (dv 2) (d_part (d_op op_ADD (dv 7) d_int)) d_no)) d_anil)))))))))))))))⟩
theorem ok_law_deed (T : Txt w.params K mg) : FnOk P w K mg base CX0 10 T.law_deed.f T.law_deed.fd ["purse", "mine", "some"] (spO K 3 (F_law_deed T.C)) := okO T.law_deed.F sclaw_deed rfl rfl (bd_law_deed T)
set_option maxHeartbeats 2000000 in
theorem bd_law_back (T : Txt w.params K mg) : BodyD P w K mg base "_law_back" slaw_back T.law_back.f ["purse", "mine", "some", "k", "word", "at"] 9 (B_law_back T.C) := by
  intro cdv A outer s H E hr
  have hu := hu100 hr
  have hu64 := hu64_of hr
  have hu1 := hu1_of hr
  unfold B_law_back
  exact ⟨_, fun M0 P0 H0 => (b_cons (s_for PassesOwn.never rfl (i_rng1 T.z_range (d_acons (d_blt call_LEN T.z_len (by decide +kernel) (d_acons (dv 2) d_anil)) d_anil)) (g_name (i := 3) sclaw_back.nd rfl (Or.inl rfl)) (b_cons (s_par (i := 4) (j := 5) rfl sclaw_back.nd rfl rfl (by decide) rfl rfl (f_dat (d_ix (d_ix (dv 2) (dv 3) (fun _ _ => rfl)) d_int (fun _ _ => rfl)) (f_dat (d_callO 0 (ok_law_draw T) takesO (hr.mono (by decide)) T.law_draw.g T.law_draw.F.kp T.law_draw.b (d_acons (d_blt call_LEN T.z_len (by decide +kernel) (d_acons (dv 2) d_anil)) d_anil)) f_nil)) (by rfl))
      (b_cons (s_if (DW.dt (d_or (d_tcmp (op_NEI (ok_Track_eq T) takesF (hr.mono (by decide)) T.hne T.hob T.Track_eq.m.at_ T.Track_eq.m.fn T.Track_eq.b) (d_meth (d_meth (dv 1) T.cl T.Track_without.m (ok_Track_without T) takesF (hr.mono (by decide)) T.Track_without.b .nil (fun _ _ => .nil) (d_acons (dv 4) d_anil)) T.cl T.Track_put.m (ok_Track_put T) takesF (hr.mono (by decide)) T.Track_put.b .nil (fun _ _ => .nil) (d_acons (d_ix (dv 2) (dv 3) (fun _ _ => rfl)) (d_acons (dv 3) d_anil))) (dv 1) (nomark _)) (d_or1 (d_tcmp (op_NEI (ok_Track_eq T) takesF (hr.mono (by decide)) T.hne T.hob T.Track_eq.m.at_ T.Track_eq.m.fn T.Track_eq.b) (d_meth (d_meth (dv 1) T.cl T.Track_moved.m (ok_Track_moved T) takesF (hr.mono (by decide)) T.Track_moved.b .nil (fun _ _ => .nil) (d_acons (dv 4) (d_acons (dv 5) d_anil))) T.cl T.Track_moved.m (ok_Track_moved T) takesF (hr.mono (by decide)) T.Track_moved.b .nil (fun _ _ => .nil) (d_acons (dv 4) (d_acons (dv 3) d_anil))) (dv 1) (nomark _))))) (b_one (s_ret d_bl)) b_nil)
      (b_cons (s_if (d_tcmp (op_NEI (ok_Track_eq T) takesF (hr.mono (by decide)) T.hne T.hob T.Track_eq.m.at_ T.Track_eq.m.fn T.Track_eq.b) (d_meth (d_meth (dv 1) T.cl T.Track_changed.m (ok_Track_changed T) takesF (hr.mono (by decide)) T.Track_changed.b .nil (fun _ _ => .nil) (d_acons (d_tup (d_acons (dv 4) (d_acons d_str (d_acons (d_op op_SUB d_int (d_ix (d_ix (dv 2) (dv 3) (fun _ _ => rfl)) d_int (fun _ _ => rfl))) d_anil)))) d_anil)) T.cl T.Track_changed.m (ok_Track_changed T) takesF (hr.mono (by decide)) T.Track_changed.b .nil (fun _ _ => .nil) (d_acons (d_tup (d_acons (dv 4) (d_acons d_str (d_acons (d_ix (d_ix (dv 2) (dv 3) (fun _ _ => rfl)) d_int (fun _ _ => rfl)) d_anil)))) d_anil)) (dv 1) (nomark _)) (b_one (s_ret d_bl)) b_nil)
      (b_one (s_if (DW.dt (d_or (d_tcmp (op_NEI (ok_Track_eq T) takesF (hr.mono (by decide)) T.hne T.hob T.Track_eq.m.at_ T.Track_eq.m.fn T.Track_eq.b) (d_meth (dv 1) T.cl T.Track_moved.m (ok_Track_moved T) takesF (hr.mono (by decide)) T.Track_moved.b .nil (fun _ _ => .nil) (d_acons (dv 4) (d_acons (dv 3) d_anil))) (dv 1) (nomark _)) (d_or1 (d_tcmp (op_NEI (ok_Track_eq T) takesF (hr.mono (by decide)) T.hne T.hob T.Track_eq.m.at_ T.Track_eq.m.fn T.Track_eq.b) (d_meth (dv 1) T.cl T.Track_changed.m (ok_Track_changed T) takesF (hr.mono (by decide)) T.Track_changed.b .nil (fun _ _ => .nil) (d_acons (d_tup (d_acons (dv 4) (d_acons d_str (d_acons (d_ix (d_ix (dv 2) (dv 3) (fun _ _ => rfl)) d_int (fun _ _ => rfl)) d_anil)))) d_anil)) (dv 1) (nomark _))))) (b_one (s_ret d_bl)) b_nil))))))
      (b_one (s_ret d_bl)))⟩
theorem ok_law_back (T : Txt w.params K mg) : FnOk P w K mg base CX0 10 T.law_back.f T.law_back.fd ["purse", "mine", "some"] (spO K 3 (F_law_back T.C)) := okO T.law_back.F sclaw_back rfl rfl (bd_law_back T)
set_option maxHeartbeats 2000000 in
theorem bd_Track_passes (T : Txt w.params K mg) : BodyD P w K mg base "Track.passes" sTrack_passes T.Track_passes.f ["self"] 0 (B_Track_passes T.C) := by
  intro cdv A outer s H E hr
  have hu := hu100 hr
  have hu64 := hu64_of hr
  have hu1 := hu1_of hr
  unfold B_Track_passes
  exact ⟨_, fun M0 P0 H0 => (b_one (s_ret (d_fld (dv 0) T.cl T.n_passes)))⟩
theorem ok_Track_passes (T : Txt w.params K mg) : FnOk P w K mg base CX0 1 T.Track_passes.f T.Track_passes.fd ["self"] (spF K 1 (F_Track_passes T.C)) := okF T.Track_passes.F scTrack_passes rfl rfl (bd_Track_passes T)
set_option maxHeartbeats 2000000 in
theorem bd_Track_names (T : Txt w.params K mg) : BodyD P w K mg base "Track.names" sTrack_names T.Track_names.f ["self", "one"] 0 (B_Track_names T.C) := by
  intro cdv A outer s H E hr
  have hu := hu100 hr
  have hu64 := hu64_of hr
  have hu1 := hu1_of hr
  unfold B_Track_names
  exact ⟨_, fun M0 P0 H0 => (b_one (s_ret (d_cty call_TUPLE T.z_tuple (by decide +kernel) (d_acons (DN.e (d_lc (own := [("one", 1)]) rfl scTrack_names.nd (i_tup (d_fld (dv 0) T.cl T.n_passes)) (blkOk_by (N := ["self", "one"]) (sc := defScope sTrack_names) (by decide +kernel)) (own_nam (by decide)).1 ⟨fun _ _ _ _ _ => (g_name (i := 1) scTrack_names.nd rfl (Or.inl rfl)), fun _ _ _ _ _ => t_nil, fun _ _ _ _ _ => (d_ix (dv 1) d_int (fun _ _ => rfl))⟩)) d_anil))))⟩
theorem ok_Track_names (T : Txt w.params K mg) : FnOk P w K mg base CX0 1 T.Track_names.f T.Track_names.fd ["self"] (spF K 1 (F_Track_names T.C)) := okF T.Track_names.F scTrack_names rfl rfl (bd_Track_names T)
set_option maxHeartbeats 2000000 in
theorem bd_law_right (T : Txt w.params K mg) : BodyG P w K mg base "_law_right" slaw_right T.law_right.f ["purse", "long", "some", "mine", "turn", "each"] 10 (B_law_right T.C) := by
  intro cdv A outer s H E hg hr
  have hu := hu100 hr
  have hu64 := hu64_of hr
  have hu1 := hu1_of hr
  unfold B_law_right
  exact ⟨_, fun M0 P0 H0 => (b_cons (s_set (i := 1) sclaw_right.nd rfl (Or.inl rfl) (d_callO 0 (ok_law_long T) takesO (hr.mono (by decide)) T.law_long.g T.law_long.F.kp T.law_long.b d_anil))
      (b_cons (s_set (i := 2) sclaw_right.nd rfl (Or.inl rfl) (d_callO 0 (ok_law_faders T) takesO (hr.mono (by decide)) T.law_faders.g T.law_faders.F.kp T.law_faders.b (d_acons (dv 1) (d_acons d_int d_anil))))
      (b_cons (s_set (i := 3) sclaw_right.nd rfl (Or.inl rfl) (DN.e (d_make ⟨T.makes, T.Track_init.m.at_, T.Track_init.m.fn, T.kC⟩ (ok_Track_init T) takesO (hr.mono (by decide)) T.gC T.Track_init.b .nil (fun _ _ => .nil) (d_acons (dv 1) (d_acons (dv 2) d_anil)))))
      (b_cons (s_for PassesOwn.never rfl (i_rng1 T.z_range (d_acons d_int d_anil)) (g_name (i := 4) sclaw_right.nd rfl (Or.inl rfl)) (b_cons (s_asg (d_callO 0 (ok_law_deed T) takesO (hr.mono (by decide)) T.law_deed.g T.law_deed.F.kp T.law_deed.b (d_acons (dv 3) (d_acons (dv 2) d_anil))) (g_tup rfl (gs_cons (g_name (i := 3) sclaw_right.nd rfl (Or.inl rfl)) (gs_cons (g_name (i := 2) sclaw_right.nd rfl (Or.inl rfl)) gs_nil))))
      (b_cons (s_if (d_tcmp (op_NE hu64) (d_blt (call_REPR hg hu64) T.z_repr (by decide +kernel) (d_acons (DN.e (d_lst (d_acons (d_prop (dv 3) T.cl T.Track_length.P (ok_Track_length T) takesF (hr.mono (by decide)) T.Track_length.b) (d_acons (d_prop (dv 3) T.cl T.Track_passes.P (ok_Track_passes T) takesF (hr.mono (by decide)) T.Track_passes.b) (d_acons (d_prop (dv 3) T.cl T.Track_names.P (ok_Track_names T) takesF (hr.mono (by decide)) T.Track_names.b) d_anil))))) d_anil)) (d_blt (call_REPR hg hu64) T.z_repr (by decide +kernel) (d_acons (DN.e (d_lst (d_acons (dv 1) (d_acons (dv 2) (d_acons (d_cty call_TUPLE T.z_tuple (by decide +kernel) (d_acons (DN.e (d_lc (own := [("each", 5)]) rfl sclaw_right.nd (i_tup (dv 2)) (blkOk_by (N := ["purse", "long", "some", "mine", "turn", "each"]) (sc := defScope slaw_right) (by decide +kernel)) (own_nam (by decide)).1 ⟨fun _ _ _ _ _ => (g_name (i := 5) sclaw_right.nd rfl (Or.inl rfl)), fun _ _ _ _ _ => t_nil, fun _ _ _ _ _ => (d_ix (dv 5) d_int (fun _ _ => rfl))⟩)) d_anil)) d_anil))))) d_anil)) (nomark _)) (b_one (s_ret d_bl)) b_nil)
      (b_one (s_if (DW.dt (d_or (d_tcmp (op_NEI (ok_Track_eq T) takesF (hr.mono (by decide)) T.hne T.hob T.Track_eq.m.at_ T.Track_eq.m.fn T.Track_eq.b) (dv 3) (DN.e (d_make ⟨T.makes, T.Track_init.m.at_, T.Track_init.m.fn, T.kC⟩ (ok_Track_init T) takesO (hr.mono (by decide)) T.gC T.Track_init.b .nil (fun _ _ => .nil) (d_acons (dv 1) (d_acons (dv 2) d_anil)))) (nomark _)) (d_or1 (d_not (d_tval (d_callO 0 (ok_law_back T) takesO (hr.mono (by decide)) T.law_back.g T.law_back.F.kp T.law_back.b (d_acons (dv 3) (d_acons (dv 2) d_anil)))))))) (b_one (s_ret d_bl)) b_nil)))))
      (b_one (s_ret d_bl))))))⟩
theorem ok_law_right (T : Txt w.params K mg) : FnG P w K mg base CX0 11 T.law_right.f T.law_right.fd ["purse"] (spO K 1 (F_law_right T.C)) := okOG T.law_right.F sclaw_right rfl rfl (bd_law_right T)
set_option maxHeartbeats 2000000 in
theorem bd_law_purse (T : Txt w.params K mg) : BodyD P w K mg base "_law_purse" slaw_purse T.law_purse.f ["script", "k", "cell", "digits", "seed"] 0 (B_law_purse T.C) := by
  intro cdv A outer s H E hr
  have hu := hu100 hr
  have hu64 := hu64_of hr
  have hu1 := hu1_of hr
  unfold B_law_purse
  exact ⟨_, fun M0 P0 H0 => (b_cons (s_if (d_tcmp op_LT (dv 1) (d_blt call_LEN T.z_len (by decide +kernel) (d_acons (dv 0) d_anil)) (nomark _)) (b_cons (s_set (i := 2) sclaw_purse.nd rfl (Or.inl rfl) (d_ix (dv 0) (dv 1) (fun _ _ => rfl)))
      (b_cons (s_set (i := 3) sclaw_purse.nd rfl (Or.inl rfl) (d_if (DW.dt (d_or (d_tcmp op_LT (dv 2) d_int (nomark _)) (d_or1 (d_tcmp op_GE (dv 2) (d_op op_POW d_int d_int) (nomark _))))) (d_blt call_ABS T.z_abs (by decide +kernel) (d_acons (dv 2) d_anil)) d_int))
      (b_one (s_retNew (d_lst (d_acons (dv 3) (d_acons (d_op op_MOD (d_cty call_INT T.z_int (by decide +kernel) (d_acons (d_op op_ADD (d_op op_ADD (d_op op_MUL (dv 2) d_int) (d_op op_MUL d_int (dv 1))) d_int) d_anil)) d_int) (d_acons d_int d_anil)))))))) b_nil)
      (b_cons (s_set (i := 4) sclaw_purse.nd rfl (Or.inl rfl) (d_op op_ADD (d_op op_MUL d_int (dv 1)) d_int))
      (b_cons (s_for PassesOwn.never rfl (i_list (d_sl (dv 0) d_no (d_part d_int))) (g_name (i := 2) sclaw_purse.nd rfl (Or.inl rfl)) (b_one (s_set (i := 4) sclaw_purse.nd rfl (Or.inl rfl) (d_op op_MOD (d_cty call_INT T.z_int (by decide +kernel) (d_acons (d_op op_ADD (d_op op_MUL (dv 4) d_int) (dv 2)) d_anil)) d_int))))
      (b_one (s_retNew (d_lst (d_acons d_int (d_acons (dv 4) (d_acons d_int d_anil)))))))))⟩
theorem ok_law_purse (T : Txt w.params K mg) : FnOk P w K mg base CX0 1 T.law_purse.f T.law_purse.fd ["script", "k"] (spN K 2 (F_law_purse T.C)) := okN T.law_purse.F sclaw_purse rfl rfl (bd_law_purse T)
set_option maxHeartbeats 2000000 in
theorem bd_law (T : Txt w.params K mg) : BodyG P w K mg base "law" slaw T.law.f ["script", "k"] 11 (B_law T.C) := by
  intro cdv A outer s H E hg hr
  have hu := hu100 hr
  have hu64 := hu64_of hr
  have hu1 := hu1_of hr
  unfold B_law
  exact ⟨_, fun M0 P0 H0 => (b_cons (s_for PassesOwn.never rfl (i_rng1 T.z_range (d_acons (d_blt (call_MAX rfl) T.z_max (by decide +kernel) (d_acons d_int (d_acons (d_blt (call_MIN rfl) T.z_min (by decide +kernel) (d_acons (d_blt call_LEN T.z_len (by decide +kernel) (d_acons (dv 0) d_anil)) (d_acons d_int d_anil))) d_anil))) d_anil)) (g_name (i := 1) sclaw.nd rfl (Or.inl rfl)) (b_one (s_if (d_not (d_tval (d_gcallNew hg (ok_law_right T) takesO (hr.mono (by decide)) T.law_right.g T.law_right.F.kp T.law_right.b (d_callN (ok_law_purse T) takesN (hr.mono (by decide)) T.law_purse.g T.law_purse.F.kp T.law_purse.b (d_acons (dv 0) (d_acons (dv 1) d_anil))) d_anil))) (b_one (s_ret d_bl)) b_nil)))
      (b_one (s_ret d_bl)))⟩
theorem ok_law (T : Txt w.params K mg) : FnG P w K mg base CX0 12 T.law.f T.law.fd ["script"] (spF K 1 (F_law T.C)) := okFG T.law.F sclaw rfl rfl (bd_law T)
end
end My
set_option exponentiation.threshold 20000
namespace My
open PySem PySem.Spec PyProof.Rows L2 DL
structure Ps where
  name : Str
  mode : Str
  first : Int
  last : Int
  touches : List (Int × Int)
  glide : Int
  tail : Str
def encT (p : Int × Int) : D := .tup [.int p.1, .int p.2]
def encP (p : Ps) : D := .tup [.str p.name, .str p.mode, .int p.first, .int p.last, .tup (p.touches.map encT), .int p.glide, .str p.tail]
def touchesOk (hi : Int) : List (Int × Int) → Int → Bool
  | [], _ => true
  | p :: r, lo => (decide (lo ≤ p.1) && decide (p.1 ≤ hi)) && (decide (p.1 + 1 ≤ p.2) && decide (p.2 ≤ hi)) && touchesOk hi r (p.2 + 1)
def letters : Str := "abcdefghijklmnopqrstuvwxyz"
def alnums : Str := "abcdefghijklmnopqrstuvwxyz0123456789"
def modes : List Str := ["write", "latch", "touch", "trim"]
def tails : List Str := ["stop", "on"]
def headOk (x : Str) : Bool := match x.cps.toList with | c :: _ => decide (c ∈ letters.cps.toList) | [] => false
def nameOk (x : Str) : Bool := decide (1 ≤ x.length) && decide (x.length ≤ 8) && headOk x && x.cps.toList.all fun c => decide (c ∈ alnums.cps.toList)
def passOk (L : Int) (p : Ps) : Bool := nameOk p.name && !decide (p.name = "old") && modes.contains p.mode && tails.contains p.tail &&
  ((decide (0 ≤ p.first) && decide (p.first ≤ L)) && (decide (p.first + 1 ≤ p.last) && decide (p.last ≤ L))) && decide (p.touches.length ≤ 6) && touchesOk p.last p.touches p.first && decide (0 ≤ p.glide) && decide (p.glide ≤ 100)
section
variable (C : Addr)
theorem v_is_integer (i : Int) : F_is_integer C [.int i] = some (.bl true) := by
  refine retF ?_
  unfold B_is_integer
  refine_lift' st
  exact rq_rt rfl
theorem v_is_between (i lo hi : Int) : F_is_between C [.int i, .int lo, .int hi] = some (.bl (decide (lo ≤ i) && decide (i ≤ hi))) := by
  refine retF ?_
  unfold B_is_between
  refine_lift' st [v_is_integer C _]
  exact rq_rt rfl
theorem v_is_stretch (p : Int × Int) (lo hi : Int) : F_is_stretch C [encT p, .int lo, .int hi] = some (.bl ((decide (lo ≤ p.1) && decide (p.1 ≤ hi)) && (decide (p.1 + 1 ≤ p.2) && decide (p.2 ≤ hi)))) := by
  refine retF ?_
  unfold B_is_stretch encT
  refine_lift' st
  · intro h
    simp at h
  · intro _
    refine_lift' st
    refine_lift' st [v_is_between C _ _ _]
    exact rq_rt rfl
theorem v_are_touches (ts : List (Int × Int)) (lo hi : Int) : F_are_touches C [.tup (ts.map encT), .int lo, .int hi] = some (.bl (decide (ts.length ≤ 6) && touchesOk hi ts lo)) := by
  refine retF ?_
  unfold B_are_touches
  refine_lift' st
  · intro h
    simp at h
    refine_lift' st
    exact rq_rt (by rw [decide_eq_false (by omega)]; rfl)
  · intro h
    have hl : ts.length ≤ 6 := by simp at h; omega
    rw [decide_eq_true hl, Bool.true_and]
    refine_lift' st
    refine_lift' st
    refine st_for (α := Int × Int) (enc := encT) (xs := ts) (ρ1 := [.dat (.tup (ts.map encT)), .dat (.int lo), .dat (.int hi), .dat (.int lo), .no]) ?_ (fun ys ρ => ∃ lo' x, ρ = [.dat (.tup (ts.map encT)), .dat (.int lo), .dat (.int hi), .dat (.int lo'), x] ∧ ∀ zs, touchesOk hi (ys ++ zs) lo = touchesOk hi zs lo') ⟨lo, .no, rfl, fun _ => rfl⟩ ?_ ?_
    · rfl
    · rintro ys p zs ρ e ⟨lo', x, rfl, q⟩
      refine ⟨_, _, g_nm, ?_⟩
      refine_lift' st [v_is_stretch C _ _ _]
      · intro h1
        have h1 := (Bool.not_eq_true' _).mp h1
        refine_lift' st
        refine rq_rt ?_
        rw [e, q, touchesOk, h1, Bool.false_and]
      · intro h1
        have h1 := (Bool.not_eq_false' _).mp h1
        refine_lift' st
        refine_lift' st
        refine ⟨p.2 + 1, _, rfl, fun zs' => ?_⟩
        rw [List.append_assoc, q]
        show touchesOk hi (p :: zs') lo' = _
        rw [touchesOk, h1, Bool.true_and]
    · rintro ρ ⟨lo', x, rfl, q⟩
      refine_lift' st
      refine rq_rt ?_
      have := q []
      rw [List.append_nil] at this
      rw [this]
      rfl
end
end My
set_option exponentiation.threshold 20000
namespace My
open PySem PySem.Spec PyProof.Rows L2 DL
section
variable (C : Addr)
theorem abc_cat : dAdd (.str "abcdefghijklmnopqrstuvwxyz") (.str "0123456789") = some (.str alnums) := by
  have h : (("abcdefghijklmnopqrstuvwxyz" : Str) ++ ("0123456789" : Str)) = alnums := by decide +kernel
  rw [← h]
  exact if_pos (t := some (D.str (("abcdefghijklmnopqrstuvwxyz" : Str) ++ ("0123456789" : Str)))) (e := none) (show ("abcdefghijklmnopqrstuvwxyz" : Str).length + ("0123456789" : Str).length ≤ sizeLine by decide +kernel)
theorem in_str (c : Nat) (z : Str) : dIn (.str ⟨#[c]⟩) (.str z) = some (.bl (decide (c ∈ z.cps.toList))) := rfl
theorem bls_map {α : Type} (f : α → Bool) : ∀ l : List α, bls? (l.map fun a => D.bl (f a)) = some (l.map f)
  | [] => rfl
  | a :: l => by
    rw [List.map_cons, bls?, bls_map f l]
    rfl
theorem all_map {α : Type} (f : α → Bool) (l : List α) : dAll [.lst (l.map fun a => D.bl (f a))] = some (.bl (l.all f)) := by
  unfold dAll
  simp only [bls_map, Option.map_some, List.all_map]
  rfl
theorem v_is_name (x : Str) (hx : x.length ≤ sizeLine) : F_is_name C [.str x] = some (.bl (nameOk x)) := by
  have hl : dLen [.str x] = some (.int x.length) := if_pos hx
  refine retF ?_
  unfold B_is_name
  refine_lift' st [hl]
  · intro h
    refine_lift' st
    refine rq_rt ?_
    unfold nameOk
    have : (decide (1 ≤ x.length) && decide (x.length ≤ 8)) = false := by
      simp at h ⊢
      omega
    rw [this, Bool.false_and, Bool.false_and]
  · intro h
    have h2 : 1 ≤ x.length ∧ x.length ≤ 8 := by
      simp at h
      omega
    refine_lift' st
    have hlc : mLc [1] (iSeq seqS (mVar 0)) (gNm 1) (mC true) (mOp dIn (mVar 1) (mOp dAdd (mC (.str "abcdefghijklmnopqrstuvwxyz")) (mC (.str "0123456789")))) (cells [.str x] 1) = some (.lst (x.cps.toList.map fun c => .bl (decide (c ∈ alnums.cps.toList))), cells [.str x] 1) := by
      refine e_lcm (α := Nat) (vs := [1]) (ρ1 := cells [.str x] 1) (enc := fun c => D.str ⟨#[c]⟩) (xs := x.cps.toList) (f := fun c => .bl (decide (c ∈ alnums.cps.toList))) rfl rfl (len_le ?_) ?_ rfl
      · show x.length ≤ 1000
        omega
      · intro c _
        exact ⟨(), [.dat (.str x), .dat (.str ⟨#[c]⟩)], rfl, [.dat (.str x), .dat (.str ⟨#[c]⟩)], by refine_lift' ev [abc_cat, in_str c alnums], rfl⟩
    obtain ⟨c, r, hc⟩ : ∃ c r, x.cps.toList = c :: r := by
      cases e : x.cps.toList with
      | nil =>
        have : x.length = x.cps.toList.length := rfl
        rw [e] at this
        simp at this; omega
      | cons c r => exact ⟨c, r, rfl⟩
    have hix : dIx (.str x) (.int 0) = some (.str ⟨#[c]⟩) := by
      have h : dIx (.str x) (.int 0) = (atI x.cps.toList 0).map fun c => D.str ⟨#[c]⟩ := if_pos hx
      rw [h, hc, show atI (c :: r) 0 = some c from atI_nat (j := 0) rfl]
      rfl
    have hin := in_str c "abcdefghijklmnopqrstuvwxyz"
    have hall := all_map (fun c => decide (c ∈ alnums.cps.toList)) x.cps.toList
    refine_lift' st [hix, hin, hlc, hall]
    refine rq_rt ?_
    unfold nameOk headOk
    rw [hc, decide_eq_true h2.1, decide_eq_true h2.2]
    rfl
end
end My
set_option exponentiation.threshold 20000
namespace My
open PySem PySem.Spec PyProof.Rows L2 DL
section
variable (C : Addr)
structure Ps.sane (p : Ps) : Prop where
  name : PyData.strOk p.name = true
  mode : PyData.strOk p.mode = true
  tail : PyData.strOk p.tail = true
  nameL : p.name.length ≤ sizeLine
theorem shaped_str {x : Str} (h : PyData.strOk x = true) : SeqAt.shaped (.str x) = true := by
  simp [SeqAt.shaped, PyData.canLay0, h, PyData.depth]
theorem strs_toPs (ws : List Str) : toPs (ws.map .str) = ws.map .str := by
  rw [toPs_map, List.map_map]
  congr 1
theorem plains_strs : ∀ ws : List Str, plains (ws.map .str) = true
  | [] => rfl
  | w :: ws => by simp only [List.map_cons, plains, DL.plain, plains_strs ws, Bool.and_self]
theorem canLay_strs : ∀ ws : List Str, (∀ w ∈ ws, PyData.strOk w = true) → PyData.canLayAll0 (ws.map .str) = true ∧ PyData.depthAll (ws.map .str) = 0
  | [], _ => by simp [PyData.canLayAll0, PyData.depthAll]
  | w :: ws, h => by
    obtain ⟨a, b⟩ := canLay_strs ws fun v hv => h v (List.mem_cons_of_mem _ hv)
    have := h w List.mem_cons_self
    simp [PyData.canLayAll0, PyData.depthAll, PyData.canLay0, PyData.depth, a, b, this]
theorem any_strs (x : Str) : ∀ ws : List Str, ((ws.map PyData.str).any fun e => PyData.eqv e (.str x)) = ws.contains x
  | [] => rfl
  | w :: ws => by
    rw [List.map_cons, List.any_cons, any_strs x ws, List.contains_cons]
    congr 1
    simp only [PyData.eqv]
    exact BEq.comm
theorem in_words {x : Str} (hx : PyData.strOk x = true) (ws : List Str) (h : ∀ w ∈ ws, PyData.strOk w = true) : dIn (.str x) (.tup (ws.map .str)) = some (.bl (ws.contains x)) := by
  obtain ⟨a, b⟩ := canLay_strs ws h
  have hs : SeqAt.shaped (.tuple (toPs (ws.map D.str))) = true := by
    rw [strs_toPs]
    simp [SeqAt.shaped, PyData.canLay0, PyData.depth, a, b]
  have : dInB (.str x) (.tup (ws.map .str)) = some (ws.contains x) := by
    rw [← any_strs, ← strs_toPs]
    exact if_pos ⟨rfl, plains_strs ws, shaped_str hx, hs⟩
  unfold dIn
  rw [this]
  rfl
theorem v_is_word {x : Str} (hx : PyData.strOk x = true) (ws : List Str) (h : ∀ w ∈ ws, PyData.strOk w = true) : F_is_word C [.str x, .tup (ws.map .str)] = some (.bl (ws.contains x)) := by
  refine retF ?_
  unfold B_is_word
  refine_lift' st [in_words hx ws h]
  exact rq_rt rfl
theorem v_is_length (i : Int) : F_is_length C [.int i] = some (.bl (decide (1 ≤ i) && decide (i ≤ 1000000000000))) := by
  refine retF ?_
  unfold B_is_length
  refine_lift' st [v_is_between C _ _ _]
  exact rq_rt rfl
theorem v_is_pass (p : Ps) (s : p.sane) (L : Int) : F_is_pass C [encP p, .int L] = some (.bl (passOk L p)) := by
  have hm := v_is_word C s.mode modes (by decide +kernel)
  have ht := v_is_word C s.tail tails (by decide +kernel)
  have hn := v_is_name C p.name s.nameL
  have hs := v_is_stretch C (p.first, p.last) 0 L
  have hto := v_are_touches C p.touches p.first p.last
  have hgl := v_is_between C p.glide 0 100
  refine retF ?_
  unfold B_is_pass
  unfold encP
  refine_lift' st
  · intro h
    simp at h
  · intro _
    refine_lift' st
    refine_lift' st
    refine_lift' st [hn]
    · intro h
      refine_lift' st
      refine rq_rt ?_
      unfold passOk
      have : (nameOk p.name && !decide (p.name = "old")) = false := by
        simp at h ⊢
        intro e; rcases h with h | h
        · rw [h] at e; cases e
        · exact h
      simp only [this, Bool.false_and]
    · intro h
      have h1 : (nameOk p.name && !decide (p.name = "old")) = true := by
        simp at h ⊢
        exact h
      refine_lift' st
      refine_lift' st [hm, ht]
      · intro h
        refine_lift' st
        refine rq_rt ?_
        unfold passOk
        have : (modes.contains p.mode && tails.contains p.tail) = false := by
          simp at h ⊢
          intro e; rcases h with h | h
          · exact (h e).elim
          · exact h
        rw [h1, Bool.true_and, this]
        simp only [Bool.false_and]
      · intro h
        have h2 : (modes.contains p.mode && tails.contains p.tail) = true := by
          simp at h ⊢
          exact h
        refine_lift' st
        refine_lift' st [hs]
        · intro h
          have h := (Bool.not_eq_true' _).mp h
          refine_lift' st
          refine rq_rt ?_
          unfold passOk
          rw [h1, Bool.true_and, h2, Bool.true_and]
          simp only at h
          rw [h]
          simp only [Bool.false_and]
        · intro h
          have h3 := (Bool.not_eq_false' _).mp h
          refine_lift' st
          refine_lift' st [hto, hgl]
          refine rq_rt ?_
          unfold passOk
          rw [h1, Bool.true_and, h2, Bool.true_and]
          simp only at h3
          rw [h3, Bool.true_and]
          simp only [Bool.and_assoc]
end
end My
set_option exponentiation.threshold 20000
namespace My
open PySem PySem.Spec PyProof.Rows L2 DL
section
variable (C : Addr)
theorem in_strL {x : Str} (hx : PyData.strOk x = true) (ws : List Str) (h : ∀ w ∈ ws, PyData.strOk w = true) : dIn (.str x) (.lst (ws.map .str)) = some (.bl (ws.contains x)) := by
  obtain ⟨a, b⟩ := canLay_strs ws h
  have hs : SeqAt.shaped (.list (toPs (ws.map D.str))) = true := by
    rw [strs_toPs]
    simp [SeqAt.shaped, PyData.canLay0, PyData.depth, a, b]
  have : dInB (.str x) (.lst (ws.map .str)) = some (ws.contains x) := by
    rw [← any_strs, ← strs_toPs]
    exact if_pos ⟨rfl, plains_strs ws, shaped_str hx, hs⟩
  unfold dIn
  rw [this]
  rfl
theorem enumD_map {α : Type} (enc : α → D) : ∀ (xs : List α) (k : Nat), enumD k (xs.map enc) = (xs.zipIdx k).map fun p => .tup [.int p.2, enc p.1]
  | [], _ => rfl
  | x :: xs, k => by
    rw [List.map_cons, enumD, enumD_map enc xs (k + 1), List.zipIdx_cons, List.map_cons]
structure PssOk (L : Int) (ps : List Ps) : Prop where
  sane : ∀ p ∈ ps, p.sane
  ok : ∀ p ∈ ps, passOk L p = true
  nd : (ps.map Ps.name).Nodup
  len : ps.length ≤ 8
theorem v_first_wrong (L : Int) (ps : List Ps) (h : PssOk L ps) : F_first_wrong C [.tup (ps.map encP), .int L] = some .non := by
  refine retF ?_
  unfold B_first_wrong
  refine_lift' st
  refine st_for (α := Ps × Nat) (enc := fun p => .tup [.int p.2, encP p.1]) (xs := ps.zipIdx) (ρ1 := [.dat (.tup (ps.map encP)), .dat (.int L), .own false (.lst []), .no, .no]) ?_ (fun ys ρ => ∃ x y, ρ = [.dat (.tup (ps.map encP)), .dat (.int L), .own false (.lst ((ys.map fun p => p.1.name).map .str)), x, y]) ⟨_, _, rfl⟩ ?_ ?_
  · have : enumT? [.tup (ps.map encP)] = some (ps.zipIdx.map fun p => .tup [.int p.2, encP p.1]) := by rw [← enumD_map]; rfl
    exact e_bd (v := [.tup (ps.map encP)]) rfl (e_l this)
  · rintro ys ⟨p, k⟩ zs ρ e ⟨x, y, rfl⟩
    refine ⟨(), [.dat (.tup (ps.map encP)), .dat (.int L), .own false (.lst ((ys.map fun p => p.1.name).map .str)), .dat (.int k), .dat (encP p)], rfl, ?_⟩
    have hk : (ys.map (·.1)).length = k ∧ ps = ys.map (·.1) ++ p :: zs.map (·.1) := by
      have e1 : ps = (ys ++ (p, k) :: zs).map (·.1) := by rw [← e, List.zipIdx_map_fst]
      rw [List.map_append, List.map_cons] at e1
      refine ⟨?_, e1⟩
      have e2 : List.range' 0 ps.length = (ys ++ (p, k) :: zs).map (·.2) := by rw [← e, List.zipIdx_map_snd]
      have e3 : (List.range' 0 ps.length)[ys.length]? = some k := by
        rw [e2, List.map_append, List.getElem?_append_right (by rw [List.length_map]; exact Nat.le_refl _), List.length_map, Nat.sub_self]
        rfl
      have hy : ys.length < ps.length := by rw [e1]; simp
      rw [List.getElem?_range' hy] at e3
      have e3 := Option.some.inj e3
      rw [List.length_map]; omega
    have hm : p ∈ ps := by rw [hk.2]; simp
    have hkl : k < 8 := by
      have h8 := h.len
      rw [hk.2, List.length_append, hk.1] at h8
      simp at h8
      omega
    have s := h.sane p hm
    have hp := v_is_pass C p s L
    rw [h.ok p hm] at hp
    have hin : dIn (.str p.name) (.lst ((ys.map fun p => p.1.name).map .str)) = some (.bl false) := by
      rw [in_strL s.name]
      · congr 2
        have nd := h.nd
        rw [hk.2, List.map_append, List.map_cons, List.nodup_append] at nd
        have := nd.2.2
        rw [List.contains_eq_mem, decide_eq_false_iff_not]
        intro q
        rw [List.map_map] at this
        exact this p.name q p.name (by simp) rfl
      · intro w hw
        obtain ⟨q, hq, rfl⟩ := List.mem_map.mp hw
        exact (h.sane q.1 (by rw [hk.2]; exact List.mem_append_left _ (List.mem_map.mpr ⟨q, hq, rfl⟩))).name
    have hlen : ((ys.map fun p => p.1.name).map D.str).length < sizeLine := by
      have : ys.length = k := by rw [← hk.1, List.length_map]
      rw [List.length_map, List.length_map, this]
      exact Nat.lt_of_lt_of_le hkl (len_le (by omega))
    have hge : dGe (.int k) (.int 8) = some (.bl false) := by
      show some (D.bl (decide ((8 : Int) ≤ k))) = _
      rw [decide_eq_false (by omega)]
    have hix : dIx (encP p) (.int 0) = some (.str p.name) := rfl
    refine st_one ?_
    refine_lift' st
    refine_lift' st [hge, hp, hix, hin]
    · intro h; cases h
    · intro _
      refine_lift' st
      refine_lift' st [hix, hlen]
      refine_lift' st
      refine ⟨.dat (.int k), .dat (encP p), ?_⟩
      rw [List.map_append, List.map_append]
      rfl
  · rintro ρ ⟨x, y, rfl⟩
    refine_lift' st
    exact rq_rt rfl
def encTr (C : Addr) (L : Int) (ps : List Ps) : D := .ins C ["_length", "_passes"] [.int L, .tup (ps.map encP)]
theorem v_Track_init (L : Int) (ps : List Ps) (h : PssOk L ps) (h1 : 1 ≤ L) (h2 : L ≤ 1000000000000) : F_Track_init C (.ins C [] []) [.int L, .tup (ps.map encP)] = some (.non, encTr C L ps) := by
  have hl := v_is_length C L
  rw [decide_eq_true h1, decide_eq_true h2] at hl
  have hw := v_first_wrong C L ps h
  have : ∃ d e, runO 3 1 (B_Track_init C) (.ins C [] []) [.int L, .tup (ps.map encP)] = some (d, e) ∧ d = .non ∧ e = encTr C L ps := by
    refine retOE ?_
    unfold B_Track_init
    refine_lift' st [hl]
    · intro h; cases h
    · intro _
      refine_lift' st
      refine_lift' st
      · intro h; cases h
      · intro _
        refine_lift' st
        refine_lift' st [hw]
        refine_lift' st
        · intro h; cases h
        · intro _
          refine_lift' st
          refine_lift' st
          refine_lift' st
          refine_lift' st
          exact ro_nx ⟨rfl, rfl⟩
  obtain ⟨d, e, q, rfl, rfl⟩ := this
  exact q
theorem v_Track_length (L : Int) (ps : List Ps) : F_Track_length C [encTr C L ps] = some (.int L) := by
  refine retF ?_
  unfold B_Track_length encTr
  refine_lift' st
  exact rq_rt rfl
theorem v_Track_passes (L : Int) (ps : List Ps) : F_Track_passes C [encTr C L ps] = some (.tup (ps.map encP)) := by
  refine retF ?_
  unfold B_Track_passes encTr
  refine_lift' st
  exact rq_rt rfl
end
end My
set_option exponentiation.threshold 20000
namespace My
open PySem PySem.Spec PyProof.Rows L2 DL
abbrev Wt := Int × Int
theorem big_bits {i : Int} (h : i.natAbs ≤ 2 ^ 1000) : Builtin.Int.intBits i ≤ 1001 := by
  refine Nat.le_trans (bits_mono (j := 2 ^ 1000) ?_) (by decide +kernel)
  rw [Int.natAbs_pow]; exact h
theorem mul_ok {i j : Int} (h : i.natAbs ≤ 2 ^ 1000) (h' : j.natAbs ≤ 2 ^ 1000) : dMul (.int i) (.int j) = some (.int (i * j)) := by
  have a := big_bits h
  have b := big_bits h'
  exact if_pos (by omega)
theorem div_ok {i j : Int} (h : 0 < j) (h' : j.natAbs ≤ 2 ^ 8000) : dDiv (.int i) (.int j) = some (.int (i / j)) := by
  refine if_pos ⟨h, ?_⟩
  have h0 : j.natAbs ≠ 0 := by omega
  have : j.natAbs.log2 < 8001 := (Nat.log2_lt h0).mpr (Nat.lt_of_le_of_lt h' (Nat.pow_lt_pow_right (by omega) (by omega)))
  omega
/-- a weight within k glides -/
structure WtOk (k : Nat) (w : Wt) : Prop where
  pos : 0 < w.2
  le : w.2 ≤ 101 ^ k
  num : 0 ≤ w.1
  lt : w.1 ≤ w.2
theorem WtOk.nat {k : Nat} {w : Wt} (h : WtOk k w) (hk : k ≤ 100) : w.1.natAbs ≤ 2 ^ 1000 ∧ w.2.natAbs ≤ 2 ^ 1000 := by
  have h1 : (101 : Int) ^ k ≤ 101 ^ 100 := by
    have : (101 : Nat) ^ k ≤ 101 ^ 100 := Nat.pow_le_pow_right (by omega) hk
    exact_mod_cast this
  have h2 : (101 : Int) ^ 100 ≤ 2 ^ 1000 := by decide +kernel
  have := h.le; have := h.num; have := h.lt; have := h.pos
  have e : ((2 : Nat) ^ 1000 : Nat) = ((2 : Int) ^ 1000).natAbs := by decide +kernel
  constructor
  · rw [e]; omega
  · rw [e]; omega
theorem WtOk.mono {j k : Nat} {w : Wt} (h : WtOk j w) (hk : j ≤ k) : WtOk k w := by
  have : (101 : Nat) ^ j ≤ 101 ^ k := Nat.pow_le_pow_right (by omega) hk
  have h1 : (101 : Int) ^ j ≤ 101 ^ k := by exact_mod_cast this
  exact ⟨h.pos, Int.le_trans h.le h1, h.num, h.lt⟩
end My
set_option exponentiation.threshold 20000
set_option exponentiation.threshold 20000
set_option exponentiation.threshold 20000
set_option exponentiation.threshold 20000
set_option exponentiation.threshold 20000
namespace My
open PySem PySem.Spec PyProof.Rows L2 DL
structure Pur where
  d : Int
  s : Int
  c : Int
def encPu (u : Pur) : D := .lst [.int u.d, .int u.s, .int u.c]
structure PurOk (m : Nat) (u : Pur) : Prop where
  bits : Builtin.Int.intBits u.d ≤ 1048576
  s0 : 0 ≤ u.s
  s1 : u.s < 2147483648
  c0 : 0 ≤ u.c
  c1 : u.c + (m : Int) ≤ 1000000000
theorem PurOk.mono {m n : Nat} {u : Pur} (h : PurOk m u) (k : n ≤ m) : PurOk n u := ⟨h.bits, h.s0, h.s1, h.c0, by have := h.c1; omega⟩
theorem mul_bits {i j : Int} (h : Builtin.Int.intBits i ≤ 10000000) (h' : Builtin.Int.intBits j ≤ 10000000) : dMul (.int i) (.int j) = some (.int (i * j)) := if_pos (by omega)
theorem mod_ok {i j : Int} (h : 0 < j) : dMod (.int i) (.int j) = some (.int (i % j)) := if_pos h
theorem divmod_ok {i j : Int} (h : 0 < j) (h' : j < 1073741824073741824) : dDivmod [.int i, .int j] = some (.tup [.int (i / j), .int (i % j)]) := by
  refine if_pos ⟨h, ?_⟩
  have h0 : j.natAbs ≠ 0 := by omega
  have : j.natAbs.log2 < 60 := (Nat.log2_lt h0).mpr (by omega)
  omega
section
variable (C : Addr)
theorem v_law_draw {m : Nat} {u : Pur} (hu : PurOk (m + 1) u) {n : Int} (h0 : 0 < n) (h1 : n < 1073741824073741824) : ∃ (i : Int) (u' : Pur), F_law_draw C (encPu u) [.int n] = some (.int i, encPu u') ∧ 0 ≤ i ∧ i < n ∧ PurOk m u' := by
  obtain ⟨d, s, c⟩ := u
  obtain ⟨b, s0, s1, c0, c1⟩ := hu
  simp only at b s0 s1 c0 c1
  have e1 := mod_ok (i := s) (j := 40009) (by decide)
  have q1 : 0 ≤ s % 40009 ∧ s % 40009 < 40009 := ⟨Int.emod_nonneg _ (by decide), Int.emod_lt_of_pos _ (by decide)⟩
  have c31 : (2 : Nat) ^ 31 ≤ 2 ^ 1000 := by decide +kernel
  have e2 : dMul (.int s) (.int (s % 40009 + 20021)) = some (.int (s * (s % 40009 + 20021))) := mul_ok (Nat.le_trans (by omega) c31) (Nat.le_trans (by omega) c31)
  have e3 : dMul (.int 60013) (.int (c + 1)) = some (.int (60013 * (c + 1))) := mul_ok (Nat.le_trans (by omega) c31) (Nat.le_trans (by omega) c31)
  have e4 := mod_ok (i := s * (s % 40009 + 20021) + 60013 * (c + 1) + 11) (j := 2147483629) (by decide)
  have q4 : 0 ≤ (s * (s % 40009 + 20021) + 60013 * (c + 1) + 11) % 2147483629 ∧ (s * (s % 40009 + 20021) + 60013 * (c + 1) + 11) % 2147483629 < 2147483629 := ⟨Int.emod_nonneg _ (by decide), Int.emod_lt_of_pos _ (by decide)⟩
  generalize hS : (s * (s % 40009 + 20021) + 60013 * (c + 1) + 11) % 2147483629 = S at e4 q4
  have e5 := divmod_ok (i := d) h0 h1
  have e6 : dDiv (.int S) (.int 89) = some (.int (S / 89)) := div_ok (by decide) (Nat.le_trans (by decide : (89 : Int).natAbs ≤ 2 ^ 31) (Nat.pow_le_pow_right (by decide) (by decide)))
  have e7 := mod_ok (i := S / 89) h0
  have i1 : ∀ i : Int, dInt [.int i] = some (.int i) := fun i => rfl
  have : ∃ r u', runO 2 3 (B_law_draw C) (encPu ⟨d, s, c⟩) [.int n] = some (r, u') ∧ ∃ (i : Int) (v : Pur), r = .int i ∧ u' = encPu v ∧ 0 ≤ i ∧ i < n ∧ PurOk m v := by
    refine retOE ?_
    unfold B_law_draw encPu
    refine_lift' st [e1, i1 _]
    refine_lift' st
    refine_lift' st [e2, e3, e4, i1 _]
    refine_lift' st
    · intro h
      have hd : 0 < d := of_decide_eq_true h
      refine_lift' st
      refine_lift' st [e5]
      refine_lift' st
      exact ro_rt ⟨d % n, ⟨d / n, S, c + 1⟩, rfl, rfl, Int.emod_nonneg _ (by omega), Int.emod_lt_of_pos _ h0, Nat.le_trans (bits_div (by omega) h0) b, by simp only; omega, by simp only; omega, by simp only; omega, by simp only; omega⟩
    · intro h
      refine_lift' st
      refine_lift' st [e6, e7, i1 _]
      exact ro_rt ⟨S / 89 % n, ⟨d, S, c + 1⟩, rfl, rfl, Int.emod_nonneg _ (by omega), Int.emod_lt_of_pos _ h0, b, by simp only; omega, by simp only; omega, by simp only; omega, by simp only; omega⟩
  obtain ⟨r, u', e, i, v, rfl, rfl, h⟩ := this
  exact ⟨i, v, e, h⟩
theorem v_law_pick {m : Nat} {u : Pur} (hu : PurOk (m + 1) u) {ds : List D} (h0 : 0 < ds.length) (h1 : ds.length ≤ 1000) : ∃ (x : D) (u' : Pur), F_law_pick C (encPu u) [.lst ds] = some (x, encPu u') ∧ x ∈ ds ∧ PurOk m u' := by
  obtain ⟨i, u1, e, i0, i1, hu1⟩ := v_law_draw C hu (n := ds.length) (by omega) (by omega)
  obtain ⟨j, rfl⟩ : ∃ j : Nat, i = j := ⟨i.toNat, by omega⟩
  have hj : j < ds.length := by omega
  have hix : dIx (.lst ds) (.int j) = some ds[j] := atI_nat (by rw [List.getElem?_eq_getElem hj])
  have : ∃ r u', runO 2 0 (B_law_pick C) (encPu u) [.lst ds] = some (r, u') ∧ r = ds[j] ∧ u' = encPu u1 := by
    refine retOE ?_
    unfold B_law_pick
    refine_lift' st [e, hix]
    exact ro_rt ⟨rfl, rfl⟩
  obtain ⟨r, u', e', rfl, rfl⟩ := this
  exact ⟨_, u1, e', List.getElem_mem hj, hu1⟩
theorem cut4 (ns : List Int) : dSl (.scr ns) none (some 4) = some (.lst ((ns.take 4).map .int)) := by
  have : DL.cutD ns none (some ((4 : Nat) : Int)) = ns.take 4 := by
    unfold DL.cutD
    rw [HT.sIx_none, HT.sIx_nat, List.drop_zero, Nat.sub_zero]
    by_cases h : 4 ≤ ns.length
    · rw [Nat.min_eq_left h]
    · rw [Nat.min_eq_right (by omega), List.take_length, List.take_of_length_le (by omega)]
  show some (D.lst ((DL.cutD ns none (some ((4 : Nat) : Int))).map .int)) = _
  rw [this]
theorem v_law_purse {ns : List Int} (hb : ∀ z ∈ ns, Builtin.Int.intBits z ≤ 1048576) {k : Nat} (hk : k ≤ 100) : ∃ u : Pur, F_law_purse C [.scr ns, .int k] = some (encPu u) ∧ PurOk 1000000000 u := by
  have c31 : (2 : Nat) ^ 40 ≤ 2 ^ 1000 := by decide +kernel
  have i1 : ∀ i : Int, dInt [.int i] = some (.int i) := fun i => rfl
  have : ∃ d, F_law_purse C [.scr ns, .int k] = some d ∧ ∃ u : Pur, d = encPu u ∧ PurOk 1000000000 u := by
    refine retNE ?_
    unfold B_law_purse
    refine_lift' st
    · intro h
      have lk : k < ns.length := by
        have := of_decide_eq_true h
        omega
      have hc := hb _ (List.getElem_mem lk)
      have hix : dIx (.scr ns) (.int k) = some (.int ns[k]) := by
        show (atI ns k).map D.int = _
        rw [atI_nat (j := k) (by rw [List.getElem?_eq_getElem lk])]
        rfl
      generalize ns[k] = cell at hc hix
      have e1 : dMul (.int cell) (.int 39373) = some (.int (cell * 39373)) := mul_bits (Nat.le_trans hc (by decide)) (by decide)
      have e2 : dMul (.int 104723) (.int k) = some (.int (104723 * (k : Int))) := mul_ok (Nat.le_trans (by decide) c31) (Nat.le_trans (by omega) c31)
      have e3 := mod_ok (i := cell * 39373 + 104723 * (k : Int) + 17) (j := 2147483629) (by decide)
      have q3 : 0 ≤ (cell * 39373 + 104723 * (k : Int) + 17) % 2147483629 ∧ (cell * 39373 + 104723 * (k : Int) + 17) % 2147483629 < 2147483629 := ⟨Int.emod_nonneg _ (by decide), Int.emod_lt_of_pos _ (by decide)⟩
      have ab : dAbs [.int cell] = some (.int (if cell < 0 then -cell else cell)) := rfl
      have p18 : dPow (.int 10) (.int 18) = some (.int 1000000000000000000) := by
        have e : ((10 : Int) ^ (18 : Int).toNat) = 1000000000000000000 := by decide +kernel
        rw [← e]
        exact if_pos (e := none) (show (0 : Int) ≤ 18 ∧ (18 : Int) ≤ 1000000 ∧ (10 : Int).natAbs < 2 ^ 64 by decide +kernel)
      generalize hS : (cell * 39373 + 104723 * (k : Int) + 17) % 2147483629 = S at e3 q3
      refine_lift' st
      refine_lift' st [hix]
      have m3 : ∀ ρ : Cs, mVar 2 ρ = some (.int cell, ρ) → ∃ d : Int, mIf (mOr (mTst (mOp dLt (mVar 2) (mC (.int 0)))) (mTst (mOp dGe (mVar 2) (mOp dPow (mC (.int 10)) (mC (.int 18)))))) (mFn dAbs (aCons (mVar 2) aNil)) (mC (.int 0)) ρ = some (.int d, ρ) ∧ Builtin.Int.intBits d ≤ 1048576 := by
        intro ρ h
        cases hq : (decide (cell < 0) || decide ((1000000000000000000 : Int) ≤ cell)) with
        | true =>
          refine ⟨if cell < 0 then -cell else cell, e_if1 (by rw [← hq]; refine_lift' ev [p18]) (by refine_lift' ev), Nat.le_trans (bits_mono ?_) hc⟩
          split <;> omega
        | false => exact ⟨0, e_if0 (by rw [← hq]; refine_lift' ev [p18]) rfl, by decide⟩
      obtain ⟨d, hd, bd⟩ := m3 [.dat (.scr ns), .dat (.int k), .dat (.int cell), .no, .no] rfl
      refine_lift' st
      refine st_set (ρ := [.dat (.scr ns), .dat (.int k), .dat (.int cell), .no, .no]) hd ?_
      refine_lift' st [e1, e2, e3, i1 _]
      exact rn_rn ⟨⟨d, S, 0⟩, rfl, bd, by simp only; omega, by simp only; omega, by simp only; omega, by simp only; omega⟩
    · intro _
      have e1 : dMul (.int 86243) (.int k) = some (.int (86243 * (k : Int))) := mul_ok (Nat.le_trans (by decide) c31) (Nat.le_trans (by omega) c31)
      have hc4 := cut4 ns
      refine_lift' st
      refine_lift' st [e1]
      refine st_for (α := Int) (enc := D.int) (xs := ns.take 4) (ρ1 := [.dat (.scr ns), .dat (.int k), .no, .no, .dat (.int (86243 * (k : Int) + 131))]) ?_ (fun ys ρ => ∃ (y : Cell) (s : Int), ρ = [.dat (.scr ns), .dat (.int k), y, .no, .dat (.int s)] ∧ 0 ≤ s ∧ s < 2147483648) ⟨_, _, rfl, by omega, by omega⟩ ?_ ?_
      · have h1 : mSl dSl (mVar 0) mNo (mPart (mC (.int 4))) [.dat (.scr ns), .dat (.int k), .no, .no, .dat (.int (86243 * (k : Int) + 131))] = some (.lst ((ns.take 4).map .int), [.dat (.scr ns), .dat (.int k), .no, .no, .dat (.int (86243 * (k : Int) + 131))]) := by refine_lift' ev [hc4]
        exact e_bd h1 (e_l rfl)
      · rintro ys x zs ρ e ⟨y, s, rfl, s0, s1⟩
        have e2 : dMul (.int s) (.int 48271) = some (.int (s * 48271)) := mul_ok (Nat.le_trans (by omega) c31) (Nat.le_trans (by decide) c31)
        have e3 := mod_ok (i := s * 48271 + x) (j := 2147483587) (by decide)
        have q3 : 0 ≤ (s * 48271 + x) % 2147483587 ∧ (s * 48271 + x) % 2147483587 < 2147483587 := ⟨Int.emod_nonneg _ (by decide), Int.emod_lt_of_pos _ (by decide)⟩
        refine ⟨(), [.dat (.scr ns), .dat (.int k), .dat (.int x), .no, .dat (.int s)], rfl, ?_⟩
        refine_lift' st [e2, e3, i1 _]
        refine_lift' st
        exact ⟨.dat (.int x), _, rfl, q3.1, by omega⟩
      · rintro ρ ⟨y, s, rfl, s0, s1⟩
        refine_lift' st
        exact rn_rn ⟨⟨0, s, 0⟩, rfl, by show Builtin.Int.intBits 0 ≤ 1048576; decide, s0, s1, by show (0 : Int) ≤ 0; decide, by show (0 : Int) + 1000000000 ≤ 1000000000; decide⟩
  obtain ⟨d, e, u, rfl, h⟩ := this
  exact ⟨u, e, h⟩
end
end My
set_option exponentiation.threshold 20000
namespace My
open PySem PySem.Spec PyProof.Rows L2 DL
section
variable (C : Addr)
theorem cutD_to {α : Type} (xs : List α) (n : Nat) : DL.cutD xs none (some (n : Int)) = xs.take n := by
  unfold DL.cutD
  rw [HT.sIx_none, HT.sIx_nat, List.drop_zero, Nat.sub_zero]
  by_cases h : n ≤ xs.length
  · rw [Nat.min_eq_left h]
  · rw [Nat.min_eq_right (by omega), List.take_length, List.take_of_length_le (by omega)]
theorem cutD_from {α : Type} (xs : List α) (n : Nat) : DL.cutD xs (some (n : Int)) none = xs.drop n := by
  unfold DL.cutD
  rw [HT.sIx_none, HT.sIx_nat]
  by_cases h : n ≤ xs.length
  · rw [Nat.min_eq_left h, List.take_of_length_le (by rw [List.length_drop]; exact Nat.le_refl _)]
  · rw [Nat.min_eq_right (by omega), Nat.sub_self, List.take_zero, List.drop_of_length_le (by omega)]
theorem v_put_in (xs : List D) (at' : Nat) (x : D) (h : xs.length ≤ 900) : F_put_in C [.tup xs, .int at', x] = some (.tup (xs.take at' ++ x :: xs.drop at')) := by
  have s1 : dSl (.tup xs) none (some (at' : Int)) = some (.tup (xs.take at')) := by
    show some (D.tup (DL.cutD xs none (some (at' : Int)))) = _
    rw [cutD_to]
  have s2 : dSl (.tup xs) (some (at' : Int)) none = some (.tup (xs.drop at')) := by
    show some (D.tup (DL.cutD xs (some (at' : Int)) none)) = _
    rw [cutD_from]
  have a1 : dAdd (.tup (xs.take at')) (.tup [x]) = some (.tup (xs.take at' ++ [x])) := if_pos (len_le (by rw [List.length_take, List.length_singleton]; omega))
  have a2 : dAdd (.tup (xs.take at' ++ [x])) (.tup (xs.drop at')) = some (.tup (xs.take at' ++ [x] ++ xs.drop at')) := if_pos (len_le (by rw [List.length_append, List.length_take, List.length_singleton, List.length_drop]; omega))
  refine retF ?_
  unfold B_put_in
  refine_lift' st [s1, s2, a1, a2]
  exact rq_rt (by rw [List.append_assoc]; rfl)
def placeM (ps : List Ps) (n : Str) : Option Nat := ps.findIdx? fun p => decide (p.name = n)
theorem zipIdx_at {α : Type} {xs : List α} {ys zs : List (α × Nat)} {x : α} {k : Nat} (e : xs.zipIdx = ys ++ (x, k) :: zs) : ys.length = k ∧ xs = ys.map (·.1) ++ x :: zs.map (·.1) := by
  have e1 : xs = (ys ++ (x, k) :: zs).map (·.1) := by rw [← e, List.zipIdx_map_fst]
  rw [List.map_append, List.map_cons] at e1
  refine ⟨?_, e1⟩
  have e2 : List.range' 0 xs.length = (ys ++ (x, k) :: zs).map (·.2) := by rw [← e, List.zipIdx_map_snd]
  have e3 : (List.range' 0 xs.length)[ys.length]? = some k := by
    rw [e2, List.map_append, List.getElem?_append_right (by rw [List.length_map]; exact Nat.le_refl _), List.length_map, Nat.sub_self]
    rfl
  have hy : ys.length < xs.length := by rw [e1]; simp
  rw [List.getElem?_range' hy] at e3
  have e3 := Option.some.inj e3
  omega
def encON : Option Nat → D
  | none => .non
  | some i => .int i
theorem v_place_of (ps : List Ps) (n : Str) : F_place_of C [.tup (ps.map encP), .str n] = some (encON (placeM ps n)) := by
  refine retF ?_
  unfold B_place_of
  refine_lift' st
  · intro _
    refine st_for (α := Ps × Nat) (enc := fun p => .tup [.int p.2, encP p.1]) (xs := ps.zipIdx) (ρ1 := [.dat (.tup (ps.map encP)), .dat (.str n), .no, .no]) ?_ (fun ys ρ => ∃ x y, ρ = [.dat (.tup (ps.map encP)), .dat (.str n), x, y] ∧ ∀ q ∈ ys, ¬ q.1.name = n) ⟨_, _, rfl, fun q h => by cases h⟩ ?_ ?_
    · have : enumT? [.tup (ps.map encP)] = some (ps.zipIdx.map fun p => .tup [.int p.2, encP p.1]) := by rw [← enumD_map]; rfl
      exact e_bd (v := [.tup (ps.map encP)]) rfl (e_l this)
    · rintro ys ⟨p, k⟩ zs ρ e ⟨x, y, rfl, hn⟩
      obtain ⟨hk, hps⟩ := zipIdx_at e
      have hix : dIx (encP p) (.int 0) = some (.str p.name) := rfl
      refine ⟨(), [.dat (.tup (ps.map encP)), .dat (.str n), .dat (.int k), .dat (encP p)], rfl, ?_⟩
      refine_lift' st [hix]
      · intro h
        have h := of_decide_eq_true h
        refine_lift' st
        refine rq_rt ?_
        have : placeM ps n = some k := by
          unfold placeM
          rw [hps, List.findIdx?_append]
          have h1 : (ys.map (·.1)).findIdx? (fun p => decide (p.name = n)) = none := by
            rw [List.findIdx?_eq_none_iff]
            intro q hq
            obtain ⟨r, hr, rfl⟩ := List.mem_map.mp hq
            exact decide_eq_false (hn r hr)
          rw [h1]
          simp [List.findIdx?_cons, h, hk]
        rw [this]
        rfl
      · intro h
        have h := of_decide_eq_false h
        refine_lift' st
        refine ⟨.dat (.int k), .dat (encP p), rfl, fun q hq => ?_⟩
        rcases List.mem_append.mp hq with hq | hq
        · exact hn q hq
        · rw [List.mem_singleton] at hq
          subst hq; exact h
    · rintro ρ ⟨x, y, rfl, hn⟩
      refine_lift' st
      refine rq_rt ?_
      have : placeM ps n = none := by
        unfold placeM
        rw [List.findIdx?_eq_none_iff]
        intro q hq
        have : q ∈ ps.zipIdx.map (·.1) := by rw [List.zipIdx_map_fst]; exact hq
        obtain ⟨r, hr, rfl⟩ := List.mem_map.mp this
        exact decide_eq_false (hn r hr)
      rw [this]
      rfl
  · intro h; cases h
end
end My
set_option exponentiation.threshold 20000
namespace My
open PySem PySem.Spec PyProof.Rows L2 DL
structure Gd (n : Nat) (d : D) : Prop where
  p : DL.plain d = true
  l : (toP d).canLay0 = true
  dp : (toP d).depth ≤ n
  e : PyData.eqv (toP d) (toP d) = true
theorem gd_int (n : Nat) (i : Int) : Gd n (.int i) := ⟨rfl, by simp [toP, PyData.canLay0], by simp [toP, PyData.depth], by simp [toP, PyData.eqv]⟩
theorem gd_str (n : Nat) {x : Str} (h : PyData.strOk x = true) : Gd n (.str x) := ⟨rfl, by simp [toP, PyData.canLay0, h], by simp [toP, PyData.depth], by simp [toP, PyData.eqv]⟩
theorem gds {n : Nat} : ∀ {ds : List D}, (∀ d ∈ ds, Gd n d) → plains ds = true ∧ PyData.canLayAll0 (toPs ds) = true ∧ PyData.depthAll (toPs ds) ≤ n ∧ PyData.eqvAll (toPs ds) (toPs ds) = true
  | [], _ => by simp [plains, toPs, PyData.canLayAll0, PyData.depthAll, PyData.eqvAll]
  | d :: ds, h => by
    obtain ⟨a, b, c, e⟩ := gds fun x hx => h x (List.mem_cons_of_mem _ hx)
    have g := h d List.mem_cons_self
    refine ⟨by simp only [plains, g.p, a, Bool.and_self], by simp only [toPs, PyData.canLayAll0, g.l, b, Bool.and_self], ?_, by simp only [toPs, PyData.eqvAll, g.e, e, Bool.and_self]⟩
    simp only [toPs, PyData.depthAll]
    exact Nat.max_le.mpr ⟨g.dp, c⟩
theorem gd_tup {n : Nat} {ds : List D} (h : ∀ d ∈ ds, Gd n d) : Gd (n + 1) (.tup ds) := by
  obtain ⟨a, b, c, e⟩ := gds h
  exact ⟨by simpa [DL.plain] using a, by simpa [toP, PyData.canLay0] using b, by simp only [toP, PyData.depth]; omega, by simpa [toP, PyData.eqv] using e⟩
theorem gd_lst {n : Nat} {ds : List D} (h : ∀ d ∈ ds, Gd n d) : Gd (n + 1) (.lst ds) := by
  obtain ⟨a, b, c, e⟩ := gds h
  exact ⟨by simpa [DL.plain] using a, by simpa [toP, PyData.canLay0] using b, by simp only [toP, PyData.depth]; omega, by simpa [toP, PyData.eqv] using e⟩
end My
set_option exponentiation.threshold 20000
set_option exponentiation.threshold 20000
namespace My
open PySem PySem.Spec PyProof.Rows L2 DL
structure BodyOk (L : Int) (p : Ps) : Prop where
  mode : modes.contains p.mode = true
  tail : tails.contains p.tail = true
  rng : 0 ≤ p.first ∧ p.first + 1 ≤ p.last ∧ p.last ≤ L
  tl : p.touches.length ≤ 6
  tok : touchesOk p.last p.touches p.first = true
  gl : 0 ≤ p.glide ∧ p.glide ≤ 100
theorem modes_strOk {x : Str} (h : modes.contains x = true) : PyData.strOk x = true := by
  have h := List.contains_iff_mem.mp h
  simp only [modes, List.mem_cons, List.not_mem_nil, or_false] at h
  rcases h with rfl | rfl | rfl | rfl <;> decide +kernel
theorem tails_strOk {x : Str} (h : tails.contains x = true) : PyData.strOk x = true := by
  have h := List.contains_iff_mem.mp h
  simp only [tails, List.mem_cons, List.not_mem_nil, or_false] at h
  rcases h with rfl | rfl <;> decide +kernel
theorem passOk_of {L : Int} {p : Ps} (h : BodyOk L p) (a : nameOk p.name = true) (b : p.name ≠ "old") : passOk L p = true := by
  have r := h.rng
  unfold passOk
  rw [a, h.mode, h.tail, h.tok, decide_eq_false b, decide_eq_true r.1, decide_eq_true (show p.first ≤ L by omega), decide_eq_true r.2.1, decide_eq_true r.2.2, decide_eq_true h.tl, decide_eq_true h.gl.1, decide_eq_true h.gl.2]
  rfl
theorem sane_of {L : Int} {p : Ps} (h : BodyOk L p) (a : PyData.strOk p.name = true) (b : p.name.length ≤ 1000) : p.sane := ⟨a, modes_strOk h.mode, tails_strOk h.tail, len_le b⟩
theorem b_of_pass {L : Int} {p : Ps} (h : passOk L p = true) : BodyOk L p ∧ nameOk p.name = true ∧ p.name ≠ "old" := by
  unfold passOk at h
  simp only [Bool.and_eq_true, decide_eq_true_eq, Bool.not_eq_true', decide_eq_false_iff_not] at h
  obtain ⟨⟨⟨⟨⟨⟨⟨⟨a, b⟩, c⟩, d⟩, e⟩, f⟩, g⟩, i⟩, j⟩ := h
  exact ⟨⟨c, d, ⟨e.1.1, e.2.1, e.2.2⟩, f, g, i, j⟩, a, b⟩
theorem it_rng1 {ρ ρ1 : Cs} {l : Mo (List D)} {n : Nat} (h : l ρ = some ([.int n], ρ1)) (hn : n ≤ 1000000) : iFn rng1? l ρ = some ((List.range n).map fun k : Nat => D.int (0 + (k : Int)), ρ1) := by
  refine e_bd h ?_
  show mL (rng1? [.int n]) ρ1 = _
  rw [rng_ok hn]
  rfl
section
variable (C : Addr)
theorem v_law_pickI {m : Nat} {u : Pur} (hu : PurOk (m + 1) u) (is : List Int) (h0 : 0 < is.length := by simp) (h1 : is.length ≤ 1000 := by simp) : ∃ (i : Int) (u' : Pur), F_law_pick C (encPu u) [.lst (is.map .int)] = some (.int i, encPu u') ∧ i ∈ is ∧ PurOk m u' := by
  obtain ⟨x, u', e, hx, hu'⟩ := v_law_pick C hu (ds := is.map .int) (by simpa using h0) (by simpa using h1)
  obtain ⟨i, hi, rfl⟩ := List.mem_map.mp hx
  exact ⟨i, u', e, hi, hu'⟩
theorem v_law_pickS {m : Nat} {u : Pur} (hu : PurOk (m + 1) u) (is : List Str) (h0 : 0 < is.length := by simp) (h1 : is.length ≤ 1000 := by simp) : ∃ (i : Str) (u' : Pur), F_law_pick C (encPu u) [.lst (is.map .str)] = some (.str i, encPu u') ∧ i ∈ is ∧ PurOk m u' := by
  obtain ⟨x, u', e, hx, hu'⟩ := v_law_pick C hu (ds := is.map .str) (by simpa using h0) (by simpa using h1)
  obtain ⟨i, hi, rfl⟩ := List.mem_map.mp hx
  exact ⟨i, u', e, hi, hu'⟩
theorem mul_s {i j : Int} (h : i.natAbs ≤ 2 ^ 200) (h' : j.natAbs ≤ 2 ^ 200) : dMul (.int i) (.int j) = some (.int (i * j)) := mul_ok (Nat.le_trans h (Nat.pow_le_pow_right (by omega) (by omega))) (Nat.le_trans h' (Nat.pow_le_pow_right (by omega) (by omega)))
theorem v_law_touches {m n : Nat} {u : Pur} {first last wide : Int} (hu : PurOk (m + 4 * n) u) (hf : 0 ≤ first) (hf1 : first ≤ 1000000000000) (hl : last ≤ 1000000000000) (hn : n ≤ 100) (hw : 0 ≤ wide) (hw' : wide ≤ 1000000000000) :
    ∃ (ts : List (Int × Int)) (u' : Pur), F_law_touches C (encPu u) [.int first, .int last, .int n, .int wide] = some (.tup (ts.map encT), encPu u') ∧ touchesOk last ts first = true ∧ ts.length ≤ n ∧ PurOk m u' := by
  have : ∃ r e, runO 5 5 (B_law_touches C) (encPu u) [.int first, .int last, .int n, .int wide] = some (r, e) ∧ ∃ (ts : List (Int × Int)) (u' : Pur), r = .tup (ts.map encT) ∧ e = encPu u' ∧ touchesOk last ts first = true ∧ ts.length ≤ n ∧ PurOk m u' := by
    refine retOE ?_
    unfold B_law_touches
    refine_lift' st
    refine st_for (α := Nat) (enc := fun k : Nat => D.int (0 + (k : Int))) (xs := List.range n) (ρ1 := [.own true (encPu u), .dat (.int first), .dat (.int last), .dat (.int n), .dat (.int wide), .own false (.lst []), .dat (.int first), .no, .no, .no]) ?_
      (fun ys ρ => ∃ (u' : Pur) (ts : List (Int × Int)) (a : Int) (x y z : Cell), ρ = [.own true (encPu u'), .dat (.int first), .dat (.int last), .dat (.int n), .dat (.int wide), .own false (.lst (ts.map encT)), .dat (.int a), x, y, z] ∧ PurOk (m + 4 * (n - ys.length)) u' ∧ ts.length ≤ ys.length ∧ 0 ≤ a ∧ a ≤ 1000000000001 ∧ ∀ zs, touchesOk last (ts ++ zs) first = touchesOk last zs a)
      ⟨u, [], first, _, _, _, rfl, by simpa using hu, Nat.le_refl _, hf, by omega, fun _ => rfl⟩ ?_ ?_
    · refine it_rng1 (n := n) (ρ1 := [.own true (encPu u), .dat (.int first), .dat (.int last), .dat (.int n), .dat (.int wide), .own false (.lst []), .dat (.int first), .no, .no, .no]) ?_ (by omega)
      refine_lift' eva
    · rintro ys k zs ρ e ⟨u0, ts, a, x, y, z, rfl, hu0, htl, ha0, ha1, q⟩
      have hyn : ys.length < n := by
        have := congrArg List.length e
        rw [List.length_range, List.length_append, List.length_cons] at this
        omega
      have hu0 : PurOk (m + 4 * (n - (ys.length + 1)) + 1 + 1 + 1 + 1) u0 := hu0.mono (by omega)
      obtain ⟨i1, u1, e1, i10, i11, hu1⟩ := v_law_draw C hu0 (n := 4) (by decide) (by decide)
      obtain ⟨w1, u2, e2, hw1, hu2⟩ := v_law_pickI C hu1 [1, 1, wide]
      obtain ⟨i3, u3, e3, i30, i31, hu3⟩ := v_law_draw C hu2 (n := 3) (by decide) (by decide)
      obtain ⟨w4, u4, e4, hw4, hu4⟩ := v_law_pickI C hu3 [1, 1, wide]
      have hw1 : 0 ≤ w1 ∧ w1 ≤ 1000000000000 := by simp at hw1; omega
      have hw4 : 0 ≤ w4 ∧ w4 ≤ 1000000000000 := by simp at hw4; omega
      have m1 : dMul (.int i1) (.int w1) = some (.int (i1 * w1)) := mul_s (Nat.le_trans (by omega : i1.natAbs ≤ 2 ^ 60) (by decide)) (Nat.le_trans (by omega : w1.natAbs ≤ 2 ^ 60) (by decide))
      have m2 : dMul (.int i3) (.int w4) = some (.int (i3 * w4)) := mul_s (Nat.le_trans (by omega : i3.natAbs ≤ 2 ^ 60) (by decide)) (Nat.le_trans (by omega : w4.natAbs ≤ 2 ^ 60) (by decide))
      have p1 : 0 ≤ i1 * w1 := Int.mul_nonneg i10 hw1.1
      have p2 : 0 ≤ i3 * w4 := Int.mul_nonneg i30 hw4.1
      have hl1 : (ts.map encT).length < sizeLine := by rw [List.length_map]; exact Nat.lt_of_lt_of_le (by omega : ts.length < 200) (len_le (by omega))
      refine ⟨(), [.own true (encPu u0), .dat (.int first), .dat (.int last), .dat (.int n), .dat (.int wide), .own false (.lst (ts.map encT)), .dat (.int a), .dat (.int (0 + (k : Int))), y, z], rfl, ?_⟩
      refine st_one ?_
      refine_lift' st
      refine_lift' st [e1, e2, m1]
      refine_lift' st
      refine_lift' st [e3, e4, m2]
      refine_lift' st
      · intro h
        have h := of_decide_eq_true h
        refine_lift' st
        refine_lift' st [hl1]
        refine_lift' st
        refine ⟨u4, ts ++ [(a + i1 * w1, a + i1 * w1 + 1 + i3 * w4)], a + i1 * w1 + 1 + i3 * w4 + 1, .dat (.int (0 + (k : Int))), .dat (.int (a + i1 * w1)), .dat (.int (a + i1 * w1 + 1 + i3 * w4)), by rw [List.map_append]; rfl, ?_, ?_, by omega, by omega, fun zs' => ?_⟩
        · rw [List.length_append]; exact hu4
        · rw [List.length_append, List.length_append, List.length_singleton, List.length_singleton]; omega
        · rw [List.append_assoc, q]
          show touchesOk last ((a + i1 * w1, a + i1 * w1 + 1 + i3 * w4) :: zs') a = _
          rw [touchesOk]
          simp only
          rw [decide_eq_true (by omega), decide_eq_true (by omega), decide_eq_true (by omega), decide_eq_true (by omega)]
          rfl
      · intro h
        refine_lift' st
        refine ⟨u4, ts, a, .dat (.int (0 + (k : Int))), .dat (.int (a + i1 * w1)), .dat (.int (a + i1 * w1 + 1 + i3 * w4)), rfl, ?_, ?_, ha0, ha1, q⟩
        · rw [List.length_append]; exact hu4
        · rw [List.length_append]; omega
    · rintro ρ ⟨u', ts, a, x, y, z, rfl, hu', htl, _, _, q⟩
      refine_lift' st
      rw [List.length_range] at htl hu'
      refine ro_rt ⟨ts, u', rfl, rfl, ?_, htl, hu'.mono (by omega)⟩
      have := q []
      rw [List.append_nil] at this
      rw [this]
      rfl
  obtain ⟨r, e, h, ts, u', rfl, rfl, h2⟩ := this
  exact ⟨ts, u', h, h2⟩
end
end My
set_option exponentiation.threshold 20000
namespace My
open PySem PySem.Spec PyProof.Rows L2 DL
theorem max_eq (a b : Int) : dMax [.int a, .int b] = some (.int (if b > a then b else a)) := rfl
theorem div_s {i j : Int} (h : 0 < j) (h' : j ≤ 1000000000000) : dDiv (.int i) (.int j) = some (.int (i / j)) := div_ok h (Nat.le_trans (by omega : j.natAbs ≤ 2 ^ 60) (Nat.pow_le_pow_right (by decide) (by decide)))
theorem drawn_modes {x : Str} (h : x ∈ (["write", "latch", "touch", "touch", "trim"] : List Str)) : modes.contains x = true := by
  simp only [List.mem_cons, List.not_mem_nil, or_false] at h
  rcases h with rfl | rfl | rfl | rfl | rfl <;> decide +kernel
theorem drawn_tails {x : Str} (h : x ∈ (["stop", "stop", "on"] : List Str)) : tails.contains x = true := by
  simp only [List.mem_cons, List.not_mem_nil, or_false] at h
  rcases h with rfl | rfl | rfl <;> decide +kernel
end My
set_option exponentiation.threshold 20000
namespace My
open PySem PySem.Spec PyProof.Rows L2 DL
theorem cut_drop {α : Type} (xs : List α) (n : Nat) : DL.cutD xs (some (n : Int)) none = xs.drop n := by
  unfold DL.cutD
  rw [HT.sIx_none, HT.sIx_nat]
  by_cases h : n ≤ xs.length
  · rw [Nat.min_eq_left h, List.take_of_length_le (by rw [List.length_drop]; omega)]
  · rw [Nat.min_eq_right (by omega), List.drop_length, List.drop_of_length_le (by omega)]
    simp
theorem cut_take {α : Type} (xs : List α) (n : Nat) : DL.cutD xs none (some (n : Int)) = xs.take n := by
  unfold DL.cutD
  rw [HT.sIx_none, HT.sIx_nat, List.drop_zero, Nat.sub_zero]
  by_cases h : n ≤ xs.length
  · rw [Nat.min_eq_left h]
  · rw [Nat.min_eq_right (by omega), List.take_length, List.take_of_length_le (by omega)]
theorem sl_drop (ds : List D) (n : Nat) : dSl (.lst ds) (some (n : Int)) none = some (.lst (ds.drop n)) := by
  show some (D.lst (DL.cutD ds _ _)) = _
  rw [cut_drop]
theorem sl_take (ds : List D) (n : Nat) : dSl (.lst ds) none (some (n : Int)) = some (.lst (ds.take n)) := by
  show some (D.lst (DL.cutD ds _ _)) = _
  rw [cut_take]
theorem add_lst {a b : List D} (h : a.length + b.length ≤ 1000) : dAdd (.lst a) (.lst b) = some (.lst (a ++ b)) := if_pos (len_le h)
theorem ix_lst {ds : List D} {k : Nat} (h : k < ds.length) : dIx (.lst ds) (.int (0 + (k : Int))) = some ds[k] := by
  rw [Int.zero_add]
  exact atI_nat (by rw [List.getElem?_eq_getElem h])
theorem pow_ok {j : Nat} (h : j ≤ 100) : dPow (.int 10) (.int j) = some (.int (10 ^ j)) := by
  have : ((10 : Int) ^ (j : Int).toNat) = 10 ^ j := by rw [Int.toNat_natCast]
  rw [← this]
  exact if_pos (e := none) ⟨by omega, by omega, by decide⟩
theorem pow6 : dPow (.int 10) (.int 6) = some (.int 1000000) := pow_ok (j := 6) (by decide)
theorem pow12 : dPow (.int 10) (.int 12) = some (.int 1000000000000) := pow_ok (j := 12) (by decide)
theorem lc_nil {vs : List Nat} {g : D → Mo Unit} {t : Mo Bool} {e : Mo D} {acc : List D} {ρ : Cs} : goLc vs g t e [] acc ρ = some (acc, ρ) := rfl
theorem lc_cons {vs : List Nat} {g : D → Mo Unit} {e : Mo D} {acc xs : List D} {x y : D} {u : Unit} {ρ ρ1 ρ2 : Cs} {r : Option (List D × Cs)} (hg : g x (clr vs ρ) = some (u, ρ1)) (he : e ρ1 = some (y, ρ2)) (hl : acc.length < 1000) (hr : goLc vs g (mC true) e xs (acc ++ [y]) ρ2 = r) : goLc vs g (mC true) e (x :: xs) acc ρ = r := by
  unfold goLc
  simp only [hg, e_c, he]
  rw [if_pos (Nat.lt_of_lt_of_le hl (len_le (Nat.le_refl _)))]
  exact hr
theorem lc_of {vs : List Nat} {it : Mo (List D)} {g : D → Mo Unit} {t : Mo Bool} {e : Mo D} {ds acc : List D} {ρ ρ1 ρ' : Cs} (hi : it ρ = some (ds, ρ1)) (hf : free vs ρ1 = true) (h : goLc vs g t e ds [] (clr vs ρ1) = some (acc, ρ')) : mLc vs it g t e ρ = some (.lst acc, back vs ρ1 (clr vs ρ')) := by
  refine e_bd hi ?_
  rw [if_pos hf, h]
def rot {α : Type} (xs : List α) (n : Nat) : List α := xs.drop n ++ xs.take n
theorem rot_len {α : Type} (xs : List α) (n : Nat) : (rot xs n).length = xs.length := by
  unfold rot
  rw [List.length_append, List.length_drop, List.length_take]
  omega
theorem rot_map {α β : Type} (f : α → β) (xs : List α) (n : Nat) : rot (xs.map f) n = (rot xs n).map f := by
  unfold rot
  rw [List.map_append, List.map_drop, List.map_take]
theorem rot_perm {α : Type} (xs : List α) (n : Nat) : (rot xs n).Perm xs := by
  unfold rot
  refine List.perm_append_comm.trans ?_
  rw [List.take_append_drop]
/-- passes of a row: their names are the first of some -/
structure RowOk (L : Int) (ns : List Str) (ps : List Ps) : Prop where
  names : ps.map Ps.name = ns.take ps.length
  body : ∀ p ∈ ps, BodyOk L p
structure NmsOk (ns : List Str) : Prop where
  nd : ns.Nodup
  ok : ∀ x ∈ ns, nameOk x = true ∧ x ≠ "old" ∧ PyData.strOk x = true ∧ x.length ≤ 1000
theorem NmsOk.perm {ns ms : List Str} (h : NmsOk ns) (p : ms.Perm ns) : NmsOk ms := ⟨p.nodup_iff.mpr h.nd, fun x hx => h.ok x (p.mem_iff.mp hx)⟩
theorem RowOk.pss {L : Int} {ns : List Str} {ps : List Ps} (h : RowOk L ns ps) (hn : NmsOk ns) (hl : ps.length ≤ 8) : PssOk L ps := by
  have hm : ∀ p ∈ ps, p.name ∈ ns := fun p hp => List.mem_of_mem_take (by rw [← h.names]; exact List.mem_map.mpr ⟨p, hp, rfl⟩)
  refine ⟨fun p hp => ?_, fun p hp => ?_, ?_, hl⟩
  · obtain ⟨_, _, c, d⟩ := hn.ok _ (hm p hp)
    exact sane_of (h.body p hp) c d
  · obtain ⟨a, b, _, _⟩ := hn.ok _ (hm p hp)
    exact passOk_of (h.body p hp) a b
  · rw [h.names]
    exact hn.nd.sublist (List.take_sublist _ _)
theorem RowOk.snoc {L : Int} {ns : List Str} {ps : List Ps} {p : Ps} (h : RowOk L ns ps) (hb : BodyOk L p) (hl : ps.length < ns.length) (hn : p.name = ns[ps.length]) : RowOk L ns (ps ++ [p]) := by
  refine ⟨?_, fun q hq => ?_⟩
  · rw [List.map_append, h.names, List.length_append, List.length_singleton, List.take_add_one, List.getElem?_eq_getElem hl]
    simp [hn]
  · rcases List.mem_append.mp hq with hq | hq
    · exact h.body q hq
    · rw [List.mem_singleton.mp hq]; exact hb
end My
set_option exponentiation.threshold 20000
namespace My
open PySem PySem.Spec PyProof.Rows L2 DL
def allWords : List Str := ["a", "b", "olds", "z9", "write", "c", "on", "pass", "abcdefgh", "t0000001", "ol", "track", "ab", "aa"]
theorem allWords_ok : NmsOk allWords := ⟨by decide +kernel, by decide +kernel⟩
theorem NmsOk.take {ns : List Str} (h : NmsOk ns) (k : Nat) : NmsOk (ns.take k) := ⟨h.nd.sublist (List.take_sublist _ _), fun x hx => h.ok x (List.mem_of_mem_take hx)⟩
section
variable (C : Addr)
theorem v_law_words {m : Nat} {u : Pur} (hu : PurOk (m + 1) u) : ∃ (n : Nat) (u' : Pur), F_law_words C (encPu u) [] = some (.lst (((rot allWords n).take 8).map .str), encPu u') ∧ PurOk m u' := by
  obtain ⟨i1, u1, e1, i10, i11, hu1⟩ := v_law_draw C hu (n := 14) (by decide) (by decide)
  obtain ⟨n, rfl⟩ : ∃ n : Nat, i1 = n := ⟨i1.toNat, by omega⟩
  have hl : dLen [.lst (allWords.map D.str)] = some (.int 14) := rfl
  have s1 := sl_drop (allWords.map D.str) n
  have s2 := sl_take (allWords.map D.str) n
  have s3 : dAdd (.lst ((allWords.map D.str).drop n)) (.lst ((allWords.map D.str).take n)) = some (.lst ((rot allWords n).map D.str)) := by
    rw [add_lst, ← rot_map]
    · rfl
    · rw [List.length_drop, List.length_take, List.length_map]
      have : allWords.length = 14 := rfl
      omega
  have s4 := sl_take ((rot allWords n).map D.str) 8
  have : ∃ r e, runO 1 2 (B_law_words C) (encPu u) [] = some (r, e) ∧ r = .lst (((rot allWords n).take 8).map .str) ∧ e = encPu u1 := by
    refine retOE ?_
    unfold B_law_words
    refine_lift' st
    refine_lift' st [hl, e1]
    refine_lift' st [s1, s2, s3, s4]
    exact ro_rt ⟨by rw [List.map_take], rfl⟩
  obtain ⟨r, e, h, rfl, rfl⟩ := this
  exact ⟨n, u1, h, hu1⟩
theorem v_law_wide {m : Nat} {u : Pur} (hu : PurOk (m + 2) u) {n : Int} (h0 : 0 < n) : ∃ (i : Int) (u' : Pur), F_law_wide C (encPu u) [.int n] = some (.int i, encPu u') ∧ 0 ≤ i ∧ i < n ∧ PurOk m u' := by
  have hu : PurOk (m + 1 + 1) u := hu
  obtain ⟨i1, u1, e1, i10, i11, hu1⟩ := v_law_draw C hu (n := 1000000) (by decide) (by decide)
  obtain ⟨i2, u2, e2, i20, i21, hu2⟩ := v_law_draw C hu1 (n := 1000000) (by decide) (by decide)
  have ml := mul_s (i := i1) (j := 1000000) (Nat.le_trans (by omega : i1.natAbs ≤ 2 ^ 60) (by decide)) (by decide)
  have md := mod_ok (i := i1 * 1000000 + i2) (j := n) h0
  have ii : ∀ i : Int, dInt [.int i] = some (.int i) := fun i => rfl
  have : ∃ r e, runO 2 0 (B_law_wide C) (encPu u) [.int n] = some (r, e) ∧ r = .int ((i1 * 1000000 + i2) % n) ∧ e = encPu u2 := by
    refine retOE ?_
    unfold B_law_wide
    refine_lift' st [pow6, e1, e2, ml, ii _, md]
    exact ro_rt ⟨rfl, rfl⟩
  obtain ⟨r, e, h, rfl, rfl⟩ := this
  exact ⟨_, u2, h, Int.emod_nonneg _ (by omega), Int.emod_lt_of_pos _ h0, hu2⟩
set_option maxHeartbeats 4000000 in
theorem v_law_fader {m : Nat} {u : Pur} {L : Int} (x : Str) (hu : PurOk (m + 50) u) (hL : 1 ≤ L) (hL1 : L ≤ 1000000000000) :
    ∃ (p : Ps) (u' : Pur), F_law_fader C (encPu u) [.str x, .int L] = some (encP p, encPu u') ∧ p.name = x ∧ BodyOk L p ∧ PurOk m u' := by
  have : ∃ r e, runO 3 9 (B_law_fader C) (encPu u) [.str x, .int L] = some (r, e) ∧ ∃ (p : Ps) (u' : Pur), r = encP p ∧ e = encPu u' ∧ p.name = x ∧ BodyOk L p ∧ PurOk m u' := by
    refine retOE ?_
    unfold B_law_fader
    have hu : PurOk (m + 41 + 2 + 2 + 1 + 2 + 2) u := hu
    obtain ⟨w1, u1, e1, w10, w11, hu1⟩ := v_law_wide C hu (n := L) (by omega)
    obtain ⟨w2, u2, e2, w20, w21, hu2⟩ := v_law_wide C hu1 (n := L) (by omega)
    obtain ⟨f, u3, e3, hf, hu3⟩ := v_law_pickI C hu2 [0, w1, w2]
    have hf : 0 ≤ f ∧ f < L := by simp at hf; omega
    refine_lift' st [e1, e2, e3]
    obtain ⟨w4, u4, e4, w40, w41, hu4⟩ := v_law_wide C hu3 (n := L - f) (by omega)
    obtain ⟨w5, u5, e5, w50, w51, hu5⟩ := v_law_wide C hu4 (n := L - f) (by omega)
    have hlc : mLc [5] (iFn rng1? (aCons (mC (.int 2)) aNil)) (gNm 5) (mC true) (mOp dAdd (mOp dAdd (mVar 3) (mC (.int 1))) (mCallO (F_law_wide C) 0 (aCons (mOp dSub (mVar 2) (mVar 3)) aNil))) [.own true (encPu u3), .dat (.str x), .dat (.int L), .dat (.int f), .no, .no, .no, .no, .no, .no, .no, .no]
        = some (.lst [.int (f + 1 + w4), .int (f + 1 + w5)], [.own true (encPu u5), .dat (.str x), .dat (.int L), .dat (.int f), .no, .no, .no, .no, .no, .no, .no, .no]) := by
      have s1 : mOp dAdd (mOp dAdd (mVar 3) (mC (.int 1))) (mCallO (F_law_wide C) 0 (aCons (mOp dSub (mVar 2) (mVar 3)) aNil)) [.own true (encPu u3), .dat (.str x), .dat (.int L), .dat (.int f), .no, .dat (.int 0), .no, .no, .no, .no, .no, .no] = some (.int (f + 1 + w4), [.own true (encPu u4), .dat (.str x), .dat (.int L), .dat (.int f), .no, .dat (.int 0), .no, .no, .no, .no, .no, .no]) := by refine_lift' eva [e4]
      have s2 : mOp dAdd (mOp dAdd (mVar 3) (mC (.int 1))) (mCallO (F_law_wide C) 0 (aCons (mOp dSub (mVar 2) (mVar 3)) aNil)) [.own true (encPu u4), .dat (.str x), .dat (.int L), .dat (.int f), .no, .dat (.int 1), .no, .no, .no, .no, .no, .no] = some (.int (f + 1 + w5), [.own true (encPu u5), .dat (.str x), .dat (.int L), .dat (.int f), .no, .dat (.int 1), .no, .no, .no, .no, .no, .no]) := by refine_lift' eva [e5]
      exact lc_of (it_rng1 (n := 2) (ρ1 := [.own true (encPu u3), .dat (.str x), .dat (.int L), .dat (.int f), .no, .no, .no, .no, .no, .no, .no, .no]) rfl (by decide)) rfl (lc_cons rfl s1 (by simp) (lc_cons rfl s2 (by simp) lc_nil))
    have ad : dAdd (.lst [.int L]) (.lst [.int (f + 1 + w4), .int (f + 1 + w5)]) = some (.lst [.int L, .int (f + 1 + w4), .int (f + 1 + w5)]) := add_lst (by simp)
    refine st_set (e_op (a := mLst (aCons (mVar 2) aNil)) (x := .lst [.int L]) (ρ1 := [.own true (encPu u3), .dat (.str x), .dat (.int L), .dat (.int f), .no, .no, .no, .no, .no, .no, .no, .no]) (by refine_lift' eva) hlc ad) ?_
    obtain ⟨l, u6, e6, hl, hu6⟩ := v_law_pickI C hu5 [L, f + 1 + w4, f + 1 + w5]
    have hl : f + 1 ≤ l ∧ l ≤ L := by simp at hl; omega
    refine_lift' st [e6]
    have d1 := div_s (i := l - f) (j := 20) (by omega) (by omega)
    have mx := max_eq 1 ((l - f) / 20)
    have hq : (l - f) / 20 ≤ l - f := Int.ediv_le_self _ (by omega)
    generalize hn : (if (l - f) / 20 > 1 then (l - f) / 20 else 1) = n at mx
    have hn0 : 1 ≤ n ∧ n ≤ 1000000000000 := by split at hn <;> omega
    have hu6 : PurOk (m + 27 + 11 + 1 + 1) u6 := hu6.mono (by omega)
    obtain ⟨w, u7, e7, hw, hu7⟩ := v_law_pickI C hu6 [1, 1, n]
    have hw : 1 ≤ w ∧ w ≤ 1000000000000 := by simp at hw; omega
    refine_lift' st [d1, mx, e7]
    obtain ⟨i8, u8, e8, i80, i81, hu8⟩ := v_law_draw C hu7 (n := 7) (by decide) (by decide)
    obtain ⟨n8, rfl⟩ : ∃ n : Nat, i8 = n := ⟨i8.toNat, by omega⟩
    obtain ⟨ts, u9, e9, ht, htl, hu9⟩ := v_law_touches C (m := m + 1 + 1 + 1) (n := n8) (first := f) (last := l) (wide := w) (hu8.mono (by omega)) hf.1 (by omega) (by omega) (by omega) (by omega) hw.2
    refine_lift' st [e8, e9]
    obtain ⟨md, ua, ea, hmd, hua⟩ := v_law_pickS C hu9 ["write", "latch", "touch", "touch", "trim"]
    refine_lift' st [ea]
    obtain ⟨gl, ub, eb, hgl, hub⟩ := v_law_pickI C hua [0, 1, 2, 3, 7, 99, 100]
    obtain ⟨tl, uc, ec, htl9, huc⟩ := v_law_pickS C hub ["stop", "stop", "on"]
    have hgl : 0 ≤ gl ∧ gl ≤ 100 := by simp at hgl; omega
    refine_lift' st [eb, ec]
    refine_lift' st
    exact ro_rt ⟨⟨x, md, f, l, ts, gl, tl⟩, uc, rfl, rfl, rfl, ⟨drawn_modes hmd, drawn_tails htl9, ⟨hf.1, hl.1, hl.2⟩, by simp only; omega, ht, by simp only; omega⟩, huc⟩
  obtain ⟨r, e, h, p, u', rfl, rfl, h2⟩ := this
  exact ⟨p, u', h, h2⟩
end
end My
set_option exponentiation.threshold 20000
namespace My
open PySem PySem.Spec PyProof.Rows L2 DL
theorem range_at {n : Nat} {ys zs : List Nat} {k : Nat} (e : List.range n = ys ++ k :: zs) : k = ys.length ∧ ys.length < n := by
  have h1 := congrArg List.length e
  have h2 := congrArg (fun l => l[ys.length]?) e
  simp only [List.length_range, List.length_append, List.length_cons] at h1
  simp only [List.getElem?_append_right (Nat.le_refl _), Nat.sub_self, List.getElem?_cons_zero] at h2
  rw [List.getElem?_range (by omega)] at h2
  exact ⟨(Option.some.inj h2).symm, by omega⟩
theorem e_lcN {vs : List Nat} {it : Mo (List D)} {g : D → Mo Unit} {e : Mo D} {n : Nat} {ρ ρ1 : Cs} (hi : it ρ = some ((List.range n).map fun k : Nat => D.int (0 + (k : Int)), ρ1)) (hf : free vs ρ1 = true) (hn : n ≤ 1000) (I : Nat → List D → Cs → Prop) (h0 : I 0 [] (clr vs ρ1)) (hln : ∀ j acc ρ, I j acc ρ → acc.length = j)
    (hs : ∀ j acc ρ, j < n → I j acc ρ → ∃ u ρ1 y ρ3, g (.int (0 + (j : Int))) (clr vs ρ) = some (u, ρ1) ∧ e ρ1 = some (y, ρ3) ∧ I (j + 1) (acc ++ [y]) ρ3) : ∃ acc ρ', mLc vs it g (mC true) e ρ = some (.lst acc, back vs ρ1 (clr vs ρ')) ∧ I n acc ρ' := by
  obtain ⟨acc, ρ', h1, h2⟩ := e_lc (α := Nat) (vs := vs) (it := it) (g := g) (t := mC true) (e := e) (enc := fun k : Nat => D.int (0 + (k : Int))) (xs := List.range n) hi hf (fun ys acc ρ => I ys.length acc ρ) h0 (fun done acc ρ h => Nat.le_of_eq (hln _ _ _ h)) (by rw [List.length_range]; exact len_le hn) (by
    intro ys j zs acc ρ q h
    obtain ⟨rfl, hj⟩ := range_at q
    obtain ⟨u, ρ1, y, ρ3, a, b, c⟩ := hs ys.length acc ρ hj h
    exact ⟨u, ρ1, true, ρ1, a, rfl, (fun z => by cases z), fun _ => ⟨y, ρ3, b, by rw [List.length_append]; exact c⟩⟩)
  rw [List.length_range] at h2
  exact ⟨acc, ρ', h1, h2⟩
theorem st_forN {it : Mo (List D)} {g : D → Mo Unit} {n : Nat} {ρ ρ1 : Cs} {m k : Mo Fl} {P : Option (Fl × Cs) → Prop} (hi : it ρ = some ((List.range n).map fun k : Nat => D.int (0 + (k : Int)), ρ1)) (I : Nat → Cs → Prop) (h0 : I 0 ρ1)
    (hs : ∀ j ρ, j < n → I j ρ → ∃ u ρ1, g (.int (0 + (j : Int))) ρ = some (u, ρ1) ∧ BodyQ (I (j + 1)) (fun ρ' => P (k ρ')) P (m ρ1)) (hd : ∀ ρ, I n ρ → P (k ρ)) : P (sSeq (sFor it g m) k ρ) := by
  refine st_for (α := Nat) (enc := fun k : Nat => D.int (0 + (k : Int))) (xs := List.range n) hi (fun ys ρ => I ys.length ρ) h0 ?_ ?_
  · intro ys j zs ρ q h
    obtain ⟨rfl, hj⟩ := range_at q
    obtain ⟨u, ρ1, a, b⟩ := hs ys.length ρ hj h
    exact ⟨u, ρ1, a, by rw [List.length_append]; exact b⟩
  · intro ρ h
    rw [List.length_range] at h
    exact hd ρ h
section
variable (C : Addr)
set_option maxHeartbeats 2000000 in
theorem v_law_faders {m many : Nat} {u : Pur} {L : Int} (hu : PurOk (m + 50 * many + 2) u) (hm : many ≤ 8) (hL : 1 ≤ L) (hL1 : L ≤ 1000000000000) :
    ∃ (ps : List Ps) (u' : Pur), F_law_faders C (encPu u) [.int L, .int many] = some (.tup (ps.map encP), encPu u') ∧ (∃ n, RowOk L ((rot allWords n).take 8) ps) ∧ ps.length ≤ many ∧ PurOk m u' := by
  have : ∃ r e, runO 3 2 (B_law_faders C) (encPu u) [.int L, .int many] = some (r, e) ∧ ∃ (ps : List Ps) (u' : Pur), r = .tup (ps.map encP) ∧ e = encPu u' ∧ (∃ n, RowOk L ((rot allWords n).take 8) ps) ∧ ps.length ≤ many ∧ PurOk m u' := by
    refine retOE ?_
    unfold B_law_faders
    have hu : PurOk (m + 50 * many + 1 + 1) u := hu
    obtain ⟨n, u1, e1, hu1⟩ := v_law_words C hu
    refine_lift' st [e1]
    generalize hw : (rot allWords n).take 8 = ws
    have hwl : ws.length = 8 := by rw [← hw, List.length_take, rot_len]; rfl
    obtain ⟨i2, u2, e2, i20, i21, hu2⟩ := v_law_draw C hu1 (n := (many : Int) + 1) (by omega) (by omega)
    obtain ⟨k, rfl⟩ : ∃ n : Nat, i2 = n := ⟨i2.toNat, by omega⟩
    have hk : k ≤ many := by omega
    obtain ⟨acc, ρ', hlc, u3, ps, x, rfl, rfl, hps, hrow, hu3⟩ := e_lcN (vs := [4]) (it := iFn rng1? (aCons (mCallO (F_law_draw C) 0 (aCons (mOp dAdd (mVar 2) (mC (.int 1))) aNil)) aNil)) (g := gNm 4) (e := mCallO (F_law_fader C) 0 (aCons (mOp dIx (mVar 3) (mVar 4)) (aCons (mVar 1) aNil))) (n := k)
      (ρ := [.own true (encPu u1), .dat (.int L), .dat (.int many), .dat (.lst (ws.map D.str)), .no]) (ρ1 := [.own true (encPu u2), .dat (.int L), .dat (.int many), .dat (.lst (ws.map D.str)), .no])
      (by refine it_rng1 (n := k) ?_ (by omega); refine_lift' eva [e2]) rfl (by omega)
      (fun j acc ρ => ∃ (u3 : Pur) (ps : List Ps) (x : Cell), ρ = [.own true (encPu u3), .dat (.int L), .dat (.int many), .dat (.lst (ws.map D.str)), x] ∧ acc = ps.map encP ∧ ps.length = j ∧ RowOk L ws ps ∧ PurOk (m + 50 * (many - j)) u3)
      ⟨u2, [], .no, rfl, rfl, rfl, ⟨rfl, fun p h => by cases h⟩, by simpa using hu2⟩
      (fun j acc ρ ⟨_, ps, _, _, h, h1, _⟩ => by rw [h, List.length_map, h1])
      (by
        rintro j acc ρ hj ⟨u3, ps, x, rfl, rfl, hps, hrow, hu3⟩
        have hix : dIx (.lst (ws.map D.str)) (.int (0 + (j : Int))) = some (.str (ws[j]'(by omega))) := by
          rw [ix_lst (by rw [List.length_map]; omega), List.getElem_map]
        obtain ⟨p, u4, e4, hn, hb, hu4⟩ := v_law_fader C (m := m + 50 * (many - (j + 1))) (ws[j]'(by omega)) (hu3.mono (by omega)) hL hL1
        exact ⟨(), [.own true (encPu u3), .dat (.int L), .dat (.int many), .dat (.lst (ws.map D.str)), .dat (.int (0 + (j : Int)))], encP p, [.own true (encPu u4), .dat (.int L), .dat (.int many), .dat (.lst (ws.map D.str)), .dat (.int (0 + (j : Int)))], rfl, by refine_lift' eva [hix, e4], u4, ps ++ [p], _, rfl, by rw [List.map_append]; rfl, by rw [List.length_append, hps]; rfl, hrow.snoc hb (by omega) (by rw [hn]; simp only [hps]), hu4⟩)
    refine st_one ?_
    have hlc' : mLc [4] (iFn rng1? (aCons (mCallO (F_law_draw C) 0 (aCons (mOp dAdd (mVar 2) (mC (.int 1))) aNil)) aNil)) (gNm 4) (mC true) (mCallO (F_law_fader C) 0 (aCons (mOp dIx (mVar 3) (mVar 4)) (aCons (mVar 1) aNil))) [.own true (encPu u1), .dat (.int L), .dat (.int many), .dat (.lst (ws.map D.str)), .no] = some (.lst (ps.map encP), [.own true (encPu u3), .dat (.int L), .dat (.int many), .dat (.lst (ws.map D.str)), .no]) := hlc
    refine st_ret (e_fn (f := dTuple) (z := .tup (ps.map encP)) (e_acons hlc' e_anil) rfl) ?_
    exact ro_rt ⟨ps, u3, rfl, rfl, ⟨n, by rw [hw]; exact hrow⟩, by omega, hu3.mono (by omega)⟩
  obtain ⟨r, e, h, ps, u', rfl, rfl, h2⟩ := this
  exact ⟨ps, u', h, h2⟩
theorem add_tup {a b : List D} (h : a.length + b.length ≤ 1000) : dAdd (.tup a) (.tup b) = some (.tup (a ++ b)) := if_pos (len_le h)
theorem BodyOk.glide {L : Int} {p : Ps} (h : BodyOk L p) {g : Int} (h0 : 0 ≤ g) (h1 : g ≤ 100) : BodyOk L { p with glide := g } := ⟨h.mode, h.tail, h.rng, h.tl, h.tok, h0, h1⟩
end
end My
set_option exponentiation.threshold 20000
namespace My
open PySem PySem.Spec PyProof.Rows L2 DL
section
variable (C : Addr)
theorem eq_int (a b : Int) : dEq (.int a) (.int b) = some (.bl (a == b)) := rfl
end
end My
set_option exponentiation.threshold 20000
namespace My
open PySem PySem.Spec PyProof.Rows L2 DL
theorem PssOk.sub {L : Int} {ps qs : List Ps} (h : PssOk L ps) (s : qs.Sublist ps) : PssOk L qs := ⟨fun p hp => h.sane p (s.subset hp), fun p hp => h.ok p (s.subset hp), h.nd.sublist (s.map _), Nat.le_trans s.length_le h.len⟩
end My
set_option exponentiation.threshold 20000
namespace My
open PySem PySem.Spec PyProof.Rows L2 DL
theorem gd_t (p : Int × Int) : Gd 1 (encT p) := gd_tup (n := 0) fun d hd => by
  simp at hd
  rcases hd with rfl | rfl
  · exact gd_int _ _
  · exact gd_int _ _
theorem Gd.up {m n : Nat} {d : D} (h : Gd m d) (k : m ≤ n) : Gd n d := ⟨h.p, h.l, Nat.le_trans h.dp k, h.e⟩
theorem gd_p {p : Ps} (h : p.sane) : Gd 3 (encP p) := gd_tup (n := 2) fun d hd => by
  simp only [List.mem_cons, List.not_mem_nil, or_false] at hd
  rcases hd with rfl | rfl | rfl | rfl | rfl | rfl | rfl
  · exact gd_str _ h.name
  · exact gd_str _ h.mode
  · exact gd_int _ _
  · exact gd_int _ _
  · exact gd_tup (n := 1) fun d hd => by
      obtain ⟨t, _, rfl⟩ := List.mem_map.mp hd
      exact gd_t t
  · exact gd_int _ _
  · exact gd_str _ h.tail
theorem gd_ps {ps : List Ps} (h : ∀ p ∈ ps, p.sane) : Gd 4 (.tup (ps.map encP)) := gd_tup (n := 3) fun d hd => by
  obtain ⟨p, hp, rfl⟩ := List.mem_map.mp hd
  exact gd_p (h p hp)
theorem eqs_of {n : Nat} {d e : D} (h : Gd n d) (h' : Gd n e) (hn : n ≤ 64) : eqs d e = some (PyData.eqv (toP d) (toP e)) := by
  unfold eqs
  have s : SeqAt.shaped (toP d) = true := by
    unfold SeqAt.shaped
    rw [h.l, decide_eq_true (Nat.le_trans h.dp hn)]
    rfl
  have s' : SeqAt.shaped (toP e) = true := by
    unfold SeqAt.shaped
    rw [h'.l, decide_eq_true (Nat.le_trans h'.dp hn)]
    rfl
  rw [if_pos ⟨h.p, h'.p, s, s'⟩]
theorem eq_nil {n : Nat} {ds : List D} (h : Gd n (.tup ds)) (hn : n ≤ 64) : dEq (.tup ds) (.tup []) = some (.bl ds.isEmpty) := by
  show (eqs _ _).map _ = _
  rw [eqs_of h ((gd_tup (n := 0) (ds := []) fun d hd => by cases hd).up (n := n + 1) (by omega) |> fun z => ⟨z.p, z.l, by simp [toP, toPs, PyData.depth, PyData.depthAll] at *; have := h.dp; simp only [toP, PyData.depth] at this; omega, z.e⟩) hn]
  cases ds with
  | nil => simp [toP, toPs, PyData.eqv, PyData.eqvAll]
  | cons d r => simp [toP, toPs, PyData.eqv, PyData.eqvAll]
end My
set_option exponentiation.threshold 20000
namespace My
open PySem PySem.Spec PyProof.Rows L2 DL
theorem shs {n k : Nat} {ds : List D} (h : ∀ d ∈ ds, L2.Sh n k (toP d)) : L2.ShA (ds.length * (n + 1)) k (toPs ds) := by
  rw [toPs_map]
  have := L2.ShA.all (n := n) (k := k) (ds := ds.map toP) fun d hd => by
    obtain ⟨x, hx, rfl⟩ := List.mem_map.mp hd
    exact h x hx
  rwa [List.length_map] at this
theorem repr_lst {n k m : Nat} {ds : List D} (g : Gd m (.lst ds)) (s : L2.Sh n k (toP (.lst ds))) (hn : n ≤ 700000) (hk : k ≤ 60) : dRepr [.lst ds] = some (.str (toP (.lst ds)).shown) := by
  have h := s.shown hn
  have hs := s.sh
  have hp := g.p
  refine if_pos ⟨by simpa [DL.plain] using hp, by simpa [toP, PyData.showable] using hs, Nat.le_trans s.dp hk, h⟩
theorem ne_str (x : Str) : dNe (.str x) (.str x) = some (.bl false) := by
  show some (D.bl (!decide (x = x))) = _
  rw [decide_eq_true rfl]; rfl
theorem name8 {x : Str} (h : nameOk x = true) : x.length ≤ 8 := by
  unfold nameOk at h
  simp only [Bool.and_eq_true, decide_eq_true_eq] at h
  exact h.1.1.2
end My
set_option exponentiation.threshold 20000
namespace My
open PySem PySem.Spec PyProof.Rows L2 DL
theorem pass_text {L : Int} {p : Ps} (h : passOk L p = true) : L2.isPass L (toP (encP p)) = true := by
  obtain ⟨b, hn, ho⟩ := b_of_pass h
  have r := b.rng
  have ht : ∀ (ts : List (Int × Int)) (lo : Int), L2.touchesFrom p.last (toPs (ts.map encT)) lo = touchesOk p.last ts lo := by
    intro ts
    induction ts with
    | nil => intro lo; rfl
    | cons t r ih =>
      intro lo
      show (L2.isStretch (toP (encT t)) lo p.last && L2.touchesFrom p.last (toPs (r.map encT)) (t.2 + 1)) = _
      rw [ih, touchesOk]
      congr 1
      show (decide (lo ≤ t.1 ∧ t.1 ≤ p.last) && decide (t.1 + 1 ≤ t.2 ∧ t.2 ≤ p.last)) = _
      rw [Bool.eq_iff_iff]
      simp
  have e1 : L2.nameOk p.name = true := by
    rw [← hn]
    unfold L2.nameOk nameOk
    rw [Bool.and_assoc (decide (1 ≤ p.name.length) && decide (p.name.length ≤ 8))]
    rfl
  have e2 : L2.touchesOk (.tuple (toPs (p.touches.map encT))) p.first p.last = true := by
    show (decide ((toPs (p.touches.map encT)).length ≤ 6) && L2.touchesFrom p.last (toPs (p.touches.map encT)) p.first) = true
    rw [ht, b.tok, toPs_map, List.length_map, List.length_map, decide_eq_true b.tl]
    rfl
  show ((L2.nameOk p.name && !decide (p.name = "old")) && ((L2.modes.contains p.mode && L2.tails.contains p.tail) && ((decide (0 ≤ p.first ∧ p.first ≤ L) && decide (p.first + 1 ≤ p.last ∧ p.last ≤ L)) && (L2.touchesOk (.tuple (toPs (p.touches.map encT))) p.first p.last && decide (0 ≤ p.glide ∧ p.glide ≤ 100))))) = true
  have m1 : L2.modes.contains p.mode = true := b.mode
  have m2 : L2.tails.contains p.tail = true := b.tail
  rw [e1, e2, m1, m2, decide_eq_false ho, decide_eq_true (show 0 ≤ p.first ∧ p.first ≤ L by omega), decide_eq_true (show p.first + 1 ≤ p.last ∧ p.last ≤ L by omega), decide_eq_true b.gl]
  rfl
def rowD (p : Ps) : Str := L2.rowT (toP (encP p))
def wordsD (p : Ps) : List Str := [("pass" : Str), p.name, p.mode, L2.numT p.first.toNat, L2.numT p.last.toNat, L2.numT p.glide.toNat, p.tail] ++ p.touches.map fun t => L2.stT t.1.toNat t.2.toNat
theorem wordsD_eq (p : Ps) : L2.rowW (toP (encP p)) = wordsD p := by
  show [("pass" : Str), p.name, p.mode, L2.numT p.first.toNat, L2.numT p.last.toNat, L2.numT p.glide.toNat, p.tail] ++ (toPs (p.touches.map encT)).map L2.stW = _
  unfold wordsD
  rw [toPs_map, List.map_map, List.map_map]
  rfl
theorem rowD_eq (p : Ps) : Txt.join " " (wordsD p) = rowD p := by
  rw [← wordsD_eq]; rfl
/-- numbers within what is read -/
structure NumOk (i : Int) : Prop where
  lo : 0 ≤ i
  hi : i < 10000000000000
theorem NumOk.nat {i : Int} (h : NumOk i) : i.toNat < 10 ^ 13 := by
  have := h.lo; have := h.hi
  omega
theorem str_num {i : Int} (h : NumOk i) : dStr [.int i] = some (.str (L2.numT i.toNat)) := by
  have h0 := h.lo
  have := L2.log_small h.nat
  have e : ((i.toNat : Nat) : Int) = i := by omega
  rw [e] at this
  have : dStr [.int i] = some (.str (toString i)) := if_pos this
  rw [this]
  unfold L2.numT
  rw [e]
theorem fmt_num {i : Int} (h : NumOk i) : dFmt (.int i) = some (.str (L2.numT i.toNat)) := by
  have h0 := h.lo
  have := L2.log_small h.nat
  have e : ((i.toNat : Nat) : Int) = i := by omega
  rw [e] at this
  have : dFmt (.int i) = some (.str (toString i)) := if_pos this
  rw [this]
  unfold L2.numT
  rw [e]
theorem e_jcons {ρ : Cs} {m : Mo D} {ms : List (Mo D)} {acc y : Str} {r : Option (Str × Cs)} (h : m ρ = some (.str y, ρ)) (hl : (acc ++ y).length ≤ 1000) (hr : mJs ms (acc ++ y) ρ = r) : mJs (m :: ms) acc ρ = r := by
  unfold mJs
  refine e_bd h (e_bd (e_l (v := y) rfl) ?_)
  rw [if_pos (len_le hl)]
  exact hr
theorem touch_num {L : Int} {p : Ps} (h : passOk L p = true) (hL : L ≤ 1000000000000) : ∀ t ∈ p.touches, NumOk t.1 ∧ NumOk t.2 := by
  obtain ⟨b, _, _⟩ := b_of_pass h
  have r := b.rng
  have : ∀ (ts : List (Int × Int)) (lo : Int), 0 ≤ lo → touchesOk p.last ts lo = true → ∀ t ∈ ts, NumOk t.1 ∧ NumOk t.2 := by
    intro ts
    induction ts with
    | nil => intro lo _ _ t ht; cases ht
    | cons a s ih =>
      intro lo h0 h1 t ht
      rw [touchesOk] at h1
      simp only [Bool.and_eq_true, decide_eq_true_eq] at h1
      obtain ⟨⟨⟨c1, c2⟩, c3, c4⟩, h1⟩ := h1
      rcases List.mem_cons.mp ht with rfl | ht
      · exact ⟨⟨by omega, by omega⟩, ⟨by omega, by omega⟩⟩
      · exact ih (a.2 + 1) (by omega) h1 t ht
  exact this p.touches p.first r.1 b.tok
section
variable (C : Addr)
theorem strs_map : ∀ ws : List Str, DL.strs? (ws.map D.str) = some ws
  | [] => rfl
  | w :: ws => by
    rw [List.map_cons, DL.strs?, strs_map ws]
    rfl
theorem join_ok {y : Str} {ws : List Str} (h : (ws.map (·.length)).sum + ws.length * y.length ≤ 16777216) : dJoin (.str y) (.lst (ws.map D.str)) = some (.str (Txt.join y ws)) := by
  show (DL.strs? (ws.map D.str)).bind _ = _
  rw [strs_map]
  exact if_pos h
theorem e_str {ρ ρ1 ρ2 : Cs} {a b : Mo D} {x : Str} {y z : D} {g : D → D → Option D} (ha : a ρ = some (.str x, ρ1)) (hb : b ρ1 = some (y, ρ2)) (hg : g (.str x) y = some z) : mStr g a b ρ = some (z, ρ2) := by
  refine e_bd ha ?_
  rw [if_pos (show (str? (D.str x)).isSome = true from rfl)]
  exact e_bd hb (e_l hg)
set_option maxHeartbeats 2000000 in
theorem v_row_of {L : Int} {p : Ps} (h : passOk L p = true) (hL : L ≤ 1000000000000) : F_row_of C [encP p] = some (.str (rowD p)) := by
  obtain ⟨b, _, _⟩ := b_of_pass h
  have r := b.rng
  have g := b.gl
  have n1 := str_num (i := p.first) ⟨by omega, by omega⟩
  have n2 := str_num (i := p.last) ⟨by omega, by omega⟩
  have n3 := str_num (i := p.glide) ⟨by omega, by omega⟩
  have rw := L2.row_words hL (pass_text h)
  rw [wordsD_eq] at rw
  have jo := join_ok (y := " ") (ws := wordsD p) (by
    have h2 := L2.sum_le (l := (wordsD p).map (·.length)) (n := 27) (fun x hx => by
      obtain ⟨w, hw, rfl⟩ := List.mem_map.mp hx
      exact rw.2 w hw)
    rw [List.length_map] at h2
    have h3 : (" " : Str).length = 1 := by decide +kernel
    rw [h3]
    have := rw.1
    omega)
  rw [rowD_eq] at jo
  have ad : dAdd (.lst [.str "pass", .str p.name, .str p.mode, .str (L2.numT p.first.toNat), .str (L2.numT p.last.toNat), .str (L2.numT p.glide.toNat), .str p.tail]) (.lst (p.touches.map fun t => D.str (L2.stT t.1.toNat t.2.toNat))) = some (.lst ((wordsD p).map D.str)) := by
    rw [add_lst (by rw [List.length_map]; have := b.tl; simp; omega)]
    unfold wordsD
    rw [List.map_append, List.map_map]
    rfl
  refine retF ?_
  unfold B_row_of
  refine st_asg (d := encP p) (ρ1 := [.dat (encP p), .no, .no, .no, .no, .no, .no, .no, .no, .no, .no]) (ρ2 := [.dat (encP p), .dat (.str p.name), .dat (.str p.mode), .dat (.int p.first), .dat (.int p.last), .dat (.tup (p.touches.map encT)), .dat (.int p.glide), .dat (.str p.tail), .no, .no, .no]) rfl rfl ?_
  refine_lift' st [n1, n2, n3]
  generalize hw0 : D.lst [.str "pass", .str p.name, .str p.mode, .str (L2.numT p.first.toNat), .str (L2.numT p.last.toNat), .str (L2.numT p.glide.toNat), .str p.tail] = w0 at ad ⊢
  have hl := e_lcm (α := Int × Int) (vs := [9, 10]) (it := iSeq seqT (mVar 5)) (g := gTp 2 (gsCons (gNm 9) (gsCons (gNm 10) gsNil))) (e := mFs [mUn dFmt (mVar 9), mC (.str "-"), mUn dFmt (mVar 10)]) (enc := encT) (f := fun t => .str (L2.stT t.1.toNat t.2.toNat)) (xs := p.touches) (ρ := [.dat (encP p), .dat (.str p.name), .dat (.str p.mode), .dat (.int p.first), .dat (.int p.last), .dat (.tup (p.touches.map encT)), .dat (.int p.glide), .dat (.str p.tail), .dat w0, .no, .no]) (ρ1 := [.dat (encP p), .dat (.str p.name), .dat (.str p.mode), .dat (.int p.first), .dat (.int p.last), .dat (.tup (p.touches.map encT)), .dat (.int p.glide), .dat (.str p.tail), .dat w0, .no, .no]) rfl rfl (len_le (by have := b.tl; omega)) (by
    intro t ht
    obtain ⟨t1, t2⟩ := touch_num h hL t ht
    have f1 := fmt_num t1
    have f2 := fmt_num t2
    have q1 := (L2.numT_len t1.nat).2
    have q2 := (L2.numT_len t2.nat).2
    have q0 : Str.empty.length = 0 := rfl
    have q3 : ("-" : Str).length = 1 := by decide +kernel
    refine ⟨(), [.dat (encP p), .dat (.str p.name), .dat (.str p.mode), .dat (.int p.first), .dat (.int p.last), .dat (.tup (p.touches.map encT)), .dat (.int p.glide), .dat (.str p.tail), .dat w0, .dat (.int t.1), .dat (.int t.2)], rfl, [.dat (encP p), .dat (.str p.name), .dat (.str p.mode), .dat (.int p.first), .dat (.int p.last), .dat (.tup (p.touches.map encT)), .dat (.int p.glide), .dat (.str p.tail), .dat w0, .dat (.int t.1), .dat (.int t.2)], ?_, rfl⟩
    rw [← L2.stT_eq]
    refine e_bd (v := Str.empty ++ L2.numT t.1.toNat ++ ("-" : Str) ++ L2.numT t.2.toNat) (ρ1 := [.dat (encP p), .dat (.str p.name), .dat (.str p.mode), .dat (.int p.first), .dat (.int p.last), .dat (.tup (p.touches.map encT)), .dat (.int p.glide), .dat (.str p.tail), .dat w0, .dat (.int t.1), .dat (.int t.2)]) ?_ rfl
    refine e_jcons (e_un (e_var rfl) f1) (by rw [L2.app_len]; omega) (e_jcons e_c (by rw [L2.app_len, L2.app_len]; omega) (e_jcons (e_un (e_var rfl) f2) (by rw [L2.app_len, L2.app_len, L2.app_len]; omega) rfl))) rfl
  refine st_one ?_
  refine st_ret (e_str e_c (e_op (e_var (i := 8) (d := w0) rfl) hl ad) jo) ?_
  exact rq_rt rfl
end
end My
set_option exponentiation.threshold 20000
namespace My
open PySem PySem.Spec PyProof.Rows L2 DL
section
variable (C : Addr)
theorem none_in {n : Nat} {ds : List D} (h : Gd n (.lst ds)) (hn : n ≤ 64) (hz : ∀ d ∈ ds, PyData.eqv (toP d) .none = false) : dIn .non (.lst ds) = some (.bl false) := by
  have hs : SeqAt.shaped (toP (.lst ds)) = true := by
    unfold SeqAt.shaped
    rw [h.l, decide_eq_true (Nat.le_trans h.dp hn)]
    rfl
  have hp : DL.plain (.lst ds) = true := h.p
  have h0 : SeqAt.shaped (toP .non) = true := by simp [SeqAt.shaped, toP, PyData.canLay0, PyData.depth]
  have ha : ((toPs ds).any fun e => PyData.eqv e (toP .non)) = false := by
    rw [toPs_map, List.any_map, List.any_eq_false]
    intro d hd
    have := hz d hd
    simp only [Function.comp]
    show ¬ PyData.eqv (toP d) .none = true
    rw [this]
    decide
  have : dInB .non (.lst ds) = some false := by
    rw [← ha]
    exact if_pos ⟨rfl, hp, h0, hs⟩
  unfold dIn
  rw [this]
  rfl
set_option maxHeartbeats 2000000 in
theorem v_number_in {i : Int} (h : NumOk i) : F_number_in C [.str (L2.numT i.toNat)] = some (.int i) := by
  have h0 := h.lo
  have hn := h.nat
  have lz := L2.numT_len hn
  have tz := L2.numT_tl i.toNat
  have iz : PySem.intText? (L2.numT i.toNat) = some ((i.toNat : Nat) : Int) := TL.int_num (Nat.le_trans (TL.numL_len (k := 13) (by decide) hn) (by decide))
  rw [show ((i.toNat : Nat) : Int) = i by omega] at iz
  have zz : ∀ r, TL.numL i.toNat = 48 :: r → L2.numT i.toNat = "0" := fun r h => by rw [L2.numL_head i.toNat r h]; exact L2.numT_zero
  have dz : ∀ c ∈ TL.numL i.toNat, 48 ≤ c ∧ c ≤ 57 := fun c hc => TL.numL_digits i.toNat c hc
  have nz := TL.numL_ne i.toNat
  generalize L2.numT i.toNat = z at *
  rw [← tz] at zz dz nz
  have hx : z.length ≤ sizeLine := len_le (by omega)
  have hl : dLen [.str z] = some (.int z.length) := if_pos hx
  obtain ⟨c, r, hc⟩ : ∃ c r, z.cps.toList = c :: r := by
    cases h : z.cps.toList with
    | nil => exact absurd h nz
    | cons c r => exact ⟨c, r, rfl⟩
  have hix : dIx (.str z) (.int 0) = some (.str ⟨#[c]⟩) := by
    have h : dIx (.str z) (.int 0) = (atI z.cps.toList 0).map fun c => D.str ⟨#[c]⟩ := if_pos hx
    rw [h, hc, show atI (c :: r) 0 = some c from atI_nat (j := 0) rfl]
    rfl
  have hlc : mLc [1] (iSeq seqS (mVar 0)) (gNm 1) (mC true) (mOp dIn (mVar 1) (mC (.str "0123456789"))) [.dat (.str z), .no] = some (.lst (z.cps.toList.map fun c => .bl (decide (c ∈ ("0123456789" : Str).cps.toList))), [.dat (.str z), .no]) := by
    refine e_lcm (α := Nat) (vs := [1]) (ρ1 := [.dat (.str z), .no]) (enc := fun c => D.str ⟨#[c]⟩) (xs := z.cps.toList) (f := fun c => .bl (decide (c ∈ ("0123456789" : Str).cps.toList))) rfl rfl (len_le ?_) ?_ rfl
    · show z.length ≤ 1000
      omega
    · intro c _
      exact ⟨(), [.dat (.str z), .dat (.str ⟨#[c]⟩)], rfl, [.dat (.str z), .dat (.str ⟨#[c]⟩)], by refine_lift' ev [in_str c "0123456789"], rfl⟩
  have hall := all_map (fun c => decide (c ∈ ("0123456789" : Str).cps.toList)) z.cps.toList
  have hat : (z.cps.toList.all fun c => decide (c ∈ ("0123456789" : Str).cps.toList)) = true := List.all_eq_true.mpr fun c hc => decide_eq_true (L2.digit_in c (dz c hc).1 (dz c hc).2)
  rw [hat] at hall
  have hi : dInt [.str z] = some (.int i) := by
    have : dInt [.str z] = (PySem.intText? z).map .int := if_pos (by omega)
    rw [this, iz]
    rfl
  have q1 : dEq (.str ⟨#[c]⟩) (.str "0") = some (.bl (decide ((⟨#[c]⟩ : Str) = "0"))) := rfl
  have q2 : dNe (.str z) (.str "0") = some (.bl (!decide (z = "0"))) := rfl
  have hboth : (decide ((⟨#[c]⟩ : Str) = "0") && !decide (z = "0")) = false := by
    by_cases e : (⟨#[c]⟩ : Str) = "0"
    · have : c = 48 := by
        have h1 := congrArg (fun s : Str => s.cps.toList) e
        have h2 : ("0" : Str).cps.toList = [48] := by decide +kernel
        simp only [h2] at h1
        simpa using h1
      subst this
      rw [decide_eq_true (zz r hc), Bool.and_comm]
      rfl
    · rw [decide_eq_false e]
      rfl
  refine retF ?_
  unfold B_number_in
  refine st_if (p := false) (ρ1 := [.dat (.str z), .no]) (e_not (p := true) (e_tst ?_)) (fun z => by cases z) (fun _ => ?_)
  · have : (decide ((1 : Int) ≤ z.length) && decide ((z.length : Int) ≤ 13)) = true := by
      rw [decide_eq_true (by omega), decide_eq_true (by omega)]
      rfl
    rw [← this]
    exact e_chain (e_as e_c rfl rfl) (by refine_lift' eva [hl]) rfl (by refine_lift' eva) rfl
  · refine_lift' st
    refine st_if (p := false) (ρ1 := [.dat (.str z), .no]) (e_not (p := true) (e_tst (e_fn (e_acons hlc e_anil) hall))) (fun z => by cases z) (fun _ => ?_)
    refine_lift' st
    refine st_if (p := false) (ρ1 := [.dat (.str z), .no]) ?_ (fun z => by cases z) (fun _ => ?_)
    · rw [← hboth]
      exact e_and (by refine_lift' eva [hix, q1]) (by refine_lift' eva [q2])
    · refine_lift' st
      refine_lift' st [hi]
      exact rq_rt rfl
end
end My
set_option exponentiation.threshold 20000
namespace My
open PySem PySem.Spec PyProof.Rows L2 DL
section
variable (C : Addr)
theorem split_ok {x y : Str} (h : x.length ≤ 990) (hy : (y.length == 0) = false) : dSplit (.str x) (.str y) = some (.lst ((Txt.split x y).map D.str)) := if_pos ⟨hy, len_le (by omega)⟩
theorem ints_none (is : List Int) : dIn .non (.lst (is.map D.int)) = some (.bl false) := none_in (n := 1) (gd_lst (n := 0) fun d hd => by
  obtain ⟨i, _, rfl⟩ := List.mem_map.mp hd
  exact gd_int 0 i) (by decide) fun d hd => by
  obtain ⟨i, _, rfl⟩ := List.mem_map.mp hd
  simp [toP, PyData.eqv]
theorem pairs_none (ts : List (Int × Int)) : dIn .non (.lst (ts.map encT)) = some (.bl false) := none_in (n := 2) (gd_lst (n := 1) fun d hd => by
  obtain ⟨i, _, rfl⟩ := List.mem_map.mp hd
  exact gd_t i) (by decide) fun d hd => by
  obtain ⟨i, _, rfl⟩ := List.mem_map.mp hd
  simp [encT, toP, PyData.eqv]
set_option maxHeartbeats 1000000 in
theorem v_stretch_in {a b : Int} (ha : NumOk a) (hb : NumOk b) : F_stretch_in C [.str (L2.stT a.toNat b.toNat)] = some (encT (a, b)) := by
  have sp := split_ok (x := L2.stT a.toNat b.toNat) (y := "-") (by have := L2.stT_len ha.nat hb.nat; omega) (by decide +kernel)
  rw [L2.stT_split] at sp
  have n1 := v_number_in C ha
  have n2 := v_number_in C hb
  generalize L2.stT a.toNat b.toNat = z at sp
  have hl := e_lcm (α := Int) (vs := [2]) (it := iSeq seqL (mStr dSplit (mVar 0) (mC (.str "-")))) (g := gNm 2) (e := mFn (F_number_in C) (aCons (mVar 2) aNil)) (enc := fun i => .str (L2.numT i.toNat)) (f := D.int) (xs := [a, b]) (ρ := [.dat (.str z), .no, .no]) (ρ1 := [.dat (.str z), .no, .no]) (e_bd (v := .lst [.str (L2.numT a.toNat), .str (L2.numT b.toNat)]) (ρ1 := [.dat (.str z), .no, .no]) (e_str (e_var rfl) e_c sp) rfl) rfl (len_le (by simp)) (by
    intro i hi
    have n0 : F_number_in C [.str (L2.numT i.toNat)] = some (.int i) := by
      simp only [List.mem_cons, List.not_mem_nil, or_false] at hi
      rcases hi with rfl | rfl
      · exact n1
      · exact n2
    exact ⟨(), [.dat (.str z), .no, .dat (.str (L2.numT i.toNat))], rfl, [.dat (.str z), .no, .dat (.str (L2.numT i.toNat))], by refine_lift' ev [n0], rfl⟩) rfl
  have no := ints_none [a, b]
  have ne2 : dNe (.int 2) (.int 2) = some (.bl false) := rfl
  have l2 : dLen [.lst [.int a, .int b]] = some (.int 2) := rfl
  have no : dIn .non (.lst [.int a, .int b]) = some (.bl false) := no
  have x0 : dIx (.lst [.int a, .int b]) (.int 0) = some (.int a) := rfl
  have x1 : dIx (.lst [.int a, .int b]) (.int 1) = some (.int b) := rfl
  refine retF ?_
  unfold B_stretch_in
  refine st_set (d := .lst [.int a, .int b]) (ρ1 := [.dat (.str z), .no, .no]) hl ?_
  refine st_if (p := false) (ρ1 := [.dat (.str z), .dat (.lst [.int a, .int b]), .no]) (e_or (p := false) (q := false) (by refine_lift' eva [l2, ne2]) (by refine_lift' eva [no])) (fun z => by cases z) (fun _ => ?_)
  refine_lift' st
  refine_lift' st [x0, x1]
  exact rq_rt rfl
set_option maxHeartbeats 2000000 in
theorem v_pass_in {L : Int} {p : Ps} (h : passOk L p = true) (hL : L ≤ 1000000000000) : F_pass_in C [.lst ((wordsD p).tail.map D.str)] = some (encP p) := by
  obtain ⟨b, _, _⟩ := b_of_pass h
  have r := b.rng
  have g := b.gl
  have n1 := v_number_in C (i := p.first) ⟨by omega, by omega⟩
  have n2 := v_number_in C (i := p.last) ⟨by omega, by omega⟩
  have n3 := v_number_in C (i := p.glide) ⟨by omega, by omega⟩
  have tn := touch_num h hL
  have ew : (wordsD p).tail.map D.str = [D.str p.name, D.str p.mode, D.str (L2.numT p.first.toNat), D.str (L2.numT p.last.toNat), D.str (L2.numT p.glide.toNat), D.str p.tail] ++ p.touches.map fun t => D.str (L2.stT t.1.toNat t.2.toNat) := by
    show ([p.name, p.mode, L2.numT p.first.toNat, L2.numT p.last.toNat, L2.numT p.glide.toNat, p.tail] ++ p.touches.map fun t => L2.stT t.1.toNat t.2.toNat).map D.str = _
    rw [List.map_append, List.map_map]
    rfl
  rw [ew]
  generalize htw : p.touches.map (fun t => D.str (L2.stT t.1.toNat t.2.toNat)) = tw
  generalize hW : D.lst ([D.str p.name, D.str p.mode, D.str (L2.numT p.first.toNat), D.str (L2.numT p.last.toNat), D.str (L2.numT p.glide.toNat), D.str p.tail] ++ tw) = W
  have hln : dLen [W] = some (.int (tw.length + 6 : Nat)) := by
    rw [← hW]; rfl
  have lt6 : dLt (.int (tw.length + 6 : Nat)) (.int 6) = some (.bl false) := by
    show some (D.bl (decide _)) = _
    rw [decide_eq_false (by omega)]
  have hun : gStarN [1, 2, 3, 4, 5, 6] 7 W [.dat W, .no, .no, .no, .no, .no, .no, .no, .no, .no, .no] = some ((), [.dat W, .dat (.str p.name), .dat (.str p.mode), .dat (.str (L2.numT p.first.toNat)), .dat (.str (L2.numT p.last.toNat)), .dat (.str (L2.numT p.glide.toNat)), .dat (.str p.tail), .own false (.lst tw), .no, .no, .no]) := by
    rw [← hW]
    simp only [gStarN]
    rw [if_pos (by rw [List.length_append]; exact Nat.le_add_right 6 _)]
    rfl
  have hl1 : mLc [9] (iSeq seqT (mTup (aCons (mVar 3) (aCons (mVar 4) (aCons (mVar 5) aNil))))) (gNm 9) (mC true) (mFn (F_number_in C) (aCons (mVar 9) aNil)) [.dat W, .dat (.str p.name), .dat (.str p.mode), .dat (.str (L2.numT p.first.toNat)), .dat (.str (L2.numT p.last.toNat)), .dat (.str (L2.numT p.glide.toNat)), .dat (.str p.tail), .own false (.lst tw), .no, .no, .no] = some (.lst [.int p.first, .int p.last, .int p.glide], [.dat W, .dat (.str p.name), .dat (.str p.mode), .dat (.str (L2.numT p.first.toNat)), .dat (.str (L2.numT p.last.toNat)), .dat (.str (L2.numT p.glide.toNat)), .dat (.str p.tail), .own false (.lst tw), .no, .no, .no]) := e_lcm (α := Int) (vs := [9]) (enc := fun i => .str (L2.numT i.toNat)) (f := D.int) (xs := [p.first, p.last, p.glide]) (ρ1 := [.dat W, .dat (.str p.name), .dat (.str p.mode), .dat (.str (L2.numT p.first.toNat)), .dat (.str (L2.numT p.last.toNat)), .dat (.str (L2.numT p.glide.toNat)), .dat (.str p.tail), .own false (.lst tw), .no, .no, .no]) (e_bd (v := .tup [.str (L2.numT p.first.toNat), .str (L2.numT p.last.toNat), .str (L2.numT p.glide.toNat)]) (ρ1 := [.dat W, .dat (.str p.name), .dat (.str p.mode), .dat (.str (L2.numT p.first.toNat)), .dat (.str (L2.numT p.last.toNat)), .dat (.str (L2.numT p.glide.toNat)), .dat (.str p.tail), .own false (.lst tw), .no, .no, .no]) (by refine_lift' eva) rfl) rfl (len_le (by simp)) (by
    intro i hi
    have n0 : F_number_in C [.str (L2.numT i.toNat)] = some (.int i) := by
      simp only [List.mem_cons, List.not_mem_nil, or_false] at hi
      rcases hi with rfl | rfl | rfl
      · exact n1
      · exact n2
      · exact n3
    exact ⟨(), [.dat W, .dat (.str p.name), .dat (.str p.mode), .dat (.str (L2.numT p.first.toNat)), .dat (.str (L2.numT p.last.toNat)), .dat (.str (L2.numT p.glide.toNat)), .dat (.str p.tail), .own false (.lst tw), .no, .dat (.str (L2.numT i.toNat)), .no], rfl, [.dat W, .dat (.str p.name), .dat (.str p.mode), .dat (.str (L2.numT p.first.toNat)), .dat (.str (L2.numT p.last.toNat)), .dat (.str (L2.numT p.glide.toNat)), .dat (.str p.tail), .own false (.lst tw), .no, .dat (.str (L2.numT i.toNat)), .no], by refine_lift' ev [n0], rfl⟩) rfl
  have hl2 : mLc [9] (iSeq seqL (mVar 7)) (gNm 9) (mC true) (mFn (F_stretch_in C) (aCons (mVar 9) aNil)) [.dat W, .dat (.str p.name), .dat (.str p.mode), .dat (.str (L2.numT p.first.toNat)), .dat (.str (L2.numT p.last.toNat)), .dat (.str (L2.numT p.glide.toNat)), .dat (.str p.tail), .own false (.lst tw), .dat (.lst [.int p.first, .int p.last, .int p.glide]), .no, .no] = some (.lst (p.touches.map encT), [.dat W, .dat (.str p.name), .dat (.str p.mode), .dat (.str (L2.numT p.first.toNat)), .dat (.str (L2.numT p.last.toNat)), .dat (.str (L2.numT p.glide.toNat)), .dat (.str p.tail), .dat (.lst tw), .dat (.lst [.int p.first, .int p.last, .int p.glide]), .no, .no]) := e_lcm (α := Int × Int) (vs := [9]) (enc := fun t => D.str (L2.stT t.1.toNat t.2.toNat)) (f := encT) (xs := p.touches) (ρ1 := [.dat W, .dat (.str p.name), .dat (.str p.mode), .dat (.str (L2.numT p.first.toNat)), .dat (.str (L2.numT p.last.toNat)), .dat (.str (L2.numT p.glide.toNat)), .dat (.str p.tail), .dat (.lst tw), .dat (.lst [.int p.first, .int p.last, .int p.glide]), .no, .no]) (by
      rw [htw]
      exact e_bd (v := .lst tw) (ρ1 := [.dat W, .dat (.str p.name), .dat (.str p.mode), .dat (.str (L2.numT p.first.toNat)), .dat (.str (L2.numT p.last.toNat)), .dat (.str (L2.numT p.glide.toNat)), .dat (.str p.tail), .dat (.lst tw), .dat (.lst [.int p.first, .int p.last, .int p.glide]), .no, .no]) (e_varO rfl) rfl) rfl (len_le (by have := b.tl; omega)) (by
    intro t ht
    obtain ⟨t1, t2⟩ := tn t ht
    have n0 := v_stretch_in C t1 t2
    exact ⟨(), [.dat W, .dat (.str p.name), .dat (.str p.mode), .dat (.str (L2.numT p.first.toNat)), .dat (.str (L2.numT p.last.toNat)), .dat (.str (L2.numT p.glide.toNat)), .dat (.str p.tail), .dat (.lst tw), .dat (.lst [.int p.first, .int p.last, .int p.glide]), .dat (.str (L2.stT t.1.toNat t.2.toNat)), .no], rfl, [.dat W, .dat (.str p.name), .dat (.str p.mode), .dat (.str (L2.numT p.first.toNat)), .dat (.str (L2.numT p.last.toNat)), .dat (.str (L2.numT p.glide.toNat)), .dat (.str p.tail), .dat (.lst tw), .dat (.lst [.int p.first, .int p.last, .int p.glide]), .dat (.str (L2.stT t.1.toNat t.2.toNat)), .no], by refine_lift' ev [n0], rfl⟩) rfl
  have no1 : dIn .non (.lst [.int p.first, .int p.last, .int p.glide]) = some (.bl false) := ints_none [p.first, p.last, p.glide]
  have no2 := pairs_none p.touches
  have x0 : dIx (.lst [.int p.first, .int p.last, .int p.glide]) (.int 0) = some (.int p.first) := rfl
  have x1 : dIx (.lst [.int p.first, .int p.last, .int p.glide]) (.int 1) = some (.int p.last) := rfl
  have x2 : dIx (.lst [.int p.first, .int p.last, .int p.glide]) (.int 2) = some (.int p.glide) := rfl
  refine retF ?_
  unfold B_pass_in
  refine st_if (p := false) (ρ1 := [.dat W, .no, .no, .no, .no, .no, .no, .no, .no, .no, .no]) (by refine_lift' eva [hln, lt6]) (fun z => by cases z) (fun _ => ?_)
  refine_lift' st
  refine st_asg (d := W) (ρ1 := [.dat W, .no, .no, .no, .no, .no, .no, .no, .no, .no, .no]) (e_var rfl) hun ?_
  refine st_set hl1 ?_
  refine st_set hl2 ?_
  refine st_if (p := false) (ρ1 := [.dat W, .dat (.str p.name), .dat (.str p.mode), .dat (.str (L2.numT p.first.toNat)), .dat (.str (L2.numT p.last.toNat)), .dat (.str (L2.numT p.glide.toNat)), .dat (.str p.tail), .dat (.lst tw), .dat (.lst [.int p.first, .int p.last, .int p.glide]), .no, .dat (.lst (p.touches.map encT))]) (e_or (p := false) (q := false) (by refine_lift' eva [no1]) (by refine_lift' eva [no2])) (fun z => by cases z) (fun _ => ?_)
  refine_lift' st
  refine_lift' st [x0, x1, x2]
  exact rq_rt rfl
end
end My
set_option exponentiation.threshold 20000
namespace My
open PySem PySem.Spec PyProof.Rows L2 DL
section
variable (C : Addr)
set_option maxHeartbeats 1000000 in
theorem v_pass_in_row {L : Int} {p : Ps} (h : passOk L p = true) (hL : L ≤ 1000000000000) : F_pass_in_row C [.str (rowD p)] = some (encP p) := by
  have hp := v_pass_in C h hL
  have sp := split_ok (x := rowD p) (y := " ") (by have := L2.rowT_len hL (pass_text h); unfold rowD; omega) (by decide +kernel)
  have e : Txt.split (rowD p) " " = wordsD p := by
    have := L2.rowT_split hL (pass_text h)
    rw [wordsD_eq] at this
    exact this
  rw [e] at sp
  generalize htl : (wordsD p).tail.map D.str = tl at hp
  have ew : (wordsD p).map D.str = D.str "pass" :: tl := by rw [← htl]; rfl
  rw [ew] at sp
  have hq : dEq (.str "pass") (.str "pass") = some (.bl true) := by
    show some (D.bl (decide _)) = _
    rw [decide_eq_true rfl]
  have hun : gStarN [1] 2 (.lst (D.str "pass" :: tl)) [.dat (.str (rowD p)), .no, .no] = some ((), [.dat (.str (rowD p)), .dat (.str "pass"), .own false (.lst tl)]) := by
    simp only [gStarN]
    rw [if_pos (by simp)]
    rfl
  refine retF ?_
  unfold B_pass_in_row
  refine st_asg (ρ1 := [.dat (.str (rowD p)), .no, .no]) (e_str (e_var rfl) e_c sp) hun ?_
  refine st_one ?_
  refine st_ret (e_if1 (ρ1 := [.dat (.str (rowD p)), .dat (.str "pass"), .own false (.lst tl)]) (by refine_lift' eva [hq]) (e_fn (e_acons (e_varO rfl) e_anil) hp)) ?_
  exact rq_rt rfl
set_option maxHeartbeats 1000000 in
theorem v_length_in_row {n : Nat} (h1 : 1 ≤ n) (h2 : (n : Int) ≤ 1000000000000) : F_length_in_row C [.str (L2.headT n)] = some (.int (n : Int)) := by
  have hn : NumOk (n : Int) := ⟨by omega, by omega⟩
  have ni := v_number_in C hn
  have hl := v_is_length C (n : Int)
  rw [decide_eq_true (by omega), decide_eq_true h2] at hl
  have sp := split_ok (x := L2.headT n) (y := " ") (by have := L2.headT_len (n := n) (by omega); omega) (by decide +kernel)
  rw [L2.headT_split] at sp
  rw [show ((n : Int)).toNat = n from rfl] at ni
  have q1 : dNe (.str "track") (.str "track") = some (.bl false) := ne_str "track"
  have q2 : dLen [.lst [.str (L2.numT n)]] = some (.int 1) := rfl
  have q3 : dNe (.int 1) (.int 1) = some (.bl false) := rfl
  refine retF ?_
  unfold B_length_in_row
  refine st_asg (d := .lst [.str "track", .str (L2.numT n)]) (ρ1 := [.dat (.str (L2.headT n)), .no, .no, .no]) (ρ2 := [.dat (.str (L2.headT n)), .dat (.str "track"), .own false (.lst [.str (L2.numT n)]), .no]) (e_str (e_var rfl) e_c sp) rfl ?_
  refine st_if (p := false) (ρ1 := [.dat (.str (L2.headT n)), .dat (.str "track"), .own false (.lst [.str (L2.numT n)]), .no]) (e_or (p := false) (q := false) (by refine_lift' eva [q1]) (e_tst (e_op (e_fnPo rfl q2 rfl) e_c q3))) (fun z => by cases z) (fun _ => ?_)
  refine_lift' st
  refine st_set (d := .int (n : Int)) (ρ1 := [.dat (.str (L2.headT n)), .dat (.str "track"), .own false (.lst [.str (L2.numT n)]), .no]) (e_fn (e_acons (e_ixO rfl e_c rfl rfl) e_anil) ni) ?_
  refine st_one ?_
  refine st_ret (e_if1 (ρ1 := [.dat (.str (L2.headT n)), .dat (.str "track"), .own false (.lst [.str (L2.numT n)]), .dat (.int (n : Int))]) (by refine_lift' eva [hl]) (e_var rfl)) ?_
  exact rq_rt rfl
def textD (n : Nat) (ps : List Ps) : Str := L2.textT n (ps.map fun p => toP (encP p))
theorem all_pass {n : Int} {ps : List Ps} (h : PssOk n ps) : ∀ d ∈ ps.map (fun p => toP (encP p)), L2.isPass n d = true := fun d hd => by
  obtain ⟨p, hp, rfl⟩ := List.mem_map.mp hd
  exact pass_text (h.ok p hp)
theorem rows_eq (n : Nat) (ps : List Ps) : L2.rowsW n (ps.map fun p => toP (encP p)) = L2.headT n :: ps.map rowD := by
  unfold L2.rowsW
  rw [List.map_map]
  rfl
set_option maxHeartbeats 1000000 in
theorem v_rows_of {n : Nat} {ps : List Ps} (h : PssOk n ps) (h2 : (n : Int) ≤ 1000000000000) : F_rows_of C [.int (n : Int), .tup (ps.map encP)] = some (.lst ((L2.headT n :: ps.map rowD).map D.str)) := by
  have hn : NumOk (n : Int) := ⟨by omega, by omega⟩
  have f1 := fmt_num hn
  rw [show ((n : Int)).toNat = n from rfl] at f1
  have q1 := (L2.numT_len (n := n) (by omega)).2
  have q0 : Str.empty.length = 0 := rfl
  have q3 : ("track " : Str).length = 6 := by decide +kernel
  have hl := e_lcm (α := Ps) (vs := [2]) (it := iSeq seqT (mVar 1)) (g := gNm 2) (e := mFn (F_row_of C) (aCons (mVar 2) aNil)) (enc := encP) (f := fun p => D.str (rowD p)) (xs := ps) (ρ := [.dat (.int (n : Int)), .dat (.tup (ps.map encP)), .no]) (ρ1 := [.dat (.int (n : Int)), .dat (.tup (ps.map encP)), .no]) rfl rfl (len_le (by have := h.len; omega)) (by
    intro p hp
    have r := v_row_of C (h.ok p hp) h2
    exact ⟨(), [.dat (.int (n : Int)), .dat (.tup (ps.map encP)), .dat (encP p)], rfl, [.dat (.int (n : Int)), .dat (.tup (ps.map encP)), .dat (encP p)], by refine_lift' ev [r], rfl⟩) rfl
  have ad : dAdd (.lst [.str (L2.headT n)]) (.lst (ps.map fun p => D.str (rowD p))) = some (.lst ((L2.headT n :: ps.map rowD).map D.str)) := by
    rw [add_lst (by rw [List.length_map]; have := h.len; simp; omega), List.map_cons, List.map_map]
    rfl
  have hh : mFs [mC (.str "track "), mUn dFmt (mVar 0)] [.dat (.int (n : Int)), .dat (.tup (ps.map encP)), .no] = some (.str (L2.headT n), [.dat (.int (n : Int)), .dat (.tup (ps.map encP)), .no]) := by
    rw [← L2.headT_eq]
    refine e_bd (v := Str.empty ++ ("track " : Str) ++ L2.numT n) (ρ1 := [.dat (.int (n : Int)), .dat (.tup (ps.map encP)), .no]) ?_ rfl
    exact e_jcons e_c (by rw [L2.app_len]; omega) (e_jcons (e_un (e_var rfl) f1) (by rw [L2.app_len, L2.app_len]; omega) rfl)
  refine retF ?_
  unfold B_rows_of
  refine st_one ?_
  refine st_ret (e_op (e_lst (e_acons hh e_anil) (len_le (by simp))) hl ad) ?_
  exact rq_rt rfl
theorem v_Track_str {n : Nat} {ps : List Ps} (h : PssOk n ps) (h2 : (n : Int) ≤ 1000000000000) : F_Track_str C [encTr C (n : Int) ps] = some (.str (textD n ps)) := by
  have r := v_rows_of C h h2
  have hs := L2.rowsW_len (L := (n : Int)) (n := n) (ds := ps.map fun p => toP (encP p)) h2 (by omega) (all_pass h) (by rw [List.length_map]; exact h.len)
  rw [rows_eq] at hs
  have jo := join_ok (y := "\n") (ws := L2.headT n :: ps.map rowD) (by
    have h3 : ("\n" : Str).length = 1 := by decide +kernel
    rw [h3]
    omega)
  have e : Txt.join "\n" (L2.headT n :: ps.map rowD) = textD n ps := by rw [← rows_eq]; rfl
  rw [e] at jo
  refine retF ?_
  unfold B_Track_str encTr
  refine st_one ?_
  refine st_ret (e_str e_c (by refine_lift' eva [r]) jo) ?_
  exact rq_rt rfl
end
end My
set_option exponentiation.threshold 20000
namespace My
open PySem PySem.Spec PyProof.Rows L2 DL
section
variable (C : Addr)
set_option maxHeartbeats 1000000 in
theorem v_track_in {n : Nat} {ps : List Ps} (h : PssOk n ps) (h1 : 1 ≤ n) (h2 : (n : Int) ≤ 1000000000000) : F_track_in C [.str (textD n ps)] = some (.tup [.int (n : Int), .tup (ps.map encP)]) := by
  have tl := L2.textT_len (L := (n : Int)) (n := n) (ds := ps.map fun p => toP (encP p)) h2 (by omega) (all_pass h) (by rw [List.length_map]; exact h.len)
  have sp : dSplit (.str (textD n ps)) (.str "\n") = some (.lst ((L2.headT n :: ps.map rowD).map D.str)) := by
    have e : Txt.split (textD n ps) "\n" = L2.headT n :: ps.map rowD := by
      rw [← rows_eq]
      exact L2.textT_split (n := n) h2 (all_pass h)
    rw [← e]
    refine if_pos ⟨by decide +kernel, ?_⟩
    unfold textD
    rw [sizeLine_eq]
    omega
  have li := v_length_in_row C h1 h2
  have fw := v_first_wrong C (n : Int) ps h
  generalize hr : (ps.map rowD).map D.str = rows
  rw [List.map_cons, hr] at sp
  generalize textD n ps = X at sp
  have is : dIs (.int (n : Int)) .non = some (.bl false) := rfl
  have hun : gStarN [1] 2 (.lst (D.str (L2.headT n) :: rows)) [.dat (.str X), .no, .no, .no, .no, .no] = some ((), [.dat (.str X), .dat (.str (L2.headT n)), .own false (.lst rows), .no, .no, .no]) := by
    simp only [gStarN]
    rw [if_pos (by simp)]
    rfl
  have hl := e_lcm (α := Ps) (vs := [5]) (it := iSeq seqL (mVar 2)) (g := gNm 5) (e := mFn (F_pass_in_row C) (aCons (mVar 5) aNil)) (enc := fun p => D.str (rowD p)) (f := encP) (xs := ps) (ρ := [.dat (.str X), .dat (.str (L2.headT n)), .own false (.lst rows), .dat (.int (n : Int)), .no, .no]) (ρ1 := [.dat (.str X), .dat (.str (L2.headT n)), .dat (.lst rows), .dat (.int (n : Int)), .no, .no]) (by
      have e : ps.map (fun p => D.str (rowD p)) = rows := by rw [← hr, List.map_map]; rfl
      rw [e]
      exact e_bd (v := .lst rows) (ρ1 := [.dat (.str X), .dat (.str (L2.headT n)), .dat (.lst rows), .dat (.int (n : Int)), .no, .no]) (e_varO rfl) rfl) rfl (len_le (by have := h.len; omega)) (by
    intro p hp
    have r := v_pass_in_row C (h.ok p hp) h2
    exact ⟨(), [.dat (.str X), .dat (.str (L2.headT n)), .dat (.lst rows), .dat (.int (n : Int)), .no, .dat (.str (rowD p))], rfl, [.dat (.str X), .dat (.str (L2.headT n)), .dat (.lst rows), .dat (.int (n : Int)), .no, .dat (.str (rowD p))], by refine_lift' ev [r], rfl⟩) rfl
  have tt : dIsT [.str X, .ty "str"] = some (.bl true) := rfl
  refine retF ?_
  unfold B_track_in
  refine st_if (p := false) (ρ1 := [.dat (.str X), .no, .no, .no, .no, .no]) (e_not (p := true) (by refine_lift' eva [tt])) (fun z => by cases z) (fun _ => ?_)
  refine_lift' st
  refine st_asg (ρ1 := [.dat (.str X), .no, .no, .no, .no, .no]) (e_str (e_var rfl) e_c sp) hun ?_
  refine st_set (d := .int (n : Int)) (ρ1 := [.dat (.str X), .dat (.str (L2.headT n)), .own false (.lst rows), .no, .no, .no]) (by refine_lift' ev [li]) ?_
  refine st_if (p := false) (ρ1 := [.dat (.str X), .dat (.str (L2.headT n)), .own false (.lst rows), .dat (.int (n : Int)), .no, .no]) (by refine_lift' eva [is]) (fun z => by cases z) (fun _ => ?_)
  refine_lift' st
  refine st_set (d := .tup (ps.map encP)) (ρ1 := [.dat (.str X), .dat (.str (L2.headT n)), .dat (.lst rows), .dat (.int (n : Int)), .no, .no]) (e_fn (e_acons hl e_anil) rfl) ?_
  have i2 : dIs .non .non = some (.bl true) := rfl
  refine st_one ?_
  refine st_ret (e_if1 (ρ1 := [.dat (.str X), .dat (.str (L2.headT n)), .dat (.lst rows), .dat (.int (n : Int)), .dat (.tup (ps.map encP)), .no]) (by refine_lift' eva [fw, i2]) (e_tup (e_acons (e_var rfl) (e_acons (e_var rfl) e_anil)) (len_le (by simp)))) ?_
  exact rq_rt rfl
theorem v_Track_read {n : Nat} {ps : List Ps} (h : PssOk n ps) (h1 : 1 ≤ n) (h2 : (n : Int) ≤ 1000000000000) : F_Track_read C [.cls C, .str (textD n ps)] = some (encTr C (n : Int) ps) := by
  have ti := v_track_in C h h1 h2
  have ini := v_Track_init C (n : Int) ps h (by omega) h2
  have is : dIs (.tup [.int (n : Int), .tup (ps.map encP)]) .non = some (.bl false) := rfl
  generalize textD n ps = X at ti
  refine retF ?_
  unfold B_Track_read
  refine st_set (d := .tup [.int (n : Int), .tup (ps.map encP)]) (ρ1 := [.dat (.cls C), .dat (.str X), .no, .no, .no]) (by refine_lift' eva [ti]) ?_
  refine st_if (p := false) (ρ1 := [.dat (.cls C), .dat (.str X), .dat (.tup [.int (n : Int), .tup (ps.map encP)]), .no, .no]) (by refine_lift' eva [is]) (fun z => by cases z) (fun _ => ?_)
  refine_lift' st
  refine st_asg (d := .tup [.int (n : Int), .tup (ps.map encP)]) (ρ1 := [.dat (.cls C), .dat (.str X), .dat (.tup [.int (n : Int), .tup (ps.map encP)]), .no, .no]) (ρ2 := [.dat (.cls C), .dat (.str X), .dat (.tup [.int (n : Int), .tup (ps.map encP)]), .dat (.int (n : Int)), .dat (.tup (ps.map encP))]) (e_var rfl) rfl ?_
  have mk : mMakeL 0 C (F_Track_init C) [] (aCons (mVar 3) (aCons (mVar 4) aNil)) [.dat (.cls C), .dat (.str X), .dat (.tup [.int (n : Int), .tup (ps.map encP)]), .dat (.int (n : Int)), .dat (.tup (ps.map encP))] = some (encTr C (n : Int) ps, [.dat (.cls C), .dat (.str X), .dat (.tup [.int (n : Int), .tup (ps.map encP)]), .dat (.int (n : Int)), .dat (.tup (ps.map encP))]) := by
    show (if C = C then mMake C (F_Track_init C) [] (aCons (mVar 3) (aCons (mVar 4) aNil)) _ else none) = _
    rw [if_pos rfl]
    exact e_make (e_acons (e_var rfl) (e_acons (e_var rfl) e_anil)) ini
  refine st_one ?_
  refine st_ret mk ?_
  exact rq_rt rfl
end
end My
set_option exponentiation.threshold 20000
namespace My
open PySem PySem.Spec PyProof.Rows L2 DL
theorem eqv_ts : ∀ (ts us : List (Int × Int)), PyData.eqvAll (toPs (ts.map encT)) (toPs (us.map encT)) = decide (ts = us)
  | [], [] => by simp [toPs, PyData.eqvAll]
  | [], _ :: _ => by simp [toPs, PyData.eqvAll]
  | _ :: _, [] => by simp [toPs, PyData.eqvAll]
  | (a, b) :: ts, (c, d) :: us => by
    have ih := eqv_ts ts us
    rw [List.map_cons, List.map_cons]
    simp only [toPs, PyData.eqvAll, ih]
    simp only [encT, toP, toPs, PyData.eqv, PyData.eqvAll]
    rw [Bool.eq_iff_iff]
    simp [Prod.ext_iff, and_assoc]
theorem eqv_pass (p q : Ps) : PyData.eqv (toP (encP p)) (toP (encP q)) = true ↔ p = q := by
  obtain ⟨n, m, f, l, ts, g, e⟩ := p
  obtain ⟨n', m', f', l', ts', g', e'⟩ := q
  have h := eqv_ts ts ts'
  simp only [encP, toP, toPs, PyData.eqv, PyData.eqvAll, h]
  simp [and_assoc]
theorem eqv_passes : ∀ ps qs : List Ps, PyData.eqvAll (toPs (ps.map encP)) (toPs (qs.map encP)) = true ↔ ps = qs
  | [], [] => by simp [toPs, PyData.eqvAll]
  | [], _ :: _ => by simp [toPs, PyData.eqvAll]
  | _ :: _, [] => by simp [toPs, PyData.eqvAll]
  | p :: ps, q :: qs => by
    have ih := eqv_passes ps qs
    have h := eqv_pass p q
    rw [List.map_cons, List.map_cons]
    simp only [toPs, PyData.eqvAll, Bool.and_eq_true, ih, h, List.cons.injEq]
theorem eq_passes {ps qs : List Ps} (h : ∀ p ∈ ps, p.sane) (h' : ∀ p ∈ qs, p.sane) : ∃ b, dEq (.tup (ps.map encP)) (.tup (qs.map encP)) = some (.bl b) ∧ (b = true ↔ ps = qs) := by
  refine ⟨PyData.eqv (toP (.tup (ps.map encP))) (toP (.tup (qs.map encP))), ?_, ?_⟩
  · show (eqs _ _).map _ = _
    rw [eqs_of (gd_ps h) (gd_ps h') (by decide)]
    rfl
  · simp only [toP, PyData.eqv, eqv_passes]
section
variable (C : Addr)
theorem v_Track_eq {L L' : Int} {ps qs : List Ps} (h : ∀ p ∈ ps, p.sane) (h' : ∀ p ∈ qs, p.sane) : ∃ b, F_Track_eq C [encTr C L ps, encTr C L' qs] = some (.bl b) ∧ (b = true ↔ L = L' ∧ ps = qs) := by
  obtain ⟨b, e, hb⟩ := eq_passes h h'
  have e1 : dEq (.int L) (.int L') = some (.bl (L == L')) := rfl
  have ic : dIsCT C [encTr C L' qs, .cls C] = some (.bl true) := by
    show (if _ then _ else _) = _
    simp
  refine ⟨true && ((L == L') && b), ?_, ?_⟩
  · refine retF ?_
    unfold B_Track_eq
    refine sw_ret ?_
    refine st_ret (d := .bl (true && ((L == L') && b))) (ρ1 := [.dat (encTr C L ps), .dat (encTr C L' qs)]) (e_andV (e_fn (e_acons (e_var rfl) (e_acons e_c e_anil)) ic) (e_andV (e_op (e_fld (e_var rfl) rfl) (e_fld (e_var rfl) rfl) e1) (e_op (e_fld (e_var rfl) rfl) (e_fld (e_var rfl) rfl) e))) ?_
    exact rq_rt rfl
  · simp [hb]
theorem eqI_tr {L L' : Int} {ps qs : List Ps} {b : Bool} (h : F_Track_eq C [encTr C L ps, encTr C L' qs] = some (.bl b)) : dEqI C (F_Track_eq C) (encTr C L ps) (encTr C L' qs) = some (.bl b) ∧ dNeI C (F_Track_eq C) (encTr C L ps) (encTr C L' qs) = some (.bl (!b)) := by
  have e : eqI C (F_Track_eq C) (encTr C L ps) (encTr C L' qs) = some b := by
    unfold eqI encTr
    simp only [and_self, if_true]
    unfold encTr at h
    rw [h]
  unfold dEqI dNeI
  rw [e]
  exact ⟨rfl, rfl⟩
theorem v_law_long {m : Nat} {u : Pur} (hu : PurOk (m + 2) u) : ∃ (n : Nat) (u' : Pur), F_law_long C (encPu u) [] = some (.int (n : Int), encPu u') ∧ 1 ≤ n ∧ n ≤ 1000000000000 ∧ PurOk m u' := by
  have : ∃ r e, runO 1 0 (B_law_long C) (encPu u) [] = some (r, e) ∧ ∃ (n : Nat) (u' : Pur), r = .int (n : Int) ∧ e = encPu u' ∧ 1 ≤ n ∧ n ≤ 1000000000000 ∧ PurOk m u' := by
    refine retOE ?_
    unfold B_law_long
    obtain ⟨i, u1, e1, i0, i1, hu1⟩ := v_law_draw C hu (n := 40) (by decide) (by decide)
    obtain ⟨j, u2, e2, hj, hu2⟩ := v_law_pickI C hu1 [1, 2, 12, 30, 1 + i, 5000, 1000000000000, 1000000000000 - 1]
    have hj : 1 ≤ j ∧ j ≤ 1000000000000 := by simp at hj; omega
    refine sw_ret ?_
    refine st_ret (d := .int j) (ρ1 := [.own true (encPu u2)]) (e_callO (ρ1 := [.own true (encPu u1)]) (d1 := encPu u1) (d0 := encPu u) (p := true) (q := true) rfl (e_acons (e_lst (e_acons e_c (e_acons e_c (e_acons e_c (e_acons e_c (e_acons (e_op e_c (e_callO (ρ1 := [.own true (encPu u)]) (d1 := encPu u) (p := true) (q := true) rfl (e_acons e_c e_anil) rfl e1) rfl) (e_acons e_c (e_acons (e_op e_c e_c pow12) (e_acons (e_op (e_op e_c e_c pow12) e_c rfl) e_anil)))))))) (len_le (by simp))) e_anil) rfl e2) ?_
    exact ro_rt ⟨j.toNat, u2, by rw [show ((j.toNat : Nat) : Int) = j by omega], rfl, by omega, by omega, hu2⟩
  obtain ⟨r, e, h, n, u', rfl, rfl, h1, h2, h3⟩ := this
  exact ⟨n, u', h, h1, h2, h3⟩
end
end My
set_option exponentiation.threshold 20000
namespace My
open PySem PySem.Spec PyProof.Rows L2 DL
theorem place_at {ps : List Ps} {a : Nat} {p : Ps} (nd : (ps.map Ps.name).Nodup) (h : ps[a]? = some p) : placeM ps p.name = some a := by
  unfold placeM
  obtain ⟨ha, e⟩ := List.getElem?_eq_some_iff.mp h
  rw [List.findIdx?_eq_some_iff_getElem]
  refine ⟨ha, by rw [e]; exact decide_eq_true rfl, fun j hj => ?_⟩
  have hjl : j < ps.length := by omega
  intro q
  have q := of_decide_eq_true q
  rw [← e] at q
  have h1 : (ps.map Ps.name)[j]'(by rw [List.length_map]; exact hjl) = (ps.map Ps.name)[a]'(by rw [List.length_map]; exact ha) := by
    rw [List.getElem_map, List.getElem_map]; exact q
  have := (List.getElem_inj nd).mp h1
  omega
def rm (ps : List Ps) (k : Nat) : List Ps := ps.take k ++ ps.drop (k + 1)
def ins (ps : List Ps) (j : Nat) (p : Ps) : List Ps := ps.take j ++ p :: ps.drop j
theorem get_split {ps : List Ps} {k : Nat} {p : Ps} (h : ps[k]? = some p) : ps = ps.take k ++ p :: ps.drop (k + 1) := by
  obtain ⟨hk, e⟩ := List.getElem?_eq_some_iff.mp h
  rw [← e, ← List.drop_eq_getElem_cons hk, List.take_append_drop]
theorem ins_rm {ps : List Ps} {k : Nat} {p : Ps} (h : ps[k]? = some p) : ins (rm ps k) k p = ps := by
  obtain ⟨hk, e⟩ := List.getElem?_eq_some_iff.mp h
  have l : (ps.take k).length = k := by rw [List.length_take]; omega
  unfold ins rm
  rw [List.take_append_of_le_length (by omega), List.drop_append_of_le_length (by omega), List.take_of_length_le (by omega), List.drop_of_length_le (by omega), List.nil_append]
  exact (get_split h).symm
theorem rm_ins {r : List Ps} {j : Nat} {p : Ps} (h : j ≤ r.length) : rm (ins r j p) j = r := by
  have l : (r.take j).length = j := by rw [List.length_take]; omega
  unfold ins rm
  rw [List.take_append_of_le_length (by omega), List.take_of_length_le (by omega), List.drop_append, l, List.drop_of_length_le (by omega), List.nil_append, show j + 1 - j = 1 by omega]
  show r.take j ++ r.drop j = r
  exact List.take_append_drop _ _
theorem ins_get {r : List Ps} {j : Nat} {p : Ps} (h : j ≤ r.length) : (ins r j p)[j]? = some p := by
  have l : (r.take j).length = j := by rw [List.length_take]; omega
  unfold ins
  rw [List.getElem?_append_right (by omega), l, Nat.sub_self]; rfl
theorem ins_perm (r : List Ps) (j : Nat) (p : Ps) : (ins r j p).Perm (p :: r) := by
  unfold ins
  refine List.perm_middle.trans ?_
  rw [List.take_append_drop]
theorem rm_len {ps : List Ps} {k : Nat} (h : k < ps.length) : (rm ps k).length + 1 = ps.length := by
  unfold rm
  rw [List.length_append, List.length_take, List.length_drop]
  omega
theorem PssOk.perm {L : Int} {ps qs : List Ps} (h : PssOk L ps) (e : qs.Perm ps) : PssOk L qs := ⟨fun p hp => h.sane p (e.mem_iff.mp hp), fun p hp => h.ok p (e.mem_iff.mp hp), (e.map _).nodup_iff.mpr h.nd, by rw [e.length_eq]; exact h.len⟩
theorem ins_rm_perm {ps : List Ps} {k : Nat} {p : Ps} (h : ps[k]? = some p) (j : Nat) : (ins (rm ps k) j p).Perm ps := by
  refine (ins_perm _ _ _).trans ?_
  have := (ins_perm (rm ps k) k p).symm
  rw [ins_rm h] at this
  exact this
/-- another pass of the same name in its place -/
theorem PssOk.other {L : Int} {ps : List Ps} {k : Nat} {p q : Ps} (h : PssOk L ps) (hk : ps[k]? = some p) (hn : q.name = p.name) (hs : q.sane) (ho : passOk L q = true) : PssOk L (ins (rm ps k) k q) := by
  have e := ins_rm hk
  have pm := ins_perm (rm ps k) k q
  have pm0 := ins_perm (rm ps k) k p
  rw [e] at pm0
  have nd := (pm0.map Ps.name).nodup_iff.mp h.nd
  have sub : ∀ r ∈ rm ps k, r ∈ ps := fun r hr => pm0.mem_iff.mpr (List.mem_cons_of_mem _ hr)
  refine ⟨fun r hr => ?_, fun r hr => ?_, ?_, ?_⟩
  · rcases List.mem_cons.mp (pm.mem_iff.mp hr) with rfl | hr
    · exact hs
    · exact h.sane r (sub r hr)
  · rcases List.mem_cons.mp (pm.mem_iff.mp hr) with rfl | hr
    · exact ho
    · exact h.ok r (sub r hr)
  · refine (pm.map Ps.name).nodup_iff.mpr ?_
    rw [List.map_cons, hn, ← List.map_cons]
    exact nd
  · have l1 := pm.length_eq
    have l2 := pm0.length_eq
    have := h.len
    simp only [List.length_cons] at l1 l2
    omega
theorem PssOk.more {L : Int} {ps : List Ps} {p : Ps} (h : PssOk L ps) (hl : ps.length < 8) (hn : p.name ∉ ps.map Ps.name) (hs : p.sane) (ho : passOk L p = true) (j : Nat) : PssOk L (ins ps j p) := by
  refine PssOk.perm (ps := p :: ps) ⟨fun r hr => ?_, fun r hr => ?_, ?_, by rw [List.length_cons]; omega⟩ (ins_perm _ _ _)
  · rcases List.mem_cons.mp hr with rfl | hr
    · exact hs
    · exact h.sane r hr
  · rcases List.mem_cons.mp hr with rfl | hr
    · exact ho
    · exact h.ok r hr
  · rw [List.map_cons]
    exact List.nodup_cons.mpr ⟨hn, h.nd⟩
theorem glide_ok {L : Int} {p : Ps} (h : passOk L p = true) (hs : p.sane) {g : Int} (h0 : 0 ≤ g) (h1 : g ≤ 100) : passOk L { p with glide := g } = true ∧ ({ p with glide := g } : Ps).sane := by
  obtain ⟨b, n1, n2⟩ := b_of_pass h
  exact ⟨passOk_of ⟨b.mode, b.tail, b.rng, b.tl, b.tok, h0, h1⟩ n1 n2, ⟨hs.1, hs.2, hs.3, hs.4⟩⟩
theorem tail_ok {L : Int} {p : Ps} (h : passOk L p = true) (hs : p.sane) {x : Str} (hx : tails.contains x = true) : passOk L { p with tail := x } = true ∧ ({ p with tail := x } : Ps).sane := by
  obtain ⟨b, n1, n2⟩ := b_of_pass h
  exact ⟨passOk_of ⟨b.mode, hx, b.rng, b.tl, b.tok, b.gl⟩ n1 n2, ⟨hs.1, hs.2, tails_strOk hx, hs.4⟩⟩
theorem slT_drop (ds : List D) (n : Nat) : dSl (.tup ds) (some (n : Int)) none = some (.tup (ds.drop n)) := by
  show some (D.tup (DL.cutD ds (some (n : Int)) none)) = _
  rw [cutD_from]
theorem slT_take (ds : List D) (n : Nat) : dSl (.tup ds) none (some (n : Int)) = some (.tup (ds.take n)) := by
  show some (D.tup (DL.cutD ds none (some (n : Int)))) = _
  rw [cutD_to]
section
variable {ρ ρ1 ρ2 : Cs} {a : Mo D} {l : Mo (List D)} {es : List D} {z : D} {nm : Str} {F : List D → Option D} {C : Addr} {L : Int} {ps : List Ps}
theorem e_methT (ha : a ρ = some (encTr C L ps, ρ1)) (hn : (["_length", "_passes"] : List Str).contains nm = false) (hl : l ρ1 = some (es, ρ2)) (hF : F (encTr C L ps :: es) = some z) : mMeth C nm (plus F []) a l ρ = some (z, ρ2) := by
  unfold encTr at ha hF
  exact e_meth ha hn hl (by unfold plus; rw [List.append_nil]; exact hF)
theorem e_propT (ha : a ρ = some (encTr C L ps, ρ1)) (hF : F [encTr C L ps] = some z) : mProp C F a ρ = some (z, ρ1) := by
  unfold encTr at ha hF
  exact e_prop ha hF
end
section
variable (C : Addr)
theorem v_takenD (xs : List D) (a : Nat) (h : xs.length ≤ 900) : F_taken_out C [.tup xs, .int a] = some (.tup (xs.take a ++ xs.drop (a + 1))) := by
  have s1 := slT_take xs a
  have s2 := slT_drop xs (a + 1)
  have ad1 : (a : Int) + 1 = ((a + 1 : Nat) : Int) := by omega
  have ap : dAdd (.int a) (.int 1) = some (.int ((a + 1 : Nat) : Int)) := by rw [← ad1]; rfl
  have j : dAdd (.tup (xs.take a)) (.tup (xs.drop (a + 1))) = some (.tup (xs.take a ++ xs.drop (a + 1))) := add_tup (by rw [List.length_take, List.length_drop]; omega)
  refine retF ?_
  unfold B_taken_out
  refine_lift' st [ap, s1, s2, j]
  exact rq_rt rfl
theorem v_replacedD (xs : List D) (a : Nat) (v : D) (h : xs.length ≤ 900) : F_replaced C [.tup xs, .int a, v] = some (.tup ((xs.take a ++ xs.drop (a + 1)).take a ++ v :: (xs.take a ++ xs.drop (a + 1)).drop a)) := by
  have t := v_takenD C xs a h
  have p := v_put_in C (xs.take a ++ xs.drop (a + 1)) a v (by rw [List.length_append, List.length_take, List.length_drop]; omega)
  refine retF ?_
  unfold B_replaced
  refine_lift' st [t, p]
  exact rq_rt rfl
theorem v_taken_ps {ps : List Ps} {a : Nat} (h : ps.length ≤ 8) : F_taken_out C [.tup (ps.map encP), .int a] = some (.tup ((rm ps a).map encP)) := by
  have := v_takenD C (ps.map encP) a (by rw [List.length_map]; omega)
  unfold rm
  rwa [List.map_append, List.map_take, List.map_drop]
theorem v_put_ps {ps : List Ps} {a : Nat} {p : Ps} (h : ps.length ≤ 8) : F_put_in C [.tup (ps.map encP), .int a, encP p] = some (.tup ((ins ps a p).map encP)) := by
  have := v_put_in C (ps.map encP) a (encP p) (by rw [List.length_map]; omega)
  unfold ins
  rwa [List.map_append, List.map_cons, List.map_take, List.map_drop]
theorem v_place {ps : List Ps} {k : Nat} {p : Ps} (nd : (ps.map Ps.name).Nodup) (h : ps[k]? = some p) : F_place_of C [.tup (ps.map encP), .str p.name] = some (.int k) := by
  have := v_place_of C ps p.name
  rw [place_at nd h] at this
  exact this
theorem v_known_place {L : Int} {ps : List Ps} {n : Str} {a : Nat} (h : placeM ps n = some a) : F_Track_known_place C [encTr C L ps, .str n] = some (.int a) := by
  have hp : F_place_of C [.tup (ps.map encP), .str n] = some (.int a) := by
    have := v_place_of C ps n
    rw [h] at this
    exact this
  have hn : dIs (.int a) .non = some (.bl false) := rfl
  refine retF ?_
  unfold B_Track_known_place encTr
  refine_lift' st [hp]
  refine st_if (p := false) (ρ1 := [.dat (.ins C ["_length", "_passes"] [.int L, .tup (ps.map encP)]), .dat (.str n), .dat (.int a)]) (e_tst (e_op (e_var rfl) e_c hn)) (fun z => by cases z) fun _ => ?_
  refine_lift' st
  refine_lift' st
  exact rq_rt rfl
theorem v_without {L : Int} {ps : List Ps} {k : Nat} {p : Ps} (h : PssOk L ps) (l1 : 1 ≤ L) (l2 : L ≤ 1000000000000) (hk : ps[k]? = some p) : F_Track_without C [encTr C L ps, .str p.name] = some (encTr C L (rm ps k)) := by
  have hkn := v_known_place C (L := L) (place_at h.nd hk)
  have ht := v_taken_ps C (a := k) h.len
  have sub : (rm ps k).Sublist ps := by
    have : (ps.take k ++ ps.drop (k + 1)).Sublist (ps.take k ++ ps.drop k) := List.Sublist.append (List.Sublist.refl _) (by rw [← List.drop_drop]; exact List.drop_sublist _ _)
    rwa [List.take_append_drop] at this
  have hi := v_Track_init C L _ (h.sub sub) l1 l2
  have hm : ∀ ρ : Cs, ρ[0]? = some (.dat (encTr C L ps)) → ρ[1]? = some (.dat (.str p.name)) → mMeth C "_known_place" (plus (F_Track_known_place C) []) (mVar 0) (aCons (mVar 1) aNil) ρ = some (.int k, ρ) := fun ρ q1 q2 => e_methT (e_var q1) (by decide +kernel) (e_acons (e_var q2) e_anil) hkn
  have hm := hm [.dat (encTr C L ps), .dat (.str p.name)] rfl rfl
  refine retF ?_
  unfold B_Track_without
  unfold encTr at hm ⊢
  refine st_one (st_ret (e_make (e_acons (e_fld (e_var rfl) rfl) (e_acons (e_fn (e_acons (e_fld (e_var rfl) rfl) (e_acons hm e_anil)) ht) e_anil)) ?_) (rq_rt rfl))
  exact hi
theorem v_moved {L : Int} {ps : List Ps} {k j : Nat} {p : Ps} (h : PssOk L ps) (l1 : 1 ≤ L) (l2 : L ≤ 1000000000000) (hk : ps[k]? = some p) (hj : j < ps.length) : F_Track_moved C [encTr C L ps, .str p.name, .int j] = some (encTr C L (ins (rm ps k) j p)) := by
  have hkn := v_known_place C (L := L) (place_at h.nd hk)
  have ht := v_taken_ps C (a := k) h.len
  obtain ⟨hkl, _⟩ := List.getElem?_eq_some_iff.mp hk
  have hrl := rm_len hkl
  have h8 := h.len
  have hp := v_put_ps C (ps := rm ps k) (a := j) (p := p) (by omega)
  have hi := v_Track_init C L _ (h.perm (ins_rm_perm hk j)) l1 l2
  have hb := v_is_between C (j : Int) 0 ((ps.length : Int) - 1)
  rw [decide_eq_true (by omega), decide_eq_true (by omega)] at hb
  have hln : dLen [.tup (ps.map encP)] = some (.int ps.length) := by
    show some (D.int ((ps.map encP).length : Nat)) = _
    rw [List.length_map]
  have sb : dSub (.int ps.length) (.int 1) = some (.int ((ps.length : Int) - 1)) := rfl
  have ix : dIx (.tup (ps.map encP)) (.int k) = some (encP p) := atI_nat (by rw [List.getElem?_map, hk]; rfl)
  have hm : ∀ ρ : Cs, ρ[0]? = some (.dat (encTr C L ps)) → ρ[1]? = some (.dat (.str p.name)) → mMeth C "_known_place" (plus (F_Track_known_place C) []) (mVar 0) (aCons (mVar 1) aNil) ρ = some (.int k, ρ) := fun ρ q1 q2 => e_methT (e_var q1) (by decide +kernel) (e_acons (e_var q2) e_anil) hkn
  have hm := hm [.dat (encTr C L ps), .dat (.str p.name), .dat (.int j), .no] rfl rfl
  refine retF ?_
  unfold B_Track_moved
  unfold encTr at hm ⊢
  refine st_set hm ?_
  refine st_if (p := !(true && true)) (ρ1 := [.dat (.ins C ["_length", "_passes"] [.int L, .tup (ps.map encP)]), .dat (.str p.name), .dat (.int j), .dat (.int k)]) (e_not (e_tst (e_fn (e_acons (e_var rfl) (e_acons e_c (e_acons (e_op (e_fn (e_acons (e_fld (e_var rfl) rfl) e_anil) hln) e_c sb) e_anil))) hb))) (fun z => by cases z) fun _ => ?_
  refine st_nx ?_
  refine st_one (st_ret (e_make (e_acons (e_fld (e_var rfl) rfl) (e_acons (e_fn (e_acons (e_fn (e_acons (e_fld (e_var rfl) rfl) (e_acons (e_var rfl) e_anil)) ht) (e_acons (e_var rfl) (e_acons (e_op (e_fld (e_var rfl) rfl) (e_var rfl) ix) e_anil))) hp) e_anil)) ?_) (rq_rt rfl))
  exact hi
theorem v_put {L : Int} {ps : List Ps} {j : Nat} {p : Ps} (h : PssOk L (ins ps j p)) (l1 : 1 ≤ L) (l2 : L ≤ 1000000000000) (hj : j ≤ ps.length) : F_Track_put C [encTr C L ps, encP p, .int j] = some (encTr C L (ins ps j p)) := by
  have hmem : p ∈ ins ps j p := (ins_perm ps j p).mem_iff.mpr List.mem_cons_self
  have hp := v_is_pass C p (h.sane p hmem) L
  rw [h.ok p hmem] at hp
  have hpl := v_place_of C ps p.name
  have hnd : placeM ps p.name = none := by
    unfold placeM
    rw [List.findIdx?_eq_none_iff]
    intro q hq
    refine decide_eq_false fun e => ?_
    have nd := ((ins_perm ps j p).map Ps.name).nodup_iff.mp h.nd
    rw [List.map_cons, List.nodup_cons] at nd
    exact nd.1 (List.mem_map.mpr ⟨q, hq, e⟩)
  rw [hnd] at hpl
  have hlen : ps.length + 1 ≤ 8 := by
    have := h.len
    rw [(ins_perm ps j p).length_eq, List.length_cons] at this
    exact this
  have hput := v_put_ps C (ps := ps) (a := j) (p := p) (by omega)
  have hix : dIx (encP p) (.int 0) = some (.str p.name) := rfl
  have hln : dLen [.tup (ps.map encP)] = some (.int ps.length) := by
    show some (D.int ((ps.map encP).length : Nat)) = _
    rw [List.length_map]
  have hinit := v_Track_init C L _ h l1 l2
  have hge : dGe (.int ps.length) (.int 8) = some (.bl false) := by
    show some (D.bl (decide ((8 : Int) ≤ ps.length))) = _
    rw [decide_eq_false (by omega)]
  have hb := v_is_between C (j : Int) 0 (ps.length : Int)
  rw [decide_eq_true (by omega), decide_eq_true (by omega)] at hb
  have n0 : dIsNot .non .non = some (.bl false) := rfl
  have n1 : dIsNot (.int (j : Int)) .non = some (.bl true) := rfl
  have n2 : dIs (.int (j : Int)) .non = some (.bl false) := rfl
  have hT : ∃ ds, encTr C L ps = .ins C ["_length", "_passes"] ds ∧ lookD ["_length", "_passes"] ds "_length" = some (.int L) ∧ lookD ["_length", "_passes"] ds "_passes" = some (.tup (ps.map encP)) := ⟨_, rfl, rfl, rfl⟩
  obtain ⟨ds, hT, g1, g2⟩ := hT
  rw [hT]
  generalize encP p = PD at hp hix hput
  generalize D.tup (ps.map encP) = PS at hpl hput hln g2
  refine retF ?_
  unfold B_Track_put
  refine st_set (d := .int ps.length) (ρ1 := [.dat (.ins C ["_length", "_passes"] ds), .dat PD, .dat (.int j), .no, .no]) (e_fn (e_acons (e_fld (e_var rfl) g2) e_anil) hln) ?_
  refine st_if (p := !true || false) (ρ1 := [.dat (.ins C ["_length", "_passes"] ds), .dat PD, .dat (.int j), .dat (.int ps.length), .no]) (e_or (e_not (e_tst (e_fn (e_acons (e_var rfl) (e_acons (e_fld (e_var rfl) g1) e_anil)) hp))) (e_tst (e_op (e_fn (e_acons (e_fld (e_var rfl) g2) (e_acons (e_op (e_var rfl) e_c hix) e_anil)) hpl) e_c n0))) (fun z => by cases z) fun _ => ?_
  refine st_nx ?_
  refine st_if (p := true && !(true && true)) (ρ1 := [.dat (.ins C ["_length", "_passes"] ds), .dat PD, .dat (.int j), .dat (.int ps.length), .no]) (e_and (e_tst (e_op (e_var rfl) e_c n1)) (e_not (e_tst (e_fn (e_acons (e_var rfl) (e_acons e_c (e_acons (e_var rfl) e_anil))) hb)))) (fun z => by cases z) fun _ => ?_
  refine st_nx ?_
  refine st_if (p := false) (ρ1 := [.dat (.ins C ["_length", "_passes"] ds), .dat PD, .dat (.int j), .dat (.int ps.length), .no]) (e_tst (e_op (e_var rfl) e_c hge)) (fun z => by cases z) fun _ => ?_
  refine st_nx ?_
  refine st_set (d := .int j) (ρ1 := [.dat (.ins C ["_length", "_passes"] ds), .dat PD, .dat (.int j), .dat (.int ps.length), .no]) (e_if0 (e_tst (e_op (e_var rfl) e_c n2)) (e_var rfl)) ?_
  refine st_one (st_ret (e_make (e_acons (e_fld (e_var rfl) g1) (e_acons (e_fn (e_acons (e_fld (e_var rfl) g2) (e_acons (e_var rfl) (e_acons (e_var rfl) e_anil))) hput) e_anil)) ?_) (rq_rt rfl))
  exact hinit
def parts : List (Str × Int) := [("mode", 1), ("from", 2), ("to", 3), ("touches", 4), ("glide", 5), ("tail", 6)]
theorem v_changed {L : Int} {ps : List Ps} {k : Nat} {i : Nat} {p q : Ps} {x : Str} {v : D} (h : PssOk L ps) (l1 : 1 ≤ L) (l2 : L ≤ 1000000000000) (hk : ps[k]? = some p) (hx : tabIx parts x = some (i : Int)) (hq : F_replaced C [encP p, .int i, v] = some (encP q)) (ho : PssOk L (ins (rm ps k) k q)) :
    F_Track_changed C [encTr C L ps, .tup [.str p.name, .str x, v]] = some (encTr C L (ins (rm ps k) k q)) := by
  have pl := v_place C h.nd hk
  obtain ⟨hkl, _⟩ := List.getElem?_eq_some_iff.mp hk
  have tb : dTab [("mode", 1), ("from", 2), ("to", 3), ("touches", 4), ("glide", 5), ("tail", 6)] (.str x) = some (.int i) := by
    show (tabIx parts x).map D.int = _
    rw [hx]; rfl
  have ti : dTabIn [("mode", 1), ("from", 2), ("to", 3), ("touches", 4), ("glide", 5), ("tail", 6)] (.str x) = some (.bl true) := by
    show (tabIx parts x).map _ = _
    rw [hx]; rfl
  have ix : dIx (.tup (ps.map encP)) (.int k) = some (encP p) := atI_nat (by rw [List.getElem?_map, hk]; rfl)
  have rp : F_replaced C [.tup (ps.map encP), .int k, encP q] = some (.tup ((ins (rm ps k) k q).map encP)) := by
    have t := v_taken_ps C (a := k) h.len
    have hrl := rm_len hkl
    have h8 := h.len
    have u := v_put_ps C (ps := rm ps k) (a := k) (p := q) (by omega)
    refine retF ?_
    unfold B_replaced
    refine_lift' st [t, u]
    exact rq_rt rfl
  have bc : F_behind_change C [.tup (ps.map encP), .tup [.str p.name, .str x, v]] = some (.tup ((ins (rm ps k) k q).map encP)) := by
    generalize D.tup (ps.map encP) = PS at *
    generalize encP p = PD at *
    refine retF ?_
    unfold B_behind_change
    refine st_asg (d := .tup [.str p.name, .str x, v]) (ρ1 := [.dat PS, .dat (.tup [.str p.name, .str x, v]), .no, .no, .no, .no]) (ρ2 := [.dat PS, .dat (.tup [.str p.name, .str x, v]), .dat (.str p.name), .dat (.str x), .dat v, .no]) (e_var rfl) (by rfl) ?_
    refine st_set (d := .int k) (ρ1 := [.dat PS, .dat (.tup [.str p.name, .str x, v]), .dat (.str p.name), .dat (.str x), .dat v, .no]) (e_fn (e_acons (e_var rfl) (e_acons (e_var rfl) e_anil)) pl) ?_
    refine st_one (st_ret (e_fn (e_acons (e_var rfl) (e_acons (e_var rfl) (e_acons (e_fn (e_acons (e_op (e_var rfl) (e_var rfl) ix) (e_acons (e_un (e_var rfl) tb) (e_acons (e_var rfl) e_anil))) hq) e_anil))) rp) (rq_rt rfl))
  have ic : F_is_change C [.tup [.str p.name, .str x, v], .tup (ps.map encP)] = some (.bl true) := by
    have it : dIsT [.tup [.str p.name, .str x, v], .ty "tuple"] = some (.bl true) := rfl
    have ln : dLen [.tup [.str p.name, .str x, v]] = some (.int 3) := rfl
    have n3 : dNe (.int 3) (.int 3) = some (.bl false) := rfl
    have nn : dIsNot (.int (k : Int)) .non = some (.bl true) := rfl
    have is_ : dIsT [.str x, .ty "str"] = some (.bl true) := rfl
    generalize D.tup (ps.map encP) = PS at *
    refine retF ?_
    unfold B_is_change
    refine st_if (p := !true || false) (ρ1 := [.dat (.tup [.str p.name, .str x, v]), .dat PS, .no, .no, .no]) (e_or (e_not (e_tst (e_fn (e_acons (e_var rfl) (e_acons e_c e_anil)) it))) (e_tst (e_op (e_fn (e_acons (e_var rfl) e_anil) ln) e_c n3))) (fun z => by cases z) fun _ => ?_
    refine st_nx ?_
    refine st_asg (d := .tup [.str p.name, .str x, v]) (ρ1 := [.dat (.tup [.str p.name, .str x, v]), .dat PS, .no, .no, .no]) (ρ2 := [.dat (.tup [.str p.name, .str x, v]), .dat PS, .dat (.str p.name), .dat (.str x), .dat v]) (e_var rfl) (by rfl) ?_
    refine st_one (st_ret (d := .bl (true && (true && true))) (e_andV (e_op (e_fn (e_acons (e_var rfl) (e_acons (e_var rfl) e_anil)) pl) e_c nn) (e_andV (e_fn (e_acons (e_var rfl) (e_acons e_c e_anil)) is_) (e_un (e_var rfl) ti))) (rq_rt rfl))
  have fw := v_first_wrong C L _ ho
  have hi := v_Track_init C L _ ho l1 l2
  have nn : dIsNot .non .non = some (.bl false) := rfl
  have hT : ∃ ds, encTr C L ps = .ins C ["_length", "_passes"] ds ∧ lookD ["_length", "_passes"] ds "_length" = some (.int L) ∧ lookD ["_length", "_passes"] ds "_passes" = some (.tup (ps.map encP)) := ⟨_, rfl, rfl, rfl⟩
  obtain ⟨ds, hT, g1, g2⟩ := hT
  rw [hT]
  generalize D.tup (ps.map encP) = PS at *
  generalize D.tup ((ins (rm ps k) k q).map encP) = QS at *
  generalize D.tup [.str p.name, .str x, v] = CH at *
  refine retF ?_
  unfold B_Track_changed
  refine st_if (p := !true) (ρ1 := [.dat (.ins C ["_length", "_passes"] ds), .dat CH, .no]) (e_not (e_tst (e_fn (e_acons (e_var rfl) (e_acons (e_fld (e_var rfl) g2) e_anil)) ic))) (fun z => by cases z) fun _ => ?_
  refine st_nx ?_
  refine st_set (d := QS) (ρ1 := [.dat (.ins C ["_length", "_passes"] ds), .dat CH, .no]) (e_fn (e_acons (e_fld (e_var rfl) g2) (e_acons (e_var rfl) e_anil)) bc) ?_
  refine st_if (p := false) (ρ1 := [.dat (.ins C ["_length", "_passes"] ds), .dat CH, .dat QS]) (e_tst (e_op (e_fn (e_acons (e_var rfl) (e_acons (e_fld (e_var rfl) g1) e_anil)) fw) e_c nn)) (fun z => by cases z) fun _ => ?_
  refine st_nx ?_
  refine st_one (st_ret (e_make (e_acons (e_fld (e_var rfl) g1) (e_acons (e_var rfl) e_anil)) ?_) (rq_rt rfl))
  exact hi
theorem rep_glide (p : Ps) (g : Int) : F_replaced C [encP p, .int ((5 : Nat) : Int), .int g] = some (encP { p with glide := g }) := v_replacedD C [.str p.name, .str p.mode, .int p.first, .int p.last, .tup (p.touches.map encT), .int p.glide, .str p.tail] 5 (.int g) (by simp)
theorem rep_tail (p : Ps) (x : Str) : F_replaced C [encP p, .int ((6 : Nat) : Int), .str x] = some (encP { p with tail := x }) := v_replacedD C [.str p.name, .str p.mode, .int p.first, .int p.last, .tup (p.touches.map encT), .int p.glide, .str p.tail] 6 (.str x) (by simp)
theorem rep_mode (p : Ps) : F_replaced C [encP p, .int ((1 : Nat) : Int), .str p.mode] = some (encP p) := v_replacedD C [.str p.name, .str p.mode, .int p.first, .int p.last, .tup (p.touches.map encT), .int p.glide, .str p.tail] 1 (.str p.mode) (by simp)
theorem v_glide {L g : Int} {ps : List Ps} {k : Nat} {p : Ps} (h : PssOk L ps) (l1 : 1 ≤ L) (l2 : L ≤ 1000000000000) (hk : ps[k]? = some p) (h0 : 0 ≤ g) (h1 : g ≤ 100) : F_Track_changed C [encTr C L ps, .tup [.str p.name, .str "glide", .int g]] = some (encTr C L (ins (rm ps k) k { p with glide := g })) ∧ PssOk L (ins (rm ps k) k { p with glide := g }) := by
  have hm := List.mem_of_getElem? hk
  have o := glide_ok (h.ok p hm) (h.sane p hm) h0 h1
  have hp := h.other hk (q := { p with glide := g }) rfl o.2 o.1
  exact ⟨v_changed C h l1 l2 hk (i := 5) (by decide +kernel) (rep_glide C p g) hp, hp⟩
theorem v_tail {L : Int} {ps : List Ps} {k : Nat} {p : Ps} {x : Str} (h : PssOk L ps) (l1 : 1 ≤ L) (l2 : L ≤ 1000000000000) (hk : ps[k]? = some p) (hx : tails.contains x = true) : F_Track_changed C [encTr C L ps, .tup [.str p.name, .str "tail", .str x]] = some (encTr C L (ins (rm ps k) k { p with tail := x })) ∧ PssOk L (ins (rm ps k) k { p with tail := x }) := by
  have hm := List.mem_of_getElem? hk
  have o := tail_ok (h.ok p hm) (h.sane p hm) hx
  have hp := h.other hk (q := { p with tail := x }) rfl o.2 o.1
  exact ⟨v_changed C h l1 l2 hk (i := 6) (by decide +kernel) (rep_tail C p x) hp, hp⟩
theorem v_mode {L : Int} {ps : List Ps} {k : Nat} {p : Ps} (h : PssOk L ps) (l1 : 1 ≤ L) (l2 : L ≤ 1000000000000) (hk : ps[k]? = some p) : F_Track_changed C [encTr C L ps, .tup [.str p.name, .str "mode", .str p.mode]] = some (encTr C L ps) := by
  have e := ins_rm hk
  have := v_changed C h l1 l2 hk (i := 1) (x := "mode") (by decide +kernel) (rep_mode C p) (by rw [e]; exact h)
  rwa [e] at this
theorem strI_tr {n : Nat} {ps : List Ps} (h : PssOk n ps) (h2 : (n : Int) ≤ 1000000000000) : dStrI C (F_Track_str C) [encTr C (n : Int) ps] = some (.str (textD n ps)) := by
  have s := v_Track_str C h h2
  unfold dStrI
  unfold encTr at s ⊢
  simp only [s]
  rw [if_pos (by simp [isIns])]
theorem v_Track_names (L : Int) (ps : List Ps) (h : ps.length ≤ 8) : F_Track_names C [encTr C L ps] = some (.tup (ps.map fun p => D.str p.name)) := by
  refine retF ?_
  unfold B_Track_names encTr
  have hlc := e_lcm (α := Ps) (vs := [1]) (it := iSeq seqT (mFld C "_passes" (mVar 0))) (g := gNm 1) (e := mOp dIx (mVar 1) (mC (.int 0))) (enc := encP) (f := fun p => D.str p.name) (xs := ps)
    (ρ := [.dat (.ins C ["_length", "_passes"] [.int L, .tup (ps.map encP)]), .no]) (ρ1 := [.dat (.ins C ["_length", "_passes"] [.int L, .tup (ps.map encP)]), .no]) (e_bd (e_fld (e_var rfl) rfl) rfl) rfl (len_le (by omega))
    (fun p _ => ⟨(), [.dat (.ins C ["_length", "_passes"] [.int L, .tup (ps.map encP)]), .dat (encP p)], rfl, [.dat (.ins C ["_length", "_passes"] [.int L, .tup (ps.map encP)]), .dat (encP p)], e_op (e_var rfl) e_c rfl, rfl⟩) rfl
  exact st_one (st_ret (e_fn (e_acons hlc e_anil) rfl) (rq_rt rfl))
theorem same_ne {L : Int} {ps : List Ps} (h : PssOk L ps) : dNeI C (F_Track_eq C) (encTr C L ps) (encTr C L ps) = some (.bl false) := by
  obtain ⟨b, teq, hb⟩ := v_Track_eq C (L := L) (L' := L) (ps := ps) (qs := ps) (fun p hp => h.sane p hp) (fun p hp => h.sane p hp)
  have hbt : b = true := hb.mpr ⟨rfl, rfl⟩
  subst hbt
  exact (eqI_tr C teq).2
end
end My
set_option exponentiation.threshold 20000
namespace My
open PySem PySem.Spec PyProof.Rows L2 DL
section
variable (C : Addr)
theorem v_law_back {m : Nat} {u : Pur} {L : Int} {ps : List Ps} (hu : PurOk (m + ps.length) u) (h : PssOk L ps) (l1 : 1 ≤ L) (l2 : L ≤ 1000000000000) : ∃ u' : Pur, F_law_back C (encPu u) [encTr C L ps, .tup (ps.map encP)] = some (.bl true, encPu u') ∧ PurOk m u' := by
  have : ∃ r e, runO 3 3 (B_law_back C) (encPu u) [encTr C L ps, .tup (ps.map encP)] = some (r, e) ∧ ∃ u' : Pur, r = .bl true ∧ e = encPu u' ∧ PurOk m u' := by
    refine retOE ?_
    unfold B_law_back
    have h8 := h.len
    have hln : dLen [.tup (ps.map encP)] = some (.int ps.length) := by
      show some (D.int ((ps.map encP).length : Nat)) = _
      rw [List.length_map]
    have ixP : ∀ (k : Nat) (p : Ps), ps[k]? = some p → dIx (.tup (ps.map encP)) (.int (0 + (k : Int))) = some (encP p) := fun k p hk => by
      rw [Int.zero_add]; exact atI_nat (by rw [List.getElem?_map, hk]; rfl)
    have sn := same_ne C h
    have key : ∀ (k j : Nat) (p : Ps), ps[k]? = some p → j < ps.length → F_Track_without C [encTr C L ps, .str p.name] = some (encTr C L (rm ps k)) ∧ F_Track_put C [encTr C L (rm ps k), encP p, .int k] = some (encTr C L ps) ∧ F_Track_moved C [encTr C L ps, .str p.name, .int j] = some (encTr C L (ins (rm ps k) j p)) ∧ F_Track_moved C [encTr C L (ins (rm ps k) j p), .str p.name, .int k] = some (encTr C L ps) ∧
        F_Track_moved C [encTr C L ps, .str p.name, .int k] = some (encTr C L ps) ∧ F_Track_changed C [encTr C L ps, .tup [.str p.name, .str "mode", .str p.mode]] = some (encTr C L ps) ∧ ∃ M2, F_Track_changed C [encTr C L ps, .tup [.str p.name, .str "glide", .int (100 - p.glide)]] = some (encTr C L M2) ∧ F_Track_changed C [encTr C L M2, .tup [.str p.name, .str "glide", .int p.glide]] = some (encTr C L ps) := fun k j p hk hj => by
      obtain ⟨hkl, _⟩ := List.getElem?_eq_some_iff.mp hk
      have hrl := rm_len hkl
      have e := ins_rm hk
      have hmem := List.mem_of_getElem? hk
      have g := (b_of_pass (h.ok p hmem)).1.gl
      have a1 := v_without C h l1 l2 hk
      have a2 := v_put C (ps := rm ps k) (j := k) (p := p) (by rw [e]; exact h) l1 l2 (by omega)
      rw [e] at a2
      have a3 := v_moved C h l1 l2 hk hj
      have hp1 := h.perm (ins_rm_perm hk j)
      have gj : (ins (rm ps k) j p)[j]? = some p := ins_get (by omega)
      have l3 : (ins (rm ps k) j p).length = ps.length := (ins_rm_perm hk j).length_eq
      have a4 := v_moved C hp1 l1 l2 gj (j := k) (by omega)
      rw [rm_ins (by omega), e] at a4
      have a5 := v_moved C h l1 l2 hk hkl
      rw [e] at a5
      have a6 := v_mode C h l1 l2 hk
      obtain ⟨b1, b2⟩ := v_glide C h l1 l2 hk (g := 100 - p.glide) (by omega) (by omega)
      have gk : (ins (rm ps k) k { p with glide := 100 - p.glide })[k]? = some { p with glide := 100 - p.glide } := ins_get (by omega)
      obtain ⟨b3, _⟩ := v_glide C b2 l1 l2 gk (g := p.glide) g.1 g.2
      rw [rm_ins (by omega)] at b3
      have e2 : ({ ({ p with glide := 100 - p.glide } : Ps) with glide := p.glide } : Ps) = p := rfl
      rw [e2, e] at b3
      exact ⟨a1, a2, a3, a4, a5, a6, _, b1, b3⟩
    generalize hP : D.tup (ps.map encP) = P at *
    refine st_forN (n := ps.length) (ρ1 := [.own true (encPu u), .dat (encTr C L ps), .dat P, .no, .no, .no]) (it_rng1 (e_acons (e_fn (e_acons (e_var rfl) e_anil) hln) e_anil) (by omega)) (fun j ρ => ∃ (v : Pur) (a b c : Cell), ρ = [.own true (encPu v), .dat (encTr C L ps), .dat P, a, b, c] ∧ PurOk (m + (ps.length - j)) v) ⟨u, _, _, _, rfl, by simpa using hu⟩ ?_ ?_
    · rintro k ρ hk ⟨v, x3, x4, x5, rfl, hv⟩
      obtain ⟨i, v2, ed, i0, i1, hv2⟩ := v_law_draw C (m := m + (ps.length - (k + 1))) (hv.mono (by omega)) (n := ps.length) (by omega) (by omega)
      obtain ⟨j, rfl⟩ : ∃ j : Nat, i = j := ⟨i.toNat, by omega⟩
      obtain ⟨p, hp⟩ : ∃ p, ps[k]? = some p := ⟨_, List.getElem?_eq_getElem hk⟩
      obtain ⟨a1, a2, a3, a4, a5, a6, qs, b1, b2⟩ := key k j p hp (by omega)
      have ip := ixP k p hp
      have i0' : dIx (encP p) (.int 0) = some (.str p.name) := rfl
      have i1' : dIx (encP p) (.int 1) = some (.str p.mode) := rfl
      have i5' : dIx (encP p) (.int 5) = some (.int p.glide) := rfl
      have sb : dSub (.int 100) (.int p.glide) = some (.int (100 - p.glide)) := rfl
      have zk : (0 : Int) + (k : Int) = (k : Int) := Int.zero_add _
      generalize encP p = PD at *
      refine ⟨(), [.own true (encPu v), .dat (encTr C L ps), .dat P, .dat (.int (0 + (k : Int))), x4, x5], rfl, ?_⟩
      refine st_par (ds := [.str p.name, .int j]) (ρ1 := [.own true (encPu v2), .dat (encTr C L ps), .dat P, .dat (.int (0 + (k : Int))), x4, x5]) (ρ2 := [.own true (encPu v2), .dat (encTr C L ps), .dat P, .dat (.int (0 + (k : Int))), .dat (.str p.name), .dat (.int j)]) (e_acons (e_op (e_op (e_var rfl) (e_var rfl) ip) e_c i0') (e_acons (e_callO (ρ1 := [.own true (encPu v), .dat (encTr C L ps), .dat P, .dat (.int (0 + (k : Int))), x4, x5]) (d1 := encPu v) (p := true) (q := true) rfl (e_acons (e_fn (e_acons (e_var rfl) e_anil) hln) e_anil) rfl ed) e_anil)) rfl ?_
      have t1 : mMeth C "put" (plus (F_Track_put C) []) (mMeth C "without" (plus (F_Track_without C) []) (mVar 1) (aCons (mVar 4) aNil)) (aCons (mOp dIx (mVar 2) (mVar 3)) (aCons (mVar 3) aNil)) [.own true (encPu v2), .dat (encTr C L ps), .dat P, .dat (.int (0 + (k : Int))), .dat (.str p.name), .dat (.int j)] = some (encTr C L ps, [.own true (encPu v2), .dat (encTr C L ps), .dat P, .dat (.int (0 + (k : Int))), .dat (.str p.name), .dat (.int j)]) := e_methT (e_methT (e_var rfl) (by decide +kernel) (e_acons (e_var rfl) e_anil) a1) (by decide +kernel) (e_acons (e_op (e_var rfl) (e_var rfl) ip) (e_acons (e_var rfl) e_anil)) (by rw [zk]; exact a2)
      have t2 : mMeth C "moved" (plus (F_Track_moved C) []) (mMeth C "moved" (plus (F_Track_moved C) []) (mVar 1) (aCons (mVar 4) (aCons (mVar 5) aNil))) (aCons (mVar 4) (aCons (mVar 3) aNil)) [.own true (encPu v2), .dat (encTr C L ps), .dat P, .dat (.int (0 + (k : Int))), .dat (.str p.name), .dat (.int j)] = some (encTr C L ps, [.own true (encPu v2), .dat (encTr C L ps), .dat P, .dat (.int (0 + (k : Int))), .dat (.str p.name), .dat (.int j)]) := e_methT (e_methT (e_var rfl) (by decide +kernel) (e_acons (e_var rfl) (e_acons (e_var rfl) e_anil)) a3) (by decide +kernel) (e_acons (e_var rfl) (e_acons (e_var rfl) e_anil)) (by rw [zk]; exact a4)
      have t3 : mMeth C "changed" (plus (F_Track_changed C) []) (mMeth C "changed" (plus (F_Track_changed C) []) (mVar 1) (aCons (mTup (aCons (mVar 4) (aCons (mC (.str "glide")) (aCons (mOp dSub (mC (.int 100)) (mOp dIx (mOp dIx (mVar 2) (mVar 3)) (mC (.int 5)))) aNil)))) aNil)) (aCons (mTup (aCons (mVar 4) (aCons (mC (.str "glide")) (aCons (mOp dIx (mOp dIx (mVar 2) (mVar 3)) (mC (.int 5))) aNil)))) aNil) [.own true (encPu v2), .dat (encTr C L ps), .dat P, .dat (.int (0 + (k : Int))), .dat (.str p.name), .dat (.int j)] = some (encTr C L ps, [.own true (encPu v2), .dat (encTr C L ps), .dat P, .dat (.int (0 + (k : Int))), .dat (.str p.name), .dat (.int j)]) := e_methT (e_methT (e_var rfl) (by decide +kernel) (e_acons (e_tup (e_acons (e_var rfl) (e_acons e_c (e_acons (e_op e_c (e_op (e_op (e_var rfl) (e_var rfl) ip) e_c i5') sb) e_anil))) (len_le (by simp))) e_anil) b1) (by decide +kernel) (e_acons (e_tup (e_acons (e_var rfl) (e_acons e_c (e_acons (e_op (e_op (e_var rfl) (e_var rfl) ip) e_c i5') e_anil))) (len_le (by simp))) e_anil) b2
      have t4 : mMeth C "moved" (plus (F_Track_moved C) []) (mVar 1) (aCons (mVar 4) (aCons (mVar 3) aNil)) [.own true (encPu v2), .dat (encTr C L ps), .dat P, .dat (.int (0 + (k : Int))), .dat (.str p.name), .dat (.int j)] = some (encTr C L ps, [.own true (encPu v2), .dat (encTr C L ps), .dat P, .dat (.int (0 + (k : Int))), .dat (.str p.name), .dat (.int j)]) := e_methT (e_var rfl) (by decide +kernel) (e_acons (e_var rfl) (e_acons (e_var rfl) e_anil)) (by rw [zk]; exact a5)
      have t5 : mMeth C "changed" (plus (F_Track_changed C) []) (mVar 1) (aCons (mTup (aCons (mVar 4) (aCons (mC (.str "mode")) (aCons (mOp dIx (mOp dIx (mVar 2) (mVar 3)) (mC (.int 1))) aNil)))) aNil) [.own true (encPu v2), .dat (encTr C L ps), .dat P, .dat (.int (0 + (k : Int))), .dat (.str p.name), .dat (.int j)] = some (encTr C L ps, [.own true (encPu v2), .dat (encTr C L ps), .dat P, .dat (.int (0 + (k : Int))), .dat (.str p.name), .dat (.int j)]) := e_methT (e_var rfl) (by decide +kernel) (e_acons (e_tup (e_acons (e_var rfl) (e_acons e_c (e_acons (e_op (e_op (e_var rfl) (e_var rfl) ip) e_c i1') e_anil))) (len_le (by simp))) e_anil) a6
      refine st_if (p := false || false) (ρ1 := [.own true (encPu v2), .dat (encTr C L ps), .dat P, .dat (.int (0 + (k : Int))), .dat (.str p.name), .dat (.int j)]) (e_or (e_tst (e_op t1 (e_var rfl) sn)) (e_tst (e_op t2 (e_var rfl) sn))) (fun z => by cases z) fun _ => ?_
      refine st_nx ?_
      refine st_if (p := false) (ρ1 := [.own true (encPu v2), .dat (encTr C L ps), .dat P, .dat (.int (0 + (k : Int))), .dat (.str p.name), .dat (.int j)]) (e_tst (e_op t3 (e_var rfl) sn)) (fun z => by cases z) fun _ => ?_
      refine st_nx ?_
      refine sw_if (st_if (p := false || false) (ρ1 := [.own true (encPu v2), .dat (encTr C L ps), .dat P, .dat (.int (0 + (k : Int))), .dat (.str p.name), .dat (.int j)]) (e_or (e_tst (e_op t4 (e_var rfl) sn)) (e_tst (e_op t5 (e_var rfl) sn))) (fun z => by cases z) fun _ => ?_)
      refine st_nx ?_
      exact ⟨v2, _, _, _, rfl, hv2⟩
    · rintro ρ ⟨v, x3, x4, x5, rfl, hv⟩
      refine_lift' st
      exact ro_rt ⟨v, rfl, rfl, hv.mono (by omega)⟩
  obtain ⟨r, e, h1, u', rfl, rfl, h2⟩ := this
  exact ⟨u', h1, h2⟩
theorem new_names : ∀ x ∈ (["zz", "q", "old0"] : List Str), nameOk x = true ∧ x ≠ "old" ∧ PyData.strOk x = true ∧ x.length ≤ 1000 := by decide +kernel
set_option maxHeartbeats 4000000 in
theorem v_law_deed {m : Nat} {u : Pur} {n : Nat} {ps : List Ps} (hu : PurOk (m + 60) u) (h : PssOk n ps) (l1 : 1 ≤ n) (l2 : (n : Int) ≤ 1000000000000) : ∃ (rs : List Ps) (u' : Pur), F_law_deed C (encPu u) [encTr C n ps, .tup (ps.map encP)] = some (.tup [encTr C n rs, .tup (rs.map encP)], encPu u') ∧ PssOk n rs ∧ PurOk m u' := by
  have : ∃ r e, runO 3 9 (B_law_deed C) (encPu u) [encTr C n ps, .tup (ps.map encP)] = some (r, e) ∧ ∃ (rs : List Ps) (u' : Pur), r = .tup [encTr C n rs, .tup (rs.map encP)] ∧ e = encPu u' ∧ PssOk n rs ∧ PurOk m u' := by
    refine retOE ?_
    unfold B_law_deed
    have l1' : (1 : Int) ≤ (n : Int) := by omega
    have h8 := h.len
    have hln : dLen [.tup (ps.map encP)] = some (.int ps.length) := by
      show some (D.int ((ps.map encP).length : Nat)) = _
      rw [List.length_map]
    obtain ⟨way, u1, e1, w0, w1, hu1⟩ := v_law_draw C (m := m + 57) (hu.mono (by omega)) (n := 4) (by decide) (by decide)
    obtain ⟨xd, u2, e2, hxd, hu2⟩ := v_law_pick C (m := m + 56) hu1 (ds := (["zz", "q", "old0"] : List Str).map D.str) (by simp) (by simp)
    obtain ⟨x, hx, rfl⟩ := List.mem_map.mp hxd
    obtain ⟨nx1, nx2, nx3, nx4⟩ := new_names x hx
    obtain ⟨f, u3, e3, hfn, hfb, hu3⟩ := v_law_fader C (m := m + 6) (L := (n : Int)) x hu2 l1' l2
    obtain ⟨a, u4, e4, a0, a1, hu4⟩ := v_law_draw C (m := m + 5) hu3 (n := (ps.length : Int) + 1) (by omega) (by omega)
    obtain ⟨at', rfl⟩ : ∃ j : Nat, a = j := ⟨a.toNat, by omega⟩
    have fs : f.sane := sane_of hfb (by rw [hfn]; exact nx3) (by rw [hfn]; exact nx4)
    have fo : passOk (n : Int) f = true := passOk_of hfb (by rw [hfn]; exact nx1) (by rw [hfn]; exact nx2)
    have tl := v_Track_length C (n : Int) ps
    have if0 : dIx (encP f) (.int 0) = some (.str f.name) := rfl
    have if5 : dIx (encP f) (.int 5) = some (.int f.glide) := rfl
    have if6 : dIx (encP f) (.int 6) = some (.str f.tail) := rfl
    have ad1 : dAdd (.int ps.length) (.int 1) = some (.int ((ps.length : Int) + 1)) := rfl
    have ixP : ∀ (k : Nat) (p : Ps), ps[k]? = some p → dIx (.tup (ps.map encP)) (.int k) = some (encP p) := fun k p hk => atI_nat (by rw [List.getElem?_map, hk]; rfl)
    have sT := fun k => slT_take (ps.map encP) k
    have sD := fun k => slT_drop (ps.map encP) k
    have eN := eq_nil (gd_ps (ps := ps) fun p hp => h.sane p hp) (by decide)
    have iv : ∀ qs : List Ps, qs.length ≤ 8 → ∀ (j : Nat) (q : Ps), dAdd (.tup ((qs.map encP).take j)) (.tup [encP q]) = some (.tup ((qs.map encP).take j ++ [encP q])) ∧ dAdd (.tup ((qs.map encP).take j ++ [encP q])) (.tup ((qs.map encP).drop j)) = some (.tup ((ins qs j q).map encP)) := fun qs hq j q => by
      refine ⟨add_tup (by rw [List.length_take, List.length_map]; simp; omega), ?_⟩
      rw [add_tup (by rw [List.length_append, List.length_take, List.length_drop, List.length_map]; simp; omega)]
      unfold ins
      rw [List.map_append, List.map_cons, List.map_take, List.map_drop, List.append_assoc]; rfl
    have rv : ∀ k : Nat, dAdd (.tup ((ps.map encP).take k)) (.tup ((ps.map encP).drop (k + 1))) = some (.tup ((rm ps k).map encP)) := fun k => by
      rw [add_tup (by rw [List.length_take, List.length_drop, List.length_map]; omega)]
      unfold rm
      rw [List.map_append, List.map_take, List.map_drop]
    have iv8 := iv ps h8
    have si := strI_tr C h l2
    have rd := v_Track_read C h l1 l2
    have hnames : ∀ ρ : Cs, ρ.length = 12 → ρ[2]? = some (.dat (.tup (ps.map encP))) → ρ[6]? = some .no → mLc [6] (iSeq seqT (mVar 2)) (gNm 6) (mC true) (mOp dIx (mVar 6) (mC (.int 0))) ρ = some (.lst ((ps.map Ps.name).map D.str), ρ) := fun ρ hl h2 h6 => by
      obtain ⟨y0, y1, y2, y3, y4, y5, y6, y7, y8, y9, y10, y11, rfl⟩ : ∃ y0 y1 y2 y3 y4 y5 y6 y7 y8 y9 y10 y11, ρ = [y0, y1, y2, y3, y4, y5, y6, y7, y8, y9, y10, y11] := by
        match ρ, hl with
        | [y0, y1, y2, y3, y4, y5, y6, y7, y8, y9, y10, y11], _ => exact ⟨y0, y1, y2, y3, y4, y5, y6, y7, y8, y9, y10, y11, rfl⟩
      cases h2
      cases h6
      have hm := e_lcm (α := Ps) (vs := [6]) (it := iSeq seqT (mVar 2)) (g := gNm 6) (e := mOp dIx (mVar 6) (mC (.int 0))) (enc := encP) (f := fun p => D.str p.name) (xs := ps) (ρ := [y0, y1, .dat (.tup (ps.map encP)), y3, y4, y5, .no, y7, y8, y9, y10, y11]) (ρ1 := [y0, y1, .dat (.tup (ps.map encP)), y3, y4, y5, .no, y7, y8, y9, y10, y11]) (e_bd (v := .tup (ps.map encP)) (ρ1 := [y0, y1, .dat (.tup (ps.map encP)), y3, y4, y5, .no, y7, y8, y9, y10, y11]) (e_var rfl) (e_l rfl)) rfl (len_le (by omega)) (fun p _ => ⟨(), [y0, y1, .dat (.tup (ps.map encP)), y3, y4, y5, .dat (encP p), y7, y8, y9, y10, y11], rfl, [y0, y1, .dat (.tup (ps.map encP)), y3, y4, y5, .dat (encP p), y7, y8, y9, y10, y11], e_op (e_var rfl) e_c (show dIx (encP p) (.int 0) = some (.str p.name) from rfl), rfl⟩) rfl
      rw [List.map_map]
      exact hm
    have inN := in_strL (x := f.name) fs.name (ps.map Ps.name) (fun w hw => by
      obtain ⟨p, hp, rfl⟩ := List.mem_map.mp hw
      exact (h.sane p hp).name)
    have cm : ∀ ρ : Cs, ρ[1]? = some (.dat (encTr C (n : Int) ps)) → mCMeth C (F_Track_read C) (mC (.cls C)) (aCons (mFn (dStrI C (F_Track_str C)) (aCons (mVar 1) aNil)) aNil) ρ = some (encTr C (n : Int) ps, ρ) := fun ρ hr => by
      refine e_bd (v := .cls C) (ρ1 := ρ) rfl ?_
      simp only [if_true]
      exact e_bd (e_acons (e_fn (e_acons (e_var hr) e_anil) si) e_anil) (e_l rd)
    generalize hP : D.tup (ps.map encP) = P at *
    refine st_par (ds := [.int way, encP f]) (ρ1 := [.own true (encPu u3), .dat (encTr C (n : Int) ps), .dat P, .no, .no, .no, .no, .no, .no, .no, .no, .no]) (ρ2 := [.own true (encPu u3), .dat (encTr C (n : Int) ps), .dat P, .dat (.int way), .dat (encP f), .no, .no, .no, .no, .no, .no, .no]) (e_acons (e_callO (ρ1 := [.own true (encPu u), .dat (encTr C (n : Int) ps), .dat P, .no, .no, .no, .no, .no, .no, .no, .no, .no]) (d1 := encPu u) (p := true) (q := true) rfl (e_acons e_c e_anil) rfl e1) (e_acons (e_callO (ρ1 := [.own true (encPu u2), .dat (encTr C (n : Int) ps), .dat P, .no, .no, .no, .no, .no, .no, .no, .no, .no]) (d0 := encPu u1) (d1 := encPu u2) (p := true) (q := true) rfl (e_acons (e_callO (ρ1 := [.own true (encPu u1), .dat (encTr C (n : Int) ps), .dat P, .no, .no, .no, .no, .no, .no, .no, .no, .no]) (d1 := encPu u1) (p := true) (q := true) rfl (e_acons (e_lst (e_acons e_c (e_acons e_c (e_acons e_c e_anil))) (len_le (by simp))) e_anil) rfl e2) (e_acons (e_propT (e_var rfl) tl) e_anil)) rfl e3) e_anil)) rfl ?_
    refine st_set (d := .int (at' : Nat)) (ρ1 := [.own true (encPu u4), .dat (encTr C (n : Int) ps), .dat P, .dat (.int way), .dat (encP f), .no, .no, .no, .no, .no, .no, .no]) (e_callO (ρ1 := [.own true (encPu u3), .dat (encTr C (n : Int) ps), .dat P, .dat (.int way), .dat (encP f), .no, .no, .no, .no, .no, .no, .no]) (d1 := encPu u3) (p := true) (q := true) rfl (e_acons (e_op (e_fn (e_acons (e_var rfl) e_anil) hln) e_c ad1) e_anil) rfl e4) ?_
    refine st_if (p := (way == 0) || (ps.map encP).isEmpty) (ρ1 := [.own true (encPu u4), .dat (encTr C (n : Int) ps), .dat P, .dat (.int way), .dat (encP f), .dat (.int (at' : Nat)), .no, .no, .no, .no, .no, .no]) (e_or (e_tst (e_op (e_var rfl) e_c (eq_int way 0))) (e_tst (e_op (e_var rfl) (e_tup e_anil (len_le (by simp))) eN))) (fun _ => ?_) (fun hz => ?_)
    · refine st_assoc ?_
      refine st_if (p := ((ps.length : Int) == 8) || (ps.map Ps.name).contains f.name) (ρ1 := [.own true (encPu u4), .dat (encTr C (n : Int) ps), .dat P, .dat (.int way), .dat (encP f), .dat (.int (at' : Nat)), .no, .no, .no, .no, .no, .no]) (e_or (e_tst (e_op (e_fn (e_acons (e_var rfl) e_anil) hln) e_c (eq_int _ 8))) (e_tst (e_op (e_op (e_var rfl) e_c if0) (hnames _ rfl rfl rfl) inN))) (fun _ => ?_) (fun hc => ?_)
      · refine st_ret (d := .tup [encTr C n ps, P]) (ρ1 := [.own true (encPu u4), .dat (encTr C (n : Int) ps), .dat P, .dat (.int way), .dat (encP f), .dat (.int (at' : Nat)), .no, .no, .no, .no, .no, .no]) (e_tup (e_acons (cm _ rfl) (e_acons (e_var rfl) e_anil)) (len_le (by simp))) ?_
        exact ro_rt ⟨ps, u4, by rw [hP], rfl, h, hu4.mono (by omega)⟩
      · simp only [Bool.or_eq_false_iff, beq_eq_false_iff_ne, ne_eq] at hc
        have hl7 : ps.length < 8 := by omega
        have hn : f.name ∉ ps.map Ps.name := fun z => by
          have := List.contains_iff_mem.mpr z
          rw [hc.2] at this
          cases this
        have hps := h.more hl7 hn fs fo at'
        have hput := v_put C hps l1' l2 (by omega)
        obtain ⟨v1, v2⟩ := iv8 at' f
        refine st_nx ?_
        refine st_ret (d := .tup [encTr C n (ins ps at' f), .tup ((ins ps at' f).map encP)]) (ρ1 := [.own true (encPu u4), .dat (encTr C (n : Int) ps), .dat P, .dat (.int way), .dat (encP f), .dat (.int (at' : Nat)), .no, .no, .no, .no, .no, .no]) (e_tup (e_acons (e_methT (e_var rfl) (by decide +kernel) (e_acons (e_var rfl) (e_acons (e_var rfl) e_anil)) hput) (e_acons (e_op (e_op (e_sl (e_var rfl) e_no (e_part (e_var rfl)) (sT at')) (e_tup (e_acons (e_var rfl) e_anil) (len_le (by simp))) v1) (e_sl (e_var rfl) (e_part (e_var rfl)) e_no (sD at')) v2) e_anil)) (len_le (by simp))) ?_
        exact ro_rt ⟨ins ps at' f, u4, rfl, rfl, hps, hu4.mono (by omega)⟩
    · simp only [Bool.or_eq_false_iff, beq_eq_false_iff_ne, ne_eq] at hz
      have hne : 1 ≤ ps.length := by
        cases ps with
        | nil => exact absurd hz.2 (by simp)
        | cons _ _ => simp
      refine st_nx ?_
      obtain ⟨c, u5, e5, c0, c1, hu5⟩ := v_law_draw C (m := m + 4) hu4 (n := (ps.length : Int)) (by omega) (by omega)
      obtain ⟨k, rfl⟩ : ∃ j : Nat, c = j := ⟨c.toNat, by omega⟩
      have hkl : k < ps.length := by omega
      obtain ⟨p, hp⟩ : ∃ p, ps[k]? = some p := ⟨_, List.getElem?_eq_getElem hkl⟩
      have hmem := List.mem_of_getElem? hp
      have ip := ixP k p hp
      have ip0 : dIx (encP p) (.int 0) = some (.str p.name) := rfl
      have rmv := rv k
      have hrl := rm_len hkl
      obtain ⟨b, hb, hb1⟩ : ∃ b : Nat, dMin [.int (at' : Nat), .int ((ps.length : Int) - 1)] = some (.int (b : Nat)) ∧ b < ps.length := by
        have : dMin [.int (at' : Nat), .int ((ps.length : Int) - 1)] = some (.int (if (ps.length : Int) - 1 < (at' : Int) then (ps.length : Int) - 1 else (at' : Int))) := rfl
        by_cases q : (ps.length : Int) - 1 < (at' : Int)
        · rw [if_pos q] at this
          exact ⟨ps.length - 1, by rw [this, show ((ps.length - 1 : Nat) : Int) = (ps.length : Int) - 1 by omega], by omega⟩
        · rw [if_neg q] at this
          exact ⟨at', this, by omega⟩
      have k1 : (k : Int) + 1 = ((k + 1 : Nat) : Int) := by omega
      have adk : dAdd (.int (k : Nat)) (.int 1) = some (.int ((k + 1 : Nat) : Int)) := by rw [← k1]; rfl
      have sb1 : dSub (.int ps.length) (.int 1) = some (.int ((ps.length : Int) - 1)) := rfl
      have wo := v_without C h l1' l2 hp
      have mo := v_moved C h l1' l2 hp hb1
      have hrm : PssOk n (rm ps k) := h.sub (by
        have : (ps.take k ++ ps.drop (k + 1)).Sublist (ps.take k ++ ps.drop k) := List.Sublist.append (List.Sublist.refl _) (by rw [← List.drop_drop]; exact List.drop_sublist _ _)
        rwa [List.take_append_drop] at this)
      have hmv := h.perm (ins_rm_perm hp b)
      obtain ⟨vr1, vr2⟩ := iv (rm ps k) hrm.len b p
      have sTr := slT_take ((rm ps k).map encP) b
      have sDr := slT_drop ((rm ps k).map encP) b
      have fg := hfb.gl
      have ft := hfb.tail
      obtain ⟨c1', c2'⟩ := v_tail C h l1' l2 hp ft
      have g1 : (ins (rm ps k) k { p with tail := f.tail })[k]? = some { p with tail := f.tail } := ins_get (by omega)
      obtain ⟨c3', c4'⟩ := v_glide C c2' l1' l2 g1 fg.1 fg.2
      rw [rm_ins (by omega)] at c3' c4'
      obtain ⟨d1', d2'⟩ := v_glide C h l1' l2 hp fg.1 fg.2
      have g2 : (ins (rm ps k) k { p with glide := f.glide })[k]? = some { p with glide := f.glide } := ins_get (by omega)
      obtain ⟨d3', d4'⟩ := v_tail C d2' l1' l2 g2 ft
      rw [rm_ins (by omega)] at d3'
      have eB : ({ ({ p with glide := f.glide } : Ps) with tail := f.tail } : Ps) = { p with glide := f.glide, tail := f.tail } := rfl
      have eB2 : ({ ({ p with tail := f.tail } : Ps) with glide := f.glide } : Ps) = { p with glide := f.glide, tail := f.tail } := rfl
      rw [eB] at d3'
      rw [eB2] at c3' c4'
      obtain ⟨vb1, vb2⟩ := iv8 k { p with glide := f.glide, tail := f.tail }
      have s5 : dSl (encP p) none (some 5) = some (.tup [.str p.name, .str p.mode, .int p.first, .int p.last, .tup (p.touches.map encT)]) := rfl
      have a5 : dAdd (.tup [.str p.name, .str p.mode, .int p.first, .int p.last, .tup (p.touches.map encT)]) (.tup [.int f.glide, .str f.tail]) = some (encP { p with glide := f.glide, tail := f.tail }) := add_tup (by simp)
      have vb3 : dAdd (.tup ((ps.map encP).take k ++ [encP { p with glide := f.glide, tail := f.tail }])) (.tup ((ps.map encP).drop (k + 1))) = some (.tup ((ins (rm ps k) k { p with glide := f.glide, tail := f.tail }).map encP)) := by
        rw [add_tup (by rw [List.length_append, List.length_take, List.length_drop, List.length_map]; simp; omega)]
        have l : (ps.take k).length = k := by rw [List.length_take]; omega
        have : ins (rm ps k) k { p with glide := f.glide, tail := f.tail } = ps.take k ++ { p with glide := f.glide, tail := f.tail } :: ps.drop (k + 1) := by
          unfold ins rm
          rw [List.take_append_of_le_length (by omega), List.drop_append_of_le_length (by omega), List.take_of_length_le (by omega), List.drop_of_length_le (by omega), List.nil_append]
        rw [this, List.map_append, List.map_cons, List.map_take, List.map_drop, List.append_assoc]; rfl
      have sn := same_ne C c4'
      generalize hbn : ({ p with glide := f.glide, tail := f.tail } : Ps) = bent at *
      generalize hqs : ins (rm ps k) k bent = qs at *
      generalize hRS : D.tup ((rm ps k).map encP) = RS at *
      refine st_set (d := .int (k : Nat)) (ρ1 := [.own true (encPu u5), .dat (encTr C (n : Int) ps), .dat P, .dat (.int way), .dat (encP f), .dat (.int (at' : Nat)), .no, .no, .no, .no, .no, .no]) (e_callO (ρ1 := [.own true (encPu u4), .dat (encTr C (n : Int) ps), .dat P, .dat (.int way), .dat (encP f), .dat (.int (at' : Nat)), .no, .no, .no, .no, .no, .no]) (d1 := encPu u4) (p := true) (q := true) rfl (e_acons (e_fn (e_acons (e_var rfl) e_anil) hln) e_anil) rfl e5) ?_
      refine st_par (ds := [.str p.name, RS, .int (b : Nat)]) (ρ1 := [.own true (encPu u5), .dat (encTr C (n : Int) ps), .dat P, .dat (.int way), .dat (encP f), .dat (.int (at' : Nat)), .no, .dat (.int (k : Nat)), .no, .no, .no, .no]) (ρ2 := [.own true (encPu u5), .dat (encTr C (n : Int) ps), .dat P, .dat (.int way), .dat (encP f), .dat (.int (b : Nat)), .no, .dat (.int (k : Nat)), .dat (.str p.name), .dat RS, .no, .no]) (e_acons (e_op (e_op (e_var rfl) (e_var rfl) ip) e_c ip0) (e_acons (e_op (e_sl (e_var rfl) e_no (e_part (e_var rfl)) (sT k)) (e_sl (e_var rfl) (e_part (e_op (e_var rfl) e_c adk)) e_no (sD (k + 1))) rmv) (e_acons (e_fn (e_acons (e_var rfl) (e_acons (e_op (e_fn (e_acons (e_var rfl) e_anil) hln) e_c sb1) e_anil)) hb) e_anil))) rfl ?_
      refine st_if (p := (way == 1)) (ρ1 := [.own true (encPu u5), .dat (encTr C (n : Int) ps), .dat P, .dat (.int way), .dat (encP f), .dat (.int (b : Nat)), .no, .dat (.int (k : Nat)), .dat (.str p.name), .dat RS, .no, .no]) (e_tst (e_op (e_var rfl) e_c (eq_int way 1))) (fun _ => ?_) (fun _ => ?_)
      · refine st_ret (d := .tup [encTr C n (rm ps k), RS]) (ρ1 := [.own true (encPu u5), .dat (encTr C (n : Int) ps), .dat P, .dat (.int way), .dat (encP f), .dat (.int (b : Nat)), .no, .dat (.int (k : Nat)), .dat (.str p.name), .dat RS, .no, .no]) (e_tup (e_acons (e_methT (e_var rfl) (by decide +kernel) (e_acons (e_var rfl) e_anil) wo) (e_acons (e_var rfl) e_anil)) (len_le (by simp))) ?_
        exact ro_rt ⟨rm ps k, u5, by rw [hRS], rfl, hrm, hu5.mono (by omega)⟩
      refine st_nx ?_
      refine st_if (p := (way == 2)) (ρ1 := [.own true (encPu u5), .dat (encTr C (n : Int) ps), .dat P, .dat (.int way), .dat (encP f), .dat (.int (b : Nat)), .no, .dat (.int (k : Nat)), .dat (.str p.name), .dat RS, .no, .no]) (e_tst (e_op (e_var rfl) e_c (eq_int way 2))) (fun _ => ?_) (fun _ => ?_)
      · refine st_ret (d := .tup [encTr C n (ins (rm ps k) b p), .tup ((ins (rm ps k) b p).map encP)]) (ρ1 := [.own true (encPu u5), .dat (encTr C (n : Int) ps), .dat P, .dat (.int way), .dat (encP f), .dat (.int (b : Nat)), .no, .dat (.int (k : Nat)), .dat (.str p.name), .dat RS, .no, .no]) (e_tup (e_acons (e_methT (e_var rfl) (by decide +kernel) (e_acons (e_var rfl) (e_acons (e_var rfl) e_anil)) mo) (e_acons (e_op (e_op (e_sl (e_var rfl) e_no (e_part (e_var rfl)) sTr) (e_tup (e_acons (e_op (e_var rfl) (e_var rfl) ip) e_anil) (len_le (by simp))) vr1) (e_sl (e_var rfl) (e_part (e_var rfl)) e_no sDr) vr2) e_anil)) (len_le (by simp))) ?_
        exact ro_rt ⟨ins (rm ps k) b p, u5, rfl, rfl, hmv, hu5.mono (by omega)⟩
      refine st_nx ?_
      refine st_set (d := encP bent) (ρ1 := [.own true (encPu u5), .dat (encTr C (n : Int) ps), .dat P, .dat (.int way), .dat (encP f), .dat (.int (b : Nat)), .no, .dat (.int (k : Nat)), .dat (.str p.name), .dat RS, .no, .no]) (e_op (e_sl (e_op (e_var rfl) (e_var rfl) ip) e_no (e_part e_c) s5) (e_tup (e_acons (e_op (e_var rfl) e_c if5) (e_acons (e_op (e_var rfl) e_c if6) e_anil)) (len_le (by simp))) a5) ?_
      have t1 : mMeth C "changed" (plus (F_Track_changed C) []) (mMeth C "changed" (plus (F_Track_changed C) []) (mVar 1) (aCons (mTup (aCons (mVar 8) (aCons (mC (.str "tail")) (aCons (mOp dIx (mVar 4) (mC (.int 6))) aNil)))) aNil)) (aCons (mTup (aCons (mVar 8) (aCons (mC (.str "glide")) (aCons (mOp dIx (mVar 4) (mC (.int 5))) aNil)))) aNil) [.own true (encPu u5), .dat (encTr C (n : Int) ps), .dat P, .dat (.int way), .dat (encP f), .dat (.int (b : Nat)), .no, .dat (.int (k : Nat)), .dat (.str p.name), .dat RS, .dat (encP bent), .no] = some (encTr C n qs, [.own true (encPu u5), .dat (encTr C (n : Int) ps), .dat P, .dat (.int way), .dat (encP f), .dat (.int (b : Nat)), .no, .dat (.int (k : Nat)), .dat (.str p.name), .dat RS, .dat (encP bent), .no]) := e_methT (e_methT (e_var rfl) (by decide +kernel) (e_acons (e_tup (e_acons (e_var rfl) (e_acons e_c (e_acons (e_op (e_var rfl) e_c if6) e_anil))) (len_le (by simp))) e_anil) c1') (by decide +kernel) (e_acons (e_tup (e_acons (e_var rfl) (e_acons e_c (e_acons (e_op (e_var rfl) e_c if5) e_anil))) (len_le (by simp))) e_anil) c3'
      have t2 : mMeth C "changed" (plus (F_Track_changed C) []) (mMeth C "changed" (plus (F_Track_changed C) []) (mVar 1) (aCons (mTup (aCons (mVar 8) (aCons (mC (.str "glide")) (aCons (mOp dIx (mVar 4) (mC (.int 5))) aNil)))) aNil)) (aCons (mTup (aCons (mVar 8) (aCons (mC (.str "tail")) (aCons (mOp dIx (mVar 4) (mC (.int 6))) aNil)))) aNil) [.own true (encPu u5), .dat (encTr C (n : Int) ps), .dat P, .dat (.int way), .dat (encP f), .dat (.int (b : Nat)), .no, .dat (.int (k : Nat)), .dat (.str p.name), .dat RS, .dat (encP bent), .dat (encTr C (n : Int) qs)] = some (encTr C n qs, [.own true (encPu u5), .dat (encTr C (n : Int) ps), .dat P, .dat (.int way), .dat (encP f), .dat (.int (b : Nat)), .no, .dat (.int (k : Nat)), .dat (.str p.name), .dat RS, .dat (encP bent), .dat (encTr C (n : Int) qs)]) := e_methT (e_methT (e_var rfl) (by decide +kernel) (e_acons (e_tup (e_acons (e_var rfl) (e_acons e_c (e_acons (e_op (e_var rfl) e_c if5) e_anil))) (len_le (by simp))) e_anil) d1') (by decide +kernel) (e_acons (e_tup (e_acons (e_var rfl) (e_acons e_c (e_acons (e_op (e_var rfl) e_c if6) e_anil))) (len_le (by simp))) e_anil) d3'
      refine st_set (d := encTr C n qs) (ρ1 := [.own true (encPu u5), .dat (encTr C (n : Int) ps), .dat P, .dat (.int way), .dat (encP f), .dat (.int (b : Nat)), .no, .dat (.int (k : Nat)), .dat (.str p.name), .dat RS, .dat (encP bent), .no]) t1 ?_
      refine st_if (p := false) (ρ1 := [.own true (encPu u5), .dat (encTr C (n : Int) ps), .dat P, .dat (.int way), .dat (encP f), .dat (.int (b : Nat)), .no, .dat (.int (k : Nat)), .dat (.str p.name), .dat RS, .dat (encP bent), .dat (encTr C (n : Int) qs)]) (e_tst (e_op (e_var rfl) t2 sn)) (fun z => by cases z) fun _ => ?_
      refine st_nx ?_
      refine sw_ret ?_
      refine st_ret (d := .tup [encTr C n qs, .tup (qs.map encP)]) (ρ1 := [.own true (encPu u5), .dat (encTr C (n : Int) ps), .dat P, .dat (.int way), .dat (encP f), .dat (.int (b : Nat)), .no, .dat (.int (k : Nat)), .dat (.str p.name), .dat RS, .dat (encP bent), .dat (encTr C (n : Int) qs)]) (e_tup (e_acons (e_var rfl) (e_acons (e_op (e_op (e_sl (e_var rfl) e_no (e_part (e_var rfl)) (sT k)) (e_tup (e_acons (e_var rfl) e_anil) (len_le (by simp))) vb1) (e_sl (e_var rfl) (e_part (e_op (e_var rfl) e_c adk)) e_no (sD (k + 1))) vb3) e_anil)) (len_le (by simp))) ?_
      exact ro_rt ⟨qs, u5, rfl, rfl, c4', hu5.mono (by omega)⟩
  obtain ⟨r, e, h1, rs, u', rfl, rfl, h2, h3⟩ := this
  exact ⟨rs, u', h1, h2, h3⟩
end
end My
set_option exponentiation.threshold 20000
namespace My
open PySem PySem.Spec PyProof.Rows L2 DL
theorem repr_tr3 {n : Nat} {ps : List Ps} (h : PssOk n ps) (h2 : (n : Int) ≤ 1000000000000) : dRepr [.lst [.int (n : Int), .tup (ps.map encP), .tup (ps.map fun p => D.str p.name)]] = some (.str (toP (.lst [.int (n : Int), .tup (ps.map encP), .tup (ps.map fun p => D.str p.name)])).shown) := by
  have h8 := h.len
  have e : toP (.lst [.int (n : Int), .tup (ps.map encP), .tup (ps.map fun p => D.str p.name)]) = .list [.int (n : Int), .tuple (toPs (ps.map encP)), .tuple (toPs (ps.map fun p => D.str p.name))] := rfl
  have a : L2.ShA 488 4 (toPs (ps.map encP)) := (shs (n := 60) (k := 4) fun d hd => by
    obtain ⟨p, hp, rfl⟩ := List.mem_map.mp hd
    exact L2.pass_sh h2 (pass_text (h.ok p hp))).mono (by rw [List.length_map]; omega) (Nat.le_refl _)
  have b : L2.ShA 72 0 (toPs (ps.map fun p => D.str p.name)) := (shs (n := 8) (k := 0) fun d hd => by
    obtain ⟨p, hp, rfl⟩ := List.mem_map.mp hd
    have l8 := name8 (b_of_pass (h.ok p hp)).2.1
    exact (L2.Sh.str ⟨by omega, (h.sane p hp).name⟩).mono l8 (Nat.le_refl _)).mono (by rw [List.length_map]; omega) (Nat.le_refl _)
  have s : L2.Sh 600 6 (toP (.lst [.int (n : Int), .tup (ps.map encP), .tup (ps.map fun p => D.str p.name)])) := by
    rw [e]
    exact (L2.ShA.lst (.cons (.int (i := (n : Int)) (by omega)) (.cons a.tup (.cons b.tup .nil)))).mono (by omega) (by omega)
  refine repr_lst (m := 5) (gd_lst fun d hd => ?_) s (by decide) (by decide)
  simp only [List.mem_cons, List.not_mem_nil, or_false] at hd
  rcases hd with rfl | rfl | rfl
  · exact gd_int _ _
  · exact gd_ps fun p hp => h.sane p hp
  · exact (gd_tup (n := 0) fun d hd => by
      obtain ⟨p, hp, rfl⟩ := List.mem_map.mp hd
      exact gd_str _ (h.sane p hp).name).up (by decide)
section
variable (C : Addr)
set_option maxHeartbeats 4000000 in
theorem v_law_right {m : Nat} {u : Pur} (hu : PurOk (m + 1200) u) : ∃ u' : Pur, F_law_right C (encPu u) [] = some (.bl true, encPu u') ∧ PurOk m u' := by
  have : ∃ r e, runO 1 5 (B_law_right C) (encPu u) [] = some (r, e) ∧ ∃ u' : Pur, r = .bl true ∧ e = encPu u' ∧ PurOk m u' := by
    refine retOE ?_
    unfold B_law_right
    obtain ⟨n, u1, e1, n1, n2, hu1⟩ := v_law_long C (m := m + 700 + 50 * 6 + 2) (hu.mono (by omega))
    obtain ⟨ps, u2, e2, ⟨nn, hrow⟩, hpl, hu2⟩ := v_law_faders C (m := m + 700) (many := 6) (L := (n : Int)) hu1 (by decide) (by omega) (by omega)
    have hps : PssOk (n : Int) ps := hrow.pss ((allWords_ok.perm (rot_perm _ _)).take 8) (by omega)
    have hn2 : (n : Int) ≤ 1000000000000 := by omega
    have mk := v_Track_init C n ps hps (by omega) hn2
    refine st_set (d := .int n) (ρ1 := [.own true (encPu u1), .no, .no, .no, .no, .no]) (e_callO (ρ1 := [.own true (encPu u), .no, .no, .no, .no, .no]) (d1 := encPu u) (p := true) (q := true) rfl e_anil rfl e1) ?_
    refine st_set (d := .tup (ps.map encP)) (ρ1 := [.own true (encPu u2), .dat (.int n), .no, .no, .no, .no]) (e_callO (ρ1 := [.own true (encPu u1), .dat (.int n), .no, .no, .no, .no]) (d1 := encPu u1) (p := true) (q := true) rfl (e_acons (e_var rfl) (e_acons e_c e_anil)) rfl e2) ?_
    refine st_set (d := encTr C n ps) (ρ1 := [.own true (encPu u2), .dat (.int n), .dat (.tup (ps.map encP)), .no, .no, .no]) (e_make (e_acons (e_var rfl) (e_acons (e_var rfl) e_anil)) mk) ?_
    refine st_forN (n := 10) (ρ1 := [.own true (encPu u2), .dat (.int n), .dat (.tup (ps.map encP)), .dat (encTr C n ps), .no, .no]) (it_rng1 (e_acons e_c e_anil) (by decide)) (fun j ρ => ∃ (v : Pur) (qs : List Ps) (x : Cell), ρ = [.own true (encPu v), .dat (.int n), .dat (.tup (qs.map encP)), .dat (encTr C n qs), x, .no] ∧ PssOk n qs ∧ PurOk (m + 70 * (10 - j)) v) ⟨u2, ps, _, rfl, hps, hu2.mono (by omega)⟩ ?_ ?_
    · rintro j ρ hj ⟨v, qs, x, rfl, hqs, hv⟩
      obtain ⟨rs, v2, e3, hrs, hv2⟩ := v_law_deed C (m := m + 70 * (10 - (j + 1)) + 8) (hv.mono (by omega)) hqs n1 hn2
      obtain ⟨v3, e4, hv3⟩ := v_law_back C (m := m + 70 * (10 - (j + 1))) (hv2.mono (by have := hrs.len; omega)) hrs (by omega) hn2
      have h8 := hrs.len
      have tl := v_Track_length C (n : Int) rs
      have tp := v_Track_passes C (n : Int) rs
      have tn := v_Track_names C (n : Int) rs h8
      have rp := repr_tr3 hrs hn2
      have ns := ne_str (toP (.lst [.int (n : Int), .tup (rs.map encP), .tup (rs.map fun p => D.str p.name)])).shown
      have mk := v_Track_init C n rs hrs (by omega) hn2
      have sn := same_ne C hrs
      have tu : dTuple [.lst (rs.map fun p => D.str p.name)] = some (.tup (rs.map fun p => D.str p.name)) := rfl
      have hm := e_lcm (α := Ps) (vs := [5]) (it := iSeq seqT (mVar 2)) (g := gNm 5) (e := mOp dIx (mVar 5) (mC (.int 0))) (enc := encP) (f := fun p => D.str p.name) (xs := rs) (ρ := [.own true (encPu v2), .dat (.int n), .dat (.tup (rs.map encP)), .dat (encTr C n rs), .dat (.int (0 + (j : Int))), .no]) (ρ1 := [.own true (encPu v2), .dat (.int n), .dat (.tup (rs.map encP)), .dat (encTr C n rs), .dat (.int (0 + (j : Int))), .no]) (e_bd (v := .tup (rs.map encP)) (ρ1 := [.own true (encPu v2), .dat (.int n), .dat (.tup (rs.map encP)), .dat (encTr C n rs), .dat (.int (0 + (j : Int))), .no]) (e_var rfl) (e_l rfl)) rfl (len_le (by omega)) (fun p _ => ⟨(), [.own true (encPu v2), .dat (.int n), .dat (.tup (rs.map encP)), .dat (encTr C n rs), .dat (.int (0 + (j : Int))), .dat (encP p)], rfl, [.own true (encPu v2), .dat (.int n), .dat (.tup (rs.map encP)), .dat (encTr C n rs), .dat (.int (0 + (j : Int))), .dat (encP p)], e_op (e_var rfl) e_c (show dIx (encP p) (.int 0) = some (.str p.name) from rfl), rfl⟩) rfl
      generalize (toP (.lst [.int (n : Int), .tup (rs.map encP), .tup (rs.map fun p => D.str p.name)])).shown = S at rp ns
      generalize D.tup (rs.map fun p => D.str p.name) = NT at *
      generalize D.lst (rs.map fun p => D.str p.name) = NL at *
      refine ⟨(), [.own true (encPu v), .dat (.int n), .dat (.tup (qs.map encP)), .dat (encTr C n qs), .dat (.int (0 + (j : Int))), .no], rfl, ?_⟩
      refine st_asg (d := .tup [encTr C n rs, .tup (rs.map encP)]) (ρ1 := [.own true (encPu v2), .dat (.int n), .dat (.tup (qs.map encP)), .dat (encTr C n qs), .dat (.int (0 + (j : Int))), .no]) (ρ2 := [.own true (encPu v2), .dat (.int n), .dat (.tup (rs.map encP)), .dat (encTr C n rs), .dat (.int (0 + (j : Int))), .no]) (e_callO (ρ1 := [.own true (encPu v), .dat (.int n), .dat (.tup (qs.map encP)), .dat (encTr C n qs), .dat (.int (0 + (j : Int))), .no]) (d1 := encPu v) (p := true) (q := true) rfl (e_acons (e_var rfl) (e_acons (e_var rfl) e_anil)) rfl e3) (by rfl) ?_
      refine st_if (p := false) (ρ1 := [.own true (encPu v2), .dat (.int n), .dat (.tup (rs.map encP)), .dat (encTr C n rs), .dat (.int (0 + (j : Int))), .no]) (e_tst (e_op (e_fn (e_acons (e_lst (e_acons (e_propT (e_var rfl) tl) (e_acons (e_propT (e_var rfl) tp) (e_acons (e_propT (e_var rfl) tn) e_anil))) (len_le (by simp))) e_anil) rp) (e_fn (e_acons (e_lst (e_acons (e_var rfl) (e_acons (e_var rfl) (e_acons (e_fn (e_acons (e_as hm rfl rfl) e_anil) tu) e_anil))) (len_le (by simp))) e_anil) rp) ns)) (fun z => by cases z) fun _ => ?_
      refine st_nx ?_
      refine sw_if (st_if (p := false || !true) (ρ1 := [.own true (encPu v3), .dat (.int n), .dat (.tup (rs.map encP)), .dat (encTr C n rs), .dat (.int (0 + (j : Int))), .no]) ?_ (fun z => by cases z) fun _ => ?_)
      · refine e_bd (e_tst (ρ1 := [.own true (encPu v2), .dat (.int n), .dat (.tup (rs.map encP)), .dat (encTr C n rs), .dat (.int (0 + (j : Int))), .no]) (e_op (e_var rfl) (e_make (e_acons (e_var rfl) (e_acons (e_var rfl) e_anil)) mk) sn)) ?_
        exact e_not (e_tst (e_callO (ρ1 := [.own true (encPu v2), .dat (.int n), .dat (.tup (rs.map encP)), .dat (encTr C n rs), .dat (.int (0 + (j : Int))), .no]) (d1 := encPu v2) (p := true) (q := true) rfl (e_acons (e_var rfl) (e_acons (e_var rfl) e_anil)) rfl e4))
      refine st_nx ?_
      exact ⟨v3, rs, _, rfl, hrs, hv3⟩
    · rintro ρ ⟨v, qs, x, rfl, hqs, hv⟩
      refine_lift' st
      exact ro_rt ⟨v, rfl, rfl, hv.mono (by omega)⟩
  obtain ⟨r, e, h1, u', rfl, rfl, h2⟩ := this
  exact ⟨u', h1, h2⟩
theorem v_law {ns : List Int} (hb : ∀ z ∈ ns, Builtin.Int.intBits z ≤ 1048576) : F_law C [.scr ns] = some (.bl true) := by
  obtain ⟨n, hn, n5⟩ : ∃ n : Nat, (if (if (5 : Int) < (ns.length : Int) then 5 else (ns.length : Int)) > 2 then (if (5 : Int) < (ns.length : Int) then 5 else (ns.length : Int)) else 2) = (n : Int) ∧ n ≤ 5 := by
    refine ⟨(if (if (5 : Int) < (ns.length : Int) then 5 else (ns.length : Int)) > 2 then (if (5 : Int) < (ns.length : Int) then 5 else (ns.length : Int)) else 2).toNat, ?_, ?_⟩ <;> split <;> (try split) <;> omega
  have m1 : dMin [.int ns.length, .int 5] = some (.int (if (5 : Int) < (ns.length : Int) then 5 else (ns.length : Int))) := rfl
  have m2 : dMax [.int 2, .int (if (5 : Int) < (ns.length : Int) then 5 else (ns.length : Int))] = some (.int n) := by
    rw [← hn]; rfl
  have hl : dLen [.scr ns] = some (.int ns.length) := rfl
  refine retF ?_
  unfold B_law
  refine st_forN (n := n) (ρ1 := [.dat (.scr ns), .no]) ?_ (fun j ρ => ∃ x, ρ = [.dat (.scr ns), x]) ⟨_, rfl⟩ ?_ ?_
  · refine it_rng1 ?_ (by omega)
    refine_lift' eva [hl, m1, m2]
  · rintro j ρ hj ⟨x, rfl⟩
    obtain ⟨u, hp, hu⟩ := v_law_purse C hb (k := j) (by omega)
    obtain ⟨e1, hr, _⟩ := v_law_right C (m := 100) (u := u) (hu.mono (by omega))
    refine ⟨(), [.dat (.scr ns), .dat (.int (j : Int))], by rw [show (0 : Int) + (j : Int) = (j : Int) by omega]; rfl, ?_⟩
    refine_lift' st [hp, hr]
    · intro h; cases h
    · intro _
      refine_lift' st
      exact ⟨_, rfl⟩
  · rintro ρ ⟨x, rfl⟩
    refine_lift' st
    exact rq_rt rfl
end
end My
namespace My
open PySem PySem.Spec PyProof.Rows L2 DL
theorem sqL_fz {K : PySem.W.Frag} {H : Hp} {a : Addr} {xs : List V} (o : Only H) (h : SqL K H a xs) : SqL K (fz H) a xs := by
  rcases h with (h | ⟨ob, h⟩) | h
  · rcases o a with z | ⟨_, _, z⟩
    · rw [h] at z; cases z
    · rw [h] at z; cases z
  · exact .inl (.inr ⟨_, fz_of h⟩)
  · exact .inr h
def spEnd (K : PySem.W.Frag) : Sp := fun vs H Q _ => ∃ (s : Addr) (ns : List Int), vs = [.ref s] ∧ SqL K (fz H) s (ns.map V.int) ∧ ns.length ≤ 63 ∧ (∀ z ∈ ns, Builtin.Int.intBits z ≤ 1048576) ∧ ∀ H', Q (.bl true) H'
theorem spEnd_of {P : Program} {w : World} {K : PySem.W.Frag} {mg : Str → Option Value} {base : Heap} {k : Nat} {f : Addr} {fd : FuncData} {F : List D → Option D} (h : FnG P w K mg base CX0 k f fd ["script"] (spF K 1 F))
    (t : ∀ ns : List Int, ns.length ≤ 63 → (∀ z ∈ ns, Builtin.Int.intBits z ≤ 1048576) → F [.scr ns] = some (.bl true)) : FnG P w K mg base CX0 k f fd ["script"] (spEnd K) := by
  have go : ∀ vs H Q E, spEnd K vs H Q E → spF K 1 F vs H Q E := by
    rintro vs H Q E ⟨s, ns, rfl, hS, hl, hb, q⟩
    exact ⟨fun _ => False, [.scr ns], .bl true, fun _ z => z.elim, .cons (.scr hS) .nil, rfl, t ns hl hb, fun u H' _ hd => by cases hd; exact q H'⟩
  exact ⟨fun vs H Q E q => h.size vs H Q E (go _ _ _ _ q), fun A outer s H args us vs Q E hg hr he hb hv hs => h.runs A outer s H args us vs Q E hg hr he hb hv (go _ _ _ _ hs)⟩
theorem fin_mk {P : Program} {w : World} {K : PySem.W.Frag} {mg : Str → Option Value} {fa fl : Addr} (hfa : mg "law" = some (.ref fa)) (h : ∃ T : Txt w.params K mg, T.law.f = fl) :
    ∃ fd : FuncData, (∀ (s : Shared) (u : Value), BindsTo s fd ⟨[u], []⟩ [("script", u)]) ∧ ∀ base : Heap, K.In base → base.Ns mainGlobals mg → FnG P w K mg base CX0 12 fa fd ["script"] (spEnd K) := by
  obtain ⟨T, _⟩ := h
  have e := hfa.symm.trans T.law.g
  obtain ⟨oc, od, kV, doc, pm, an, cdv, ct, osl, e2, lk, hcd⟩ := T.law.F.ex
  injection e with e
  injection e with e
  subst e
  refine ⟨T.law.fd, fun s u => ?_, fun base _ _ => spEnd_of (ok_law T) fun ns hl hb => v_law T.C hb⟩
  rw [e2]
  exact .of_eq rfl
end My
def PySem.W.Fast.tw552684705639378233 : Nat := 0
def PySem.W.Fast.tw5440543197659722232 : Nat := 0
def PySem.W.Fast.tw10310408814595938021 : Nat := 0
def PySem.W.Fast.tw14221073944114218804 : Nat := 0
def PySem.W.Fast.tw2390105640664552137 : Nat := 0
def PySem.W.Fast.tw3434784099317224200 : Nat := 0
def PySem.W.Fast.tw8868930049355250436 : Nat := 0
def PySem.W.Fast.tw17992055113931950370 : Nat := 0
def PySem.W.Fast.tw155385332088856304 : Nat := 0
def PySem.W.Fast.tw14707755346159728123 : Nat := 0
def PySem.W.Fast.tw9619610517693034093 : Nat := 0
def PySem.W.Fast.tw6917701186667125312 : Nat := 0
def PySem.W.Fast.tw10540837304774349814 : Nat := 0
def PySem.W.Fast.tw11340666039958587286 : Nat := 0
def PySem.W.Fast.tw15462007435235602809 : Nat := 0
def PySem.W.Fast.tw7845499519541765355 : Nat := 0
def PySem.W.Fast.tw8639323605831848045 : Nat := 0
def PySem.W.Fast.tw16151278986382162099 : Nat := 0
def PySem.W.Fast.tw14622400113363084797 : Nat := 0
def PySem.W.Fast.tw15227758864148269572 : Nat := 0
def PySem.W.Fast.tw1611291342288941467 : Nat := 0
def PySem.W.Fast.tw15538559432133085970 : Nat := 0
def PySem.W.Fast.tw7841590747136968165 : Nat := 0
def PySem.W.Fast.tw3930518070801263085 : Nat := 0
def PySem.W.Fast.tw8874163815485606897 : Nat := 0
def PySem.W.Fast.tw1092527417631716631 : Nat := 0
def PySem.W.Fast.tw8715930806645600008 : Nat := 0
def PySem.W.Fast.tw2494611306270278453 : Nat := 0
def PySem.W.Fast.tw6369637774224156368 : Nat := 0
def PySem.W.Fast.tw15714991192263146276 : Nat := 0
def PySem.W.Fast.tw10917036907489675312 : Nat := 0
def PySem.W.Fast.tw2260185021961895550 : Nat := 0
def PySem.W.Fast.tw1400414767124591219 : Nat := 0
def PySem.W.Fast.tw18209698817031885921 : Nat := 0
def PySem.W.Fast.tw13563858234065103788 : Nat := 0
def PySem.W.Fast.tw2780875672723135749 : Nat := 0
def PySem.W.Fast.tw13419721869490095656 : Nat := 0
def PySem.W.Fast.tw1503088860114545267 : Nat := 0
def PySem.W.Fast.tw10116627919158417606 : Nat := 0
def PySem.W.Fast.tw11408203363840543511 : Nat := 0
def PySem.W.Fast.tw1571858642416230922 : Nat := 0
def PySem.W.Fast.tw14774751935619524802 : Nat := 0
def PySem.W.Fast.tw12794601761402486458 : Nat := 0
def PySem.W.Fast.tw9735304550789152840 : Nat := 0
def PySem.W.Fast.tw14972360413237861884 : Nat := 0
def PySem.W.Fast.tw18418512875082832091 : Nat := 0
def PySem.W.Fast.tw2266931334862086763 : Nat := 0
def PySem.W.Fast.tw11796710892530398572 : Nat := 0
def PySem.W.Fast.tw16463800213715406408 : Nat := 0
def PySem.W.Fast.tw13747612827810181085 : Nat := 0
def PySem.W.Fast.tw2771771583307327512 : Nat := 0
def PySem.W.Fast.tw9057036482652839258 : Nat := 0
def PySem.W.Fast.tw7194762222354006967 : Nat := 0
def PySem.W.Fast.tw14252388553622352113 : Nat := 0
def PySem.W.Fast.tw2904245052787903029 : Nat := 0
def PySem.W.Fast.tw10928386746667044779 : Nat := 0
def PySem.W.Fast.tw11850218320145012881 : Nat := 0
def PySem.W.Fast.tw7413450659249567335 : Nat := 0
def PySem.W.Fast.tw8122324190326446065 : Nat := 0
def PySem.W.Fast.tw10055076644470292898 : Nat := 0
def PySem.W.Fast.tw11143538604941878020 : Nat := 0
def PySem.W.Fast.tw14128205141571648824 : Nat := 0
def PySem.W.Fast.tw7617097265867733593 : Nat := 0
def PySem.W.Fast.tw7430914918296452817 : Nat := 0
def PySem.W.Fast.tw16582130028761766237 : Nat := 0
def PySem.W.Fast.tw13489248332483473688 : Nat := 0
def PySem.W.Fast.tw8288187720046684495 : Nat := 0
def PySem.W.Fast.tw9105243111717262441 : Nat := 0
def PySem.W.Fast.tw14524040127883430380 : Nat := 0
def PySem.W.Fast.tw9518032461937950737 : Nat := 0
def PySem.W.Fast.tw3419079403426517387 : Nat := 0
def PySem.W.Fast.tw16102518766699389715 : Nat := 0
def PySem.W.Fast.tw17348867524850632695 : Nat := 0
def PySem.W.Fast.tw10954905488234674369 : Nat := 0
def PySem.W.Fast.tw15037198544944424132 : Nat := 0
def PySem.W.Fast.tw11915912669324733554 : Nat := 0
def PySem.W.Fast.tw16531498113202136576 : Nat := 0
def PySem.W.Fast.tw4703800467986916841 : Nat := 0
def PySem.W.Fast.tw10888175181663303640 : Nat := 0
def PySem.W.Fast.tw10413665619731124851 : Nat := 0
def PySem.W.Fast.tw1038850688622147996 : Nat := 0
def PySem.W.Fast.tw17192210069205779608 : Nat := 0
def PySem.W.Fast.tw3113026064393490053 : Nat := 0
def PySem.W.Fast.tw3914260167057221954 : Nat := 0
def PySem.W.Fast.tw12336711418727896770 : Nat := 0
def PySem.W.Fast.tw17836024813429308700 : Nat := 0
def PySem.W.Fast.tw14292172359626289725 : Nat := 0
def PySem.W.Fast.tw9405102651475508222 : Nat := 0
def PySem.W.Fast.tw6609878787390682774 : Nat := 0
def PySem.W.Fast.tw7115790993854588289 : Nat := 0
def PySem.W.Fast.tw10423329670649929705 : Nat := 0
def PySem.W.Fast.tw13822400439472458529 : Nat := 0
def PySem.W.Fast.tw12986142039082947200 : Nat := 0
def PySem.W.Fast.tw5385014044992075522 : Nat := 0
def PySem.W.Fast.tw3451553886119192779 : Nat := 0
def PySem.W.Fast.tw3278485673813956513 : Nat := 0
def PySem.W.Fast.tw13264034396132316261 : Nat := 0
def PySem.W.Fast.tw2284843986525139055 : Nat := 0
def PySem.W.Fast.tw2571860044186682831 : Nat := 0
def PySem.W.Fast.tw17407713154607070132 : Nat := 0
def PySem.W.Fast.tw15572342912837430065 : Nat := 0
def PySem.W.Fast.tw18207366775129587966 : Nat := 0
def PySem.W.Fast.tw10753193084261646372 : Nat := 0
def PySem.W.Fast.tw7073862421066644684 : Nat := 0
def PySem.W.Fast.tw8095292438773336341 : Nat := 0
def PySem.W.Fast.tw10895245047549966090 : Nat := 0
def PySem.W.Fast.tw13854391045517330746 : Nat := 0
def PySem.W.Fast.tw2858756951041593182 : Nat := 0
def PySem.W.Fast.tw5474310928437028049 : Nat := 0
def PySem.W.Fast.tw11831831033926455118 : Nat := 0
def PySem.W.Fast.tw11192020350230540950 : Nat := 0
def PySem.W.Fast.tw759655282257513291 : Nat := 0
def PySem.W.Fast.tw13256040330154809868 : Nat := 0
def PySem.W.Fast.tw10709549210803823431 : Nat := 0
def PySem.W.Fast.tw6380134281889382761 : Nat := 0
def PySem.W.Fast.tw3507657123763810688 : Nat := 0
def PySem.W.Fast.tw8955525458607835068 : Nat := 0
def PySem.W.Fast.tw14127322941314929994 : Nat := 0
def PySem.W.Fast.tw6235102152167155050 : Nat := 0
def PySem.W.Fast.tw320307781552002878 : Nat := 0
def PySem.W.Fast.tw14816679752189675177 : Nat := 0
def PySem.W.Fast.tw7593910882870456926 : Nat := 0
def PySem.W.Fast.tw11873936099314671003 : Nat := 0
def PySem.W.Fast.tw1379561392122415721 : Nat := 0
def PySem.W.Fast.tw10839367012011848739 : Nat := 0
def PySem.W.Fast.tw290676245138716122 : Nat := 0
def PySem.W.Fast.tw8788578805975879482 : Nat := 0
def PySem.W.Fast.tw12919476651428996012 : Nat := 0
def PySem.W.Fast.tw8568068764397068216 : Nat := 0
def PySem.W.Fast.tw4911552773301904922 : Nat := 0
def PySem.W.Fast.tw17082877606252316068 : Nat := 0
def PySem.W.Fast.tw10763145900216378808 : Nat := 0
def PySem.W.Fast.tw1007818863679555317 : Nat := 0
def PySem.W.Fast.tw5863497415200218051 : Nat := 0
def PySem.W.Fast.tw11602065736793791975 : Nat := 0
def PySem.W.Fast.tw486100812097514217 : Nat := 0
def PySem.W.Fast.tw10095189736924311287 : Nat := 0
def PySem.W.Fast.tw1982575400627396592 : Nat := 0
def PySem.W.Fast.tw16977714862478157069 : Nat := 0
def PySem.W.Fast.tw7821254596186216952 : Nat := 0
def PySem.W.Fast.tw16887689529041403220 : Nat := 0
def PySem.W.Fast.tw11301468889197775530 : Nat := 0
def PySem.W.Fast.tw780665223321800838 : Nat := 0
def PySem.W.Fast.tw13515075869284482794 : Nat := 0
def PySem.W.Fast.tw16075222992405870587 : Nat := 0
def PySem.W.Fast.tw11580466611955757456 : Nat := 0
def PySem.W.Fast.tw13037307862083602220 : Nat := 0
def PySem.W.Fast.tw14077344159098693381 : Nat := 0
def PySem.W.Fast.tw18140255283052959930 : Nat := 0
def PySem.W.Fast.tw5070754662681824657 : Nat := 0
def PySem.W.Fast.tw2698792235327477328 : Nat := 0
def PySem.W.Fast.tw4153463232657723749 : Nat := 0
def PySem.W.Fast.tw3436177410867778671 : Nat := 0
def PySem.W.Fast.tw3415353596549879736 : Nat := 0
def PySem.W.Fast.tw8871124704132691561 : Nat := 0
def PySem.W.Fast.tw11561061305185164146 : Nat := 0
def PySem.W.Fast.tw16726256737854051770 : Nat := 0
def PySem.W.Fast.tw7299590886707350206 : Nat := 0
def PySem.W.Fast.tw17473487101484214013 : Nat := 0
def PySem.W.Fast.tw3887374459979201600 : Nat := 0
def PySem.W.Fast.tw6296099831864298552 : Nat := 0
def PySem.W.Fast.tw3807343676720617270 : Nat := 0
def PySem.W.Fast.tw4545789401279114954 : Nat := 0
def PySem.W.Fast.tw5231848980426805897 : Nat := 0
def PySem.W.Fast.tw8901108791284607343 : Nat := 0
def PySem.W.Fast.tw4007702515786722687 : Nat := 0
def PySem.W.Fast.tw4288697063129001809 : Nat := 0
def PySem.W.Fast.tw1889508461315754196 : Nat := 0
def PySem.W.Fast.tw97255626389129552 : Nat := 0
def PySem.W.Fast.tw18088585668220725223 : Nat := 0
def PySem.W.Fast.tw16323909876146325845 : Nat := 0
def PySem.W.Fast.tw18178698220904610993 : Nat := 0
def PySem.W.Fast.tw4168892195359294060 : Nat := 0
def PySem.W.Fast.tw2284517545609003978 : Nat := 0
def PySem.W.Fast.tw12167352374119955604 : Nat := 0
def PySem.W.Fast.tw14738932659623564896 : Nat := 0
def PySem.W.Fast.tw8162424646943090938 : Nat := 0
def PySem.W.Fast.tw13781473640813566592 : Nat := 0
def PySem.W.Fast.tw8303636549314443453 : Nat := 0
def PySem.W.Fast.tw15651568910018563077 : Nat := 0
def PySem.W.Fast.tw9169302341665204733 : Nat := 0
def PySem.W.Fast.tw8709566285518412200 : Nat := 0
def PySem.W.Fast.tw13193138466006024223 : Nat := 0
def PySem.W.Fast.tw12764349615219549839 : Nat := 0
def PySem.W.Fast.tw14384858595025814901 : Nat := 0
def PySem.W.Fast.tw1666203787531080220 : Nat := 0
def PySem.W.Fast.tw13775404187371302012 : Nat := 0
def PySem.W.Fast.tw12055660709832837289 : Nat := 0
def PySem.W.Fast.tw2748833125520634490 : Nat := 0
def PySem.W.Fast.tw11492769428472958347 : Nat := 0
def PySem.W.Fast.tw18121475747071349032 : Nat := 0
def PySem.W.Fast.tw8623126884423455323 : Nat := 0
def PySem.W.Fast.tw3758255204720094604 : Nat := 0
def PySem.W.Fast.tw13105675895420713456 : Nat := 0
def PySem.W.Fast.tw10151760190279753333 : Nat := 0
def PySem.W.Fast.tw3878568702893544954 : Nat := 0
def PySem.W.Fast.tw17248121458770863129 : Nat := 0
def PySem.W.Fast.tw9166734989527692900 : Nat := 0
def PySem.W.Fast.tw3471972212053245792 : Nat := 0
def PySem.W.Fast.tw904476128015520026 : Nat := 0
def PySem.W.Fast.tw15960856378496469671 : Nat := 0
def PySem.W.Fast.tw12960627510566460582 : Nat := 0
def PySem.W.Fast.tw5176669497376180573 : Nat := 0
def PySem.W.Fast.tw18359750639530463016 : Nat := 0
def PySem.W.Fast.tw8525157787154584866 : Nat := 0
def PySem.W.Fast.tw3225994339600550578 : Nat := 0
def PySem.W.Fast.tw8970041566386481323 : Nat := 0
def PySem.W.Fast.tw16307485656252583310 : Nat := 0
def PySem.W.Fast.tw11591766318368402426 : Nat := 0
def PySem.W.Fast.tw2048975781214187034 : Nat := 0
def PySem.W.Fast.tw18010287859327806137 : Nat := 0
def PySem.W.Fast.tw13660253329199315963 : Nat := 0
def PySem.W.Fast.tw11881470619123755181 : Nat := 0
def PySem.W.Fast.tw14304904534394142439 : Nat := 0
def PySem.W.Fast.tw12199278646811307892 : Nat := 0
def PySem.W.Fast.tw15574620032453294419 : Nat := 0
def PySem.W.Fast.tw12119253368358906998 : Nat := 0
def PySem.W.Fast.tw9259579825141209347 : Nat := 0
def PySem.W.Fast.tw2197764298045206989 : Nat := 0
def PySem.W.Fast.tw4168107276654736906 : Nat := 0
def PySem.W.Fast.tw3505571561443397087 : Nat := 0
def PySem.W.Fast.tw7183453435732980127 : Nat := 0
def PySem.W.Fast.tw13496466802660182162 : Nat := 0
def PySem.W.Fast.tw12766229907589765363 : Nat := 0
def PySem.W.Fast.tw15901540526131009941 : Nat := 0
def PySem.W.Fast.tw13772122632116211443 : Nat := 0
def PySem.W.Fast.tw2772095343955154309 : Nat := 0
def PySem.W.Fast.tw1460807310698985772 : Nat := 0
def PySem.W.Fast.tw16972047339391715417 : Nat := 0
def PySem.W.Fast.tw12175067258339527650 : Nat := 0
def PySem.W.Fast.tw11652274118876440278 : Nat := 0
def PySem.W.Fast.tw12781329155171486347 : Nat := 0
def PySem.W.Fast.tw2264605579339181767 : Nat := 0
def PySem.W.Fast.tw7189537790738351067 : Nat := 0
def PySem.W.Fast.tw13475026647701082833 : Nat := 0
def PySem.W.Fast.tw8921857731253386681 : Nat := 0
def PySem.W.Fast.tw6380667822903309468 : Nat := 0
def PySem.W.Fast.tw3896877053605886183 : Nat := 0
def PySem.W.Fast.tw10166616428706236413 : Nat := 0
def PySem.W.Fast.tw15820394721421533464 : Nat := 0
def PySem.W.Fast.tw11905054782383588596 : Nat := 0
def PySem.W.Fast.tw13241539557518120912 : Nat := 0
def PySem.W.Fast.tw17899790243239669164 : Nat := 0
def PySem.W.Fast.tw3517121437443716003 : Nat := 0
def PySem.W.Fast.tw6861748833771003914 : Nat := 0
def PySem.W.Fast.tw12799577399297766196 : Nat := 0
def PySem.W.Fast.tw5740365470568628556 : Nat := 0
def PySem.W.Fast.tw15705212860448311786 : Nat := 0
def PySem.W.Fast.tw3213233823593209345 : Nat := 0
def PySem.W.Fast.tw3536624346702050974 : Nat := 0
def PySem.W.Fast.tw3534936711111039930 : Nat := 0
def PySem.W.Fast.tw1295362241190290006 : Nat := 0
def PySem.W.Fast.tw12532790131806902076 : Nat := 0
def PySem.W.Fast.tw12836907016518371240 : Nat := 0
def PySem.W.Fast.tw1926121846417931931 : Nat := 0
def PySem.W.Fast.tw7931281904935356328 : Nat := 0
def PySem.W.Fast.tw6458123364592765567 : Nat := 0
def PySem.W.Fast.tw15331342896363658631 : Nat := 0
def PySem.W.Fast.tw12113941890138882740 : Nat := 0
def PySem.W.Fast.tw8501464977184488861 : Nat := 0
def PySem.W.Fast.tw9975306327745414918 : Nat := 0
def PySem.W.Fast.tw2314880761290959841 : Nat := 0
def PySem.W.Fast.tw5393469930127503929 : Nat := 0
def PySem.W.Fast.tw4511818139964391716 : Nat := 0
def PySem.W.Fast.tw7770022806562995815 : Nat := 0
def PySem.W.Fast.tw2300750458639664813 : Nat := 0
def PySem.W.Fast.tw16774956062836414588 : Nat := 0
def PySem.W.Fast.tw13722788574768907568 : Nat := 0
def PySem.W.Fast.tw2150603408492566233 : Nat := 0
def PySem.W.Fast.tw7271309892451851751 : Nat := 0
def PySem.W.Fast.tw8518630625611630388 : Nat := 0
def PySem.W.Fast.tw1503298153827057952 : Nat := 0
def PySem.W.Fast.tw11818043064677338111 : Nat := 0
def PySem.W.Fast.tw12123700763278202988 : Nat := 0
def PySem.W.Fast.tw13685978462211026731 : Nat := 0
def PySem.W.Fast.tw4431177184862182851 : Nat := 0
def PySem.W.Fast.tw7347745504140582299 : Nat := 0
def PySem.W.Fast.tw1771900916018653021 : Nat := 0
def PySem.W.Fast.tw11979969342816917852 : Nat := 0
def PySem.W.Fast.tw1251935274898332530 : Nat := 0
def PySem.W.Fast.tw17520416650089213902 : Nat := 0
def PySem.W.Fast.tw11755876697261457270 : Nat := 0
def PySem.W.Fast.tw1038904173466410385 : Nat := 0
def PySem.W.Fast.tw3776988838202694786 : Nat := 0
def PySem.W.Fast.tw15887691440862085934 : Nat := 0
def PySem.W.Fast.tw7445797395692110368 : Nat := 0
def PySem.W.Fast.tw12586775439296326486 : Nat := 0
def PySem.W.Fast.tw5948123229201839600 : Nat := 0
def PySem.W.Fast.tw7523675033202473049 : Nat := 0
def PySem.W.Fast.tw10817422455295985960 : Nat := 0
def PySem.W.Fast.tw1643750782507682097 : Nat := 0
def PySem.W.Fast.tw14647293599649562424 : Nat := 0
def PySem.W.Fast.tw14747782816983953153 : Nat := 0
def PySem.W.Fast.tw5225461346238058957 : Nat := 0
def PySem.W.Fast.tw13951240508007209869 : Nat := 0
def PySem.W.Fast.tw7624468442661146208 : Nat := 0
def PySem.W.Fast.tw4745097727678038177 : Nat := 0
def PySem.W.Fast.tw4636366491463986199 : Nat := 0
def PySem.W.Fast.tw2777352922955605556 : Nat := 0
def PySem.W.Fast.tw10757837058064954978 : Nat := 0
def PySem.W.Fast.tw8682250351658730308 : Nat := 0
def PySem.W.Fast.tw899178564994743851 : Nat := 0
def PySem.W.Fast.tw8467983887650099873 : Nat := 0
def PySem.W.Fast.tw17178745850943187533 : Nat := 0
def PySem.W.Fast.tw7822875512419915708 : Nat := 0
def PySem.W.Fast.tw17294886196931734694 : Nat := 0
def PySem.W.Fast.tw81884897745408507 : Nat := 0
def PySem.W.Fast.tw11036447589181058181 : Nat := 0
def PySem.W.Fast.tw5435328494670977599 : Nat := 0
def PySem.W.Fast.tw8036651215558527628 : Nat := 0
def PySem.W.Fast.tw2627472109142494444 : Nat := 0
def PySem.W.Fast.tw11809186192230546098 : Nat := 0
def PySem.W.Fast.tw16430947682049212328 : Nat := 0
def PySem.W.Fast.tw15679582281169297073 : Nat := 0
def PySem.W.Fast.tw8570867991424295311 : Nat := 0
def PySem.W.Fast.tw4032741275279102531 : Nat := 0
def PySem.W.Fast.tw11323111026653326764 : Nat := 0
def PySem.W.Fast.tw4949000336431886151 : Nat := 0
def PySem.W.Fast.tw8569583749702050225 : Nat := 0
def PySem.W.Fast.tw7960213643389341140 : Nat := 0
def PySem.W.Fast.tw8070732710585545981 : Nat := 0
def PySem.W.Fast.tw16729942823252823491 : Nat := 0
def PySem.W.Fast.tw17338601885817735882 : Nat := 0
def PySem.W.Fast.tw5969887387422226486 : Nat := 0
def PySem.W.Fast.tw2537379287549173455 : Nat := 0
def PySem.W.Fast.tw14319143478420925195 : Nat := 0
def PySem.W.Fast.tw14718478024761691240 : Nat := 0
def PySem.W.Fast.tw10371120077482370916 : Nat := 0
def PySem.W.Fast.tw3901755832412114691 : Nat := 0
def PySem.W.Fast.tw5017029450616367901 : Nat := 0
def PySem.W.Fast.tw4892848433320534020 : Nat := 0
def PySem.W.Fast.tw4274326311191124817 : Nat := 0
def PySem.W.Fast.tw7254772914985584146 : Nat := 0
def PySem.W.Fast.tw3829688077519728457 : Nat := 0
def PySem.W.Fast.tw1854215012728197112 : Nat := 0
def PySem.W.Fast.tw3232785725757825582 : Nat := 0
def PySem.W.Fast.tw8734877325576724982 : Nat := 0
def PySem.W.Fast.tw18122892782374242231 : Nat := 0
def PySem.W.Fast.tw5527225394710498219 : Nat := 0
def PySem.W.Fast.tw2716618717681546797 : Nat := 0
def PySem.W.Fast.tw9787127781367117738 : Nat := 0
def PySem.W.Fast.tw5988856681815733102 : Nat := 0
def PySem.W.Fast.tw17480841856734287975 : Nat := 0
def PySem.W.Fast.tw9442541523329945182 : Nat := 0
def PySem.W.Fast.tw6205784797568389922 : Nat := 0
def PySem.W.Fast.tw1057041408496810490 : Nat := 0
def PySem.W.Fast.tw17058633581787869582 : Nat := 0
def PySem.W.Fast.tw355314779447514326 : Nat := 0
def PySem.W.Fast.tw8159639636314736602 : Nat := 0
def PySem.W.Fast.tw1657128430480367036 : Nat := 0
def PySem.W.Fast.tw2748678760910845840 : Nat := 0
def PySem.W.Fast.tw2291456228952474619 : Nat := 0
def PySem.W.Fast.tw4403907609298954841 : Nat := 0
def PySem.W.Fast.tw140738549031193903 : Nat := 0
def PySem.W.Fast.tw1216120418175305282 : Nat := 0
def PySem.W.Fast.tw5308530680052709550 : Nat := 0
def PySem.W.Fast.tw8939246427701490080 : Nat := 0
def PySem.W.Fast.tw6252721423816903275 : Nat := 0
def PySem.W.Fast.tw3780906549111163755 : Nat := 0
def PySem.W.Fast.tw2759093419058745194 : Nat := 0
def PySem.W.Fast.tw8108398725201207719 : Nat := 0
def PySem.W.Fast.tw5586691230714875869 : Nat := 0
def PySem.W.Fast.tw7681829762725938763 : Nat := 0
def PySem.W.Fast.tw10378102166686103306 : Nat := 0
def PySem.W.Fast.tw11052762134213155824 : Nat := 0
def PySem.W.Fast.tw2257675866510308330 : Nat := 0
def PySem.W.Fast.tw12960582231863066240 : Nat := 0
def PySem.W.Fast.tw9342419718190198684 : Nat := 0
def PySem.W.Fast.tw1774912951503218221 : Nat := 0
def PySem.W.Fast.tw5394946148972066879 : Nat := 0
def PySem.W.Fast.tw12810131481350970835 : Nat := 0
def PySem.W.Fast.tw11417791038197852439 : Nat := 0
def PySem.W.Fast.tw2090170385115217472 : Nat := 0
def PySem.W.Fast.tw4717242869188958874 : Nat := 0
def PySem.W.Fast.tw6411349145362495709 : Nat := 0
def PySem.W.Fast.tw15482166365117268052 : Nat := 0
def PySem.W.Fast.tw1013266101394684490 : Nat := 0
def PySem.W.Fast.tw3074663302395453081 : Nat := 0
def PySem.W.Fast.tw4926973169285134206 : Nat := 0
def PySem.W.Fast.tw17380399572353602207 : Nat := 0
def PySem.W.Fast.tw15346098334917730559 : Nat := 0
def PySem.W.Fast.tw16481768525637876237 : Nat := 0
def PySem.W.Fast.tw4085247255199206527 : Nat := 0
def PySem.W.Fast.tw11214608909436161378 : Nat := 0
def PySem.W.Fast.tw5973101998768225554 : Nat := 0
def PySem.W.Fast.tw8373543999539064955 : Nat := 0
def PySem.W.Fast.tw14023250460900498313 : Nat := 0
def PySem.W.Fast.tw6825435664495812455 : Nat := 0
def PySem.W.Fast.tw15172323752806619886 : Nat := 0
def PySem.W.Fast.tw16507789222206492484 : Nat := 0
def PySem.W.Fast.tw12445435788612912586 : Nat := 0
def PySem.W.Fast.tw9061698483006271517 : Nat := 0
def PySem.W.Fast.tw15898696894923635553 : Nat := 0
def PySem.W.Fast.tw1676354867520064892 : Nat := 0
def PySem.W.Fast.tw2507909580446491426 : Nat := 0
def PySem.W.Fast.tw3994059793734890836 : Nat := 0
def PySem.W.Fast.tw16182035050071562609 : Nat := 0
def PySem.W.Fast.tw7529547407389966676 : Nat := 0
def PySem.W.Fast.tw18053728572942513504 : Nat := 0
def PySem.W.Fast.tw16777941109118023193 : Nat := 0
def PySem.W.Fast.tw5135173471988635212 : Nat := 0
def PySem.W.Fast.tw12513326057148764641 : Nat := 0
def PySem.W.Fast.tw18412323661399755360 : Nat := 0
def PySem.W.Fast.tw8925360588236833333 : Nat := 0
def PySem.W.Fast.tw13531435094774100062 : Nat := 0
def PySem.W.Fast.tw4757120642797974602 : Nat := 0
def PySem.W.Fast.tw8309274592387073062 : Nat := 0
def PySem.W.Fast.tw9526919008302737861 : Nat := 0
def PySem.W.Fast.tw17526454942131261855 : Nat := 0
def PySem.W.Fast.tw13577965530149978953 : Nat := 0
def PySem.W.Fast.tw9528277457917330983 : Nat := 0
def PySem.W.Fast.tw4819853432592217503 : Nat := 0
def PySem.W.Fast.tw2895864216388674783 : Nat := 0
def PySem.W.Fast.tw10773072906892971486 : Nat := 0
def PySem.W.Fast.tw4303178241309459250 : Nat := 0
def PySem.W.Fast.tw8029800153614038024 : Nat := 0
def PySem.W.Fast.tw9347975829836753253 : Nat := 0
def PySem.W.Fast.tw14953853141578026529 : Nat := 0
def PySem.W.Fast.tw13925233121647707356 : Nat := 0
def PySem.W.Fast.tw9142398622727427654 : Nat := 0
def PySem.W.Fast.tw17098707254059791497 : Nat := 0
def PySem.W.Fast.tw6975160892214541332 : Nat := 0
def PySem.W.Fast.tw17064678054223399544 : Nat := 0
def PySem.W.Fast.tw5060307512200666400 : Nat := 0
def PySem.W.Fast.tw17029439718174404038 : Nat := 0
def PySem.W.Fast.tw2333193825794495754 : Nat := 0
def PySem.W.Fast.tw15326713811185545994 : Nat := 0
def PySem.W.Fast.tw9335332903832429435 : Nat := 0
def PySem.W.Fast.tw16682335482795863179 : Nat := 0
def PySem.W.Fast.tw6076804781899752371 : Nat := 0
def PySem.W.Fast.tw10373753251899196115 : Nat := 0
def PySem.W.Fast.tw15088473802154180747 : Nat := 0
def PySem.W.Fast.tw9884425159835349970 : Nat := 0
def PySem.W.Fast.tw12745298964726568093 : Nat := 0
def PySem.W.Fast.tw13612036223991603460 : Nat := 0
def PySem.W.Fast.tw4692374813884800113 : Nat := 0
def PySem.W.Fast.tw2005946610883597994 : Nat := 0
def PySem.W.Fast.tw10944422463784473249 : Nat := 0
def PySem.W.Fast.tw13257755804900793270 : Nat := 0
def PySem.W.Fast.tw3606322257866964064 : Nat := 0
def PySem.W.Fast.tw15991805671156065923 : Nat := 0
def PySem.W.Fast.tw8941606199810006268 : Nat := 0
def PySem.W.Fast.tw14630941390104876636 : Nat := 0
def PySem.W.Fast.tw13092365549870959362 : Nat := 0
def PySem.W.Fast.tw2004003783485482083 : Nat := 0
def PySem.W.Fast.tw2743164912294346934 : Nat := 0
def PySem.W.Fast.tw10397254117987909621 : Nat := 0
def PySem.W.Fast.tw15611737837950322375 : Nat := 0
def PySem.W.Fast.tw12815553313304345139 : Nat := 0
def PySem.W.Fast.tw15832394962171997418 : Nat := 0
def PySem.W.Fast.tw10297340609460161088 : Nat := 0
def PySem.W.Fast.tw13377974009869574332 : Nat := 0
def PySem.W.Fast.tw13480413587595553678 : Nat := 0
def PySem.W.Fast.tw11967900153978678692 : Nat := 0
def PySem.W.Fast.tw5354427275166067638 : Nat := 0
def PySem.W.Fast.tw11755280580993576902 : Nat := 0
def PySem.W.Fast.tw16037286399851961977 : Nat := 0
def PySem.W.Fast.tw6531425577723022082 : Nat := 0
def PySem.W.Fast.tw9828782213289370713 : Nat := 0
def PySem.W.Fast.tw10918756409196448658 : Nat := 0
def PySem.W.Fast.tw3959208777062277023 : Nat := 0
def PySem.W.Fast.tw9801408957191286415 : Nat := 0
def PySem.W.Fast.tw15950492980790396517 : Nat := 0
def PySem.W.Fast.tw6251840127869742518 : Nat := 0
def PySem.W.Fast.tw859548284447154574 : Nat := 0
def PySem.W.Fast.tw1449910555237851337 : Nat := 0
def PySem.W.Fast.tw6343515980425440839 : Nat := 0
def PySem.W.Fast.tw6245404457872902811 : Nat := 0
def PySem.W.Fast.tw13840366071894316590 : Nat := 0
def PySem.W.Fast.tw13335494081725874870 : Nat := 0
def PySem.W.Fast.tw15621351302574153919 : Nat := 0
def PySem.W.Fast.tw9789367305400089988 : Nat := 0
def PySem.W.Fast.tw11303964757060763984 : Nat := 0
def PySem.W.Fast.tw14836044467582932733 : Nat := 0
def PySem.W.Fast.tw15958982752296835796 : Nat := 0
def PySem.W.Fast.tw11604836900147134751 : Nat := 0
def PySem.W.Fast.tw2280927030285859892 : Nat := 0
def PySem.W.Fast.tw3651746824877721508 : Nat := 0
def PySem.W.Fast.tw2346290162378059435 : Nat := 0
def PySem.W.Fast.tw5480823984870124878 : Nat := 0
def PySem.W.Fast.tw2378765421957782189 : Nat := 0
def PySem.W.Fast.tw11402923197140527357 : Nat := 0
def PySem.W.Fast.tw10450397497301205302 : Nat := 0
def PySem.W.Fast.tw14018871220040860749 : Nat := 0
def PySem.W.Fast.tw7976289073726561190 : Nat := 0
def PySem.W.Fast.tw6411154101058268795 : Nat := 0
def PySem.W.Fast.tw457099856304944309 : Nat := 0
def PySem.W.Fast.tw711656897839563383 : Nat := 0
def PySem.W.Fast.tw1753364882207440333 : Nat := 0
def PySem.W.Fast.tw2699919375812615161 : Nat := 0
def PySem.W.Fast.tw1542799368793618333 : Nat := 0
def PySem.W.Fast.tw17577568597134477615 : Nat := 0
def PySem.W.Fast.tw1408196338166548843 : Nat := 0
def PySem.W.Fast.tw17279560788739022911 : Nat := 0
def PySem.W.Fast.tw10959768515215222100 : Nat := 0
def PySem.W.Fast.tw14614723170485456463 : Nat := 0
def PySem.W.Fast.tw8483437032687527107 : Nat := 0
def PySem.W.Fast.tw1382672404437028739 : Nat := 0
def PySem.W.Fast.tw13740936043928729687 : Nat := 0
def PySem.W.Fast.tw8965722730665132663 : Nat := 0
def PySem.W.Fast.tw665878009122231981 : Nat := 0
def PySem.W.Fast.tw139001523584997025 : Nat := 0
def PySem.W.Fast.tw17246928638685028535 : Nat := 0
def PySem.W.Fast.tw9082159660936630112 : Nat := 0
def PySem.W.Fast.tw15675703070690333823 : Nat := 0
def PySem.W.Fast.tw11810232427895989047 : Nat := 0
def PySem.W.Fast.tw3252212164914957105 : Nat := 0
def PySem.W.Fast.tw259031588804091281 : Nat := 0
def PySem.W.Fast.tw7206352631286310132 : Nat := 0
def PySem.W.Fast.tw13790258332366240134 : Nat := 0
def PySem.W.Fast.tw13922569651579141850 : Nat := 0
def PySem.W.Fast.tw1613769493441989757 : Nat := 0
def PySem.W.Fast.tw7307461209895191456 : Nat := 0
def PySem.W.Fast.tw15265118222276250517 : Nat := 0
def PySem.W.Fast.tw16555766707933227604 : Nat := 0
def PySem.W.Fast.tw3918108066807177029 : Nat := 0
def PySem.W.Fast.tw4363401401526909211 : Nat := 0
def PySem.W.Fast.tw17283130779855084225 : Nat := 0
def PySem.W.Fast.tw15085033866674052607 : Nat := 0
def PySem.W.Fast.tw17441357711508145462 : Nat := 0
def PySem.W.Fast.tw6019373040058544500 : Nat := 0
def PySem.W.Fast.tw12120575767399172932 : Nat := 0
def PySem.W.Fast.tw4868453503922679703 : Nat := 0
def PySem.W.Fast.tw8960410021926681398 : Nat := 0
def PySem.W.Fast.tw9368667607521485619 : Nat := 0
def PySem.W.Fast.tw13369619022390854338 : Nat := 0
def PySem.W.Fast.tw2888281478793746851 : Nat := 0
def PySem.W.Fast.tw5439770253905297196 : Nat := 0
def PySem.W.Fast.tw1654676449864822484 : Nat := 0
def PySem.W.Fast.tw8993935553709518197 : Nat := 0
def PySem.W.Fast.tw17260286796411072935 : Nat := 0
def PySem.W.Fast.tw17537847960502331579 : Nat := 0
def PySem.W.Fast.tw755452013091302742 : Nat := 0
def PySem.W.Fast.tw992593341538764607 : Nat := 0
def PySem.W.Fast.tw2259860073615799011 : Nat := 0
def PySem.W.Fast.tw2458247917445810716 : Nat := 0
def PySem.W.Fast.tw5934826887226239565 : Nat := 0
def PySem.W.Fast.tw4094428165303937939 : Nat := 0
def PySem.W.Fast.tw9719030517038123701 : Nat := 0
def PySem.W.Fast.tw5841588388662974973 : Nat := 0
def PySem.W.Fast.tw8759837450231208713 : Nat := 0
def PySem.W.Fast.tw8287047638470648434 : Nat := 0
def PySem.W.Fast.tw5435523616421469011 : Nat := 0
def PySem.W.Fast.tw8211627061624932570 : Nat := 0
def PySem.W.Fast.tw18280891637275872925 : Nat := 0
def PySem.W.Fast.tw10011176049144836402 : Nat := 0
def PySem.W.Fast.tw3405068163155223606 : Nat := 0
def PySem.W.Fast.tw4585585604702980045 : Nat := 0
def PySem.W.Fast.tw14246677371635575389 : Nat := 0
def PySem.W.Fast.tw7035637032572302107 : Nat := 0
def PySem.W.Fast.tw17893740635036349702 : Nat := 0
def PySem.W.Fast.tw4392931481348547396 : Nat := 0
def PySem.W.Fast.tw9173904623701307892 : Nat := 0
def PySem.W.Fast.tw16106246031339160963 : Nat := 0
def PySem.W.Fast.tw2038475713640111198 : Nat := 0
def PySem.W.Fast.tw14423032187592963397 : Nat := 0
def PySem.W.Fast.tw352256561163864410 : Nat := 0
def PySem.W.Fast.tw13700158417324447956 : Nat := 0
def PySem.W.Fast.tw1718921943053249981 : Nat := 0
def PySem.W.Fast.tw8746787069374190923 : Nat := 0
def PySem.W.Fast.tw6366109848493495737 : Nat := 0
def PySem.W.Fast.tw5423823468272461037 : Nat := 0
def PySem.W.Fast.tw7909220164239946944 : Nat := 0
def PySem.W.Fast.tw6776024213630098430 : Nat := 0
def PySem.W.Fast.tw10112742138339868026 : Nat := 0
def PySem.W.Fast.tw16873843626227339566 : Nat := 0
def PySem.W.Fast.tw9812409825761101605 : Nat := 0
def PySem.W.Fast.tw12557867936123937840 : Nat := 0
def PySem.W.Fast.tw14491375483354980442 : Nat := 0
def PySem.W.Fast.tw4674440259097699655 : Nat := 0
def PySem.W.Fast.tw9002547814996182310 : Nat := 0
def PySem.W.Fast.tw9174866881140060293 : Nat := 0
def PySem.W.Fast.tw7459776526360672000 : Nat := 0
def PySem.W.Fast.tw17564005457085498878 : Nat := 0
def PySem.W.Fast.tw3646274393499900821 : Nat := 0
def PySem.W.Fast.tw8947717291664674373 : Nat := 0
def PySem.W.Fast.tw6408996414608555081 : Nat := 0
def PySem.W.Fast.tw16598984586638853480 : Nat := 0
def PySem.W.Fast.tw7816335654759233583 : Nat := 0
def PySem.W.Fast.tw4132761119948056026 : Nat := 0
def PySem.W.Fast.tw18114812919601956792 : Nat := 0
def PySem.W.Fast.tw4748487102845355174 : Nat := 0
def PySem.W.Fast.tw15705677085882591650 : Nat := 0
def PySem.W.Fast.tw16007750690831347022 : Nat := 0
def PySem.W.Fast.tw2275659402761897533 : Nat := 0
def PySem.W.Fast.tw5855984916260683108 : Nat := 0
def PySem.W.Fast.tw3441854322088144436 : Nat := 0
def PySem.W.Fast.tw6364127120025275225 : Nat := 0
def PySem.W.Fast.tw14380372858255349502 : Nat := 0
def PySem.W.Fast.tw736374310372266815 : Nat := 0
def PySem.W.Fast.tw8802109074207293762 : Nat := 0
def PySem.W.Fast.tw11564277283005465287 : Nat := 0
def PySem.W.Fast.tw8684590120241729387 : Nat := 0
def PySem.W.Fast.tw1589910163230241167 : Nat := 0
def PySem.W.Fast.tw18102288836652828755 : Nat := 0
def PySem.W.Fast.tw1402886774706919272 : Nat := 0
def PySem.W.Fast.tw1304828923822869509 : Nat := 0
def PySem.W.Fast.tw7513602626677092045 : Nat := 0
def PySem.W.Fast.tw5356801011194934723 : Nat := 0
def PySem.W.Fast.tw4330976443561757396 : Nat := 0
def PySem.W.Fast.tw5368642316897608878 : Nat := 0
def PySem.W.Fast.tw3927638826833935485 : Nat := 0
def PySem.W.Fast.tw18242310057686684313 : Nat := 0
def PySem.W.Fast.tw4965132474882524830 : Nat := 0
def PySem.W.Fast.tw16373934086359309120 : Nat := 0
def PySem.W.Fast.tw4804152190770313495 : Nat := 0
def PySem.W.Fast.tw7969424390899646599 : Nat := 0
def PySem.W.Fast.tw5534336500309221950 : Nat := 0
def PySem.W.Fast.tw2742749292953520335 : Nat := 0
def PySem.W.Fast.tw17223773134278268660 : Nat := 0
def PySem.W.Fast.tw669398245659682401 : Nat := 0
def PySem.W.Fast.tw2722337684090048724 : Nat := 0
def PySem.W.Fast.tw2731803425439588525 : Nat := 0
def PySem.W.Fast.tw13663757262055339529 : Nat := 0
def PySem.W.Fast.tw13523697820214231356 : Nat := 0
def PySem.W.Fast.tw5164656901493407407 : Nat := 0
def PySem.W.Fast.tw17400024448943526740 : Nat := 0
def PySem.W.Fast.tw885189197265664731 : Nat := 0
def PySem.W.Fast.tw2734638428645717588 : Nat := 0
def PySem.W.Fast.tw15885280866957079981 : Nat := 0
def PySem.W.Fast.tw11816426924031945998 : Nat := 0
def PySem.W.Fast.tw182102168639037288 : Nat := 0
def PySem.W.Fast.tw15300249643442420322 : Nat := 0
def PySem.W.Fast.tw3150997377498166965 : Nat := 0
def PySem.W.Fast.tw12581918682009266082 : Nat := 0
def PySem.W.Fast.tw16090115021652492839 : Nat := 0
def PySem.W.Fast.tw17137505445746836020 : Nat := 0
def PySem.W.Fast.tw12417332924481911084 : Nat := 0
def PySem.W.Fast.tw3009274717517422584 : Nat := 0
def PySem.W.Fast.tw5636509150239473882 : Nat := 0
def PySem.W.Fast.tw1015875330484160178 : Nat := 0
def PySem.W.Fast.tw12960706082985971179 : Nat := 0
def PySem.W.Fast.tw3272268051512677801 : Nat := 0
def PySem.W.Fast.tw1860717126343003481 : Nat := 0
def PySem.W.Fast.tw3930044055651844191 : Nat := 0
def PySem.W.Fast.tw16552061060659493849 : Nat := 0
def PySem.W.Fast.tw15439679029307154733 : Nat := 0
def PySem.W.Fast.tw6959914468878789772 : Nat := 0
def PySem.W.Fast.tw13254683648776893365 : Nat := 0
def PySem.W.Fast.tw9720399807372997047 : Nat := 0
def PySem.W.Fast.tw17362174881104204309 : Nat := 0
def PySem.W.Fast.tw1227160953797619585 : Nat := 0
def PySem.W.Fast.tw11542289579861026234 : Nat := 0
def PySem.W.Fast.tw9514077062277103337 : Nat := 0
def PySem.W.Fast.tw1222860051215312389 : Nat := 0
def PySem.W.Fast.tw3229610439045577927 : Nat := 0
def PySem.W.Fast.tw912276535890166522 : Nat := 0
def PySem.W.Fast.tw9598946322868661356 : Nat := 0
def PySem.W.Fast.tw15947044237262805918 : Nat := 0
def PySem.W.Fast.tw17375944211991239935 : Nat := 0
def PySem.W.Fast.tw4758017970341318597 : Nat := 0
def PySem.W.Fast.tw3767218307198699197 : Nat := 0
def PySem.W.Fast.tw15379109205667857579 : Nat := 0
def PySem.W.Fast.tw17558138078747400911 : Nat := 0
def PySem.W.Fast.tw3533195365502961388 : Nat := 0
def PySem.W.Fast.tw4406825450578941778 : Nat := 0
def PySem.W.Fast.tw8884209858286538807 : Nat := 0
def PySem.W.Fast.tw2845650095527374693 : Nat := 0
def PySem.W.Fast.tw3965173095351638393 : Nat := 0
def PySem.W.Fast.tw14705783581490038227 : Nat := 0
def PySem.W.Fast.tw5670240781714080320 : Nat := 0
def PySem.W.Fast.tw6217243241935165223 : Nat := 0
def PySem.W.Fast.tw13726839781051009318 : Nat := 0
def PySem.W.Fast.tw6488570167644546991 : Nat := 0
def PySem.W.Fast.tw10914633473953036533 : Nat := 0
def PySem.W.Fast.tw3101326710972164979 : Nat := 0
def PySem.W.Fast.tw6002219244377489087 : Nat := 0
def PySem.W.Fast.tw10889420664492403054 : Nat := 0
def PySem.W.Fast.tw1639476055035633728 : Nat := 0
def PySem.W.Fast.tw5291522579552097250 : Nat := 0
def PySem.W.Fast.tw15589073235690552454 : Nat := 0
def PySem.W.Fast.tw7233961934585264560 : Nat := 0
def PySem.W.Fast.tw16971425302889132952 : Nat := 0
def PySem.W.Fast.tw12766430467262988366 : Nat := 0
def PySem.W.Fast.tw6463687714402766377 : Nat := 0
def PySem.W.Fast.tw10183516284855384976 : Nat := 0
def PySem.W.Fast.tw10962905131471559785 : Nat := 0
def PySem.W.Fast.tw9409337265101854952 : Nat := 0
def PySem.W.Fast.tw10887560427649391780 : Nat := 0
def PySem.W.Fast.tw16447510108292560370 : Nat := 0
def PySem.W.Fast.tw2361383984005836589 : Nat := 0
def PySem.W.Fast.tw11100190123417017174 : Nat := 0
def PySem.W.Fast.tw13309203698698180822 : Nat := 0
def PySem.W.Fast.tw1343734372152181361 : Nat := 0
def PySem.W.Fast.tw6594775746168853583 : Nat := 0
def PySem.W.Fast.tw7351206007340535528 : Nat := 0
def PySem.W.Fast.tw5775733881081016186 : Nat := 0
def PySem.W.Fast.tw4981805782349694610 : Nat := 0
def PySem.W.Fast.tw7416809515248932669 : Nat := 0
def PySem.W.Fast.tw10167179924545317367 : Nat := 0
def PySem.W.Fast.tw14308303737315336741 : Nat := 0
def PySem.W.Fast.tw3237278516762495443 : Nat := 0
def PySem.W.Fast.tw8041066846411325632 : Nat := 0
def PySem.W.Fast.tw3672770370132845645 : Nat := 0
def PySem.W.Fast.tw12273267128072218806 : Nat := 0
def PySem.W.Fast.tw841078192398746287 : Nat := 0
def PySem.W.Fast.tw7836426341420216485 : Nat := 0
def PySem.W.Fast.tw3651090332719111206 : Nat := 0
def PySem.W.Fast.tw17116647798475289957 : Nat := 0
def PySem.W.Fast.tw11762732649148498299 : Nat := 0
def PySem.W.Fast.tw3380341443564459066 : Nat := 0
def PySem.W.Fast.tw6502401186620080942 : Nat := 0
def PySem.W.Fast.tw2209762184755956871 : Nat := 0
def PySem.W.Fast.tw259445757866987270 : Nat := 0
def PySem.W.Fast.tw16175205555012443630 : Nat := 0
def PySem.W.Fast.tw4745336256361835403 : Nat := 0
def PySem.W.Fast.tw15571334944864802086 : Nat := 0
def PySem.W.Fast.tw15904316535650216049 : Nat := 0
def PySem.W.Fast.tw14148915720430622204 : Nat := 0
def PySem.W.Fast.tw5304772148922942512 : Nat := 0
def PySem.W.Fast.tw6860824793686511940 : Nat := 0
def PySem.W.Fast.tw2551415214382657095 : Nat := 0
def PySem.W.Fast.tw14360051142795745917 : Nat := 0
def PySem.W.Fast.tw4686157208492898010 : Nat := 0
def PySem.W.Fast.tw1425009969392698228 : Nat := 0
def PySem.W.Fast.tw13263559634185772478 : Nat := 0
def PySem.W.Fast.tw1659334320539924727 : Nat := 0
def PySem.W.Fast.tw12161646231616832608 : Nat := 0
def PySem.W.Fast.tw7017760424780111845 : Nat := 0
def PySem.W.Fast.tw16872934287568794537 : Nat := 0
def PySem.W.Fast.tw6690258308716383696 : Nat := 0
def PySem.W.Fast.tw5901456392207671640 : Nat := 0
def PySem.W.Fast.tw1606864585188596834 : Nat := 0
def PySem.W.Fast.tw2731202341658218642 : Nat := 0
def PySem.W.Fast.tw3978091719061501685 : Nat := 0
def PySem.W.Fast.tw16883728566982567968 : Nat := 0
def PySem.W.Fast.tw12458828221424370161 : Nat := 0
def PySem.W.Fast.tw952330415817382373 : Nat := 0
def PySem.W.Fast.tw10609212963912692247 : Nat := 0
def PySem.W.Fast.tw17827283793450700820 : Nat := 0
def PySem.W.Fast.tw14611393954710340906 : Nat := 0
def PySem.W.Fast.tw16208355902984632203 : Nat := 0
def PySem.W.Fast.tw9106273952456215396 : Nat := 0
def PySem.W.Fast.tw15367985214115174983 : Nat := 0
def PySem.W.Fast.tw7439147943110509087 : Nat := 0
def PySem.W.Fast.tw197122640553924899 : Nat := 0
def PySem.W.Fast.tw15193552992282256300 : Nat := 0
def PySem.W.Fast.tw1643029498821824511 : Nat := 0
def PySem.W.Fast.tw3019370584814614594 : Nat := 0
def PySem.W.Fast.tw1034217953874756016 : Nat := 0
def PySem.W.Fast.tw12232597387281226477 : Nat := 0
def PySem.W.Fast.tw14440866926430742793 : Nat := 0
def PySem.W.Fast.tw6298438230830891437 : Nat := 0
def PySem.W.Fast.tw11954110469985270277 : Nat := 0
def PySem.W.Fast.tw4237089458400311772 : Nat := 0
def PySem.W.Fast.tw13202330006957057959 : Nat := 0
def PySem.W.Fast.tw15490260644108387861 : Nat := 0
def PySem.W.Fast.tw14096440670804855917 : Nat := 0
def PySem.W.Fast.tw6155479902457153123 : Nat := 0
def PySem.W.Fast.tw5746008178543641678 : Nat := 0
def PySem.W.Fast.tw7170727323738892192 : Nat := 0
def PySem.W.Fast.tw10030105563876069005 : Nat := 0
def PySem.W.Fast.tw9064961482923013334 : Nat := 0
def PySem.W.Fast.tw6960578770777302219 : Nat := 0
def PySem.W.Fast.tw16940580322699605635 : Nat := 0
def PySem.W.Fast.tw14178693620172391042 : Nat := 0
def PySem.W.Fast.tw6423772325154517517 : Nat := 0
def PySem.W.Fast.tw13077116927071634440 : Nat := 0
def PySem.W.Fast.tw9456897707917987352 : Nat := 0
def PySem.W.Fast.tw11696353489727304984 : Nat := 0
def PySem.W.Fast.tw11479397459511720126 : Nat := 0
def PySem.W.Fast.tw9280605637460668240 : Nat := 0
def PySem.W.Fast.tw14370383334793830498 : Nat := 0
def PySem.W.Fast.tw2667744288067984407 : Nat := 0
def PySem.W.Fast.tw14482792305893409617 : Nat := 0
def PySem.W.Fast.tw12721306788856248 : Nat := 0
def PySem.W.Fast.tw9301520487607121857 : Nat := 0
def PySem.W.Fast.tw14882269477852899729 : Nat := 0
def PySem.W.Fast.tw18359004913458967108 : Nat := 0
def PySem.W.Fast.tw15559269811678237423 : Nat := 0
def PySem.W.Fast.tw18074106623307787696 : Nat := 0
def PySem.W.Fast.tw10066681844379200661 : Nat := 0
def PySem.W.Fast.tw14545451842629760024 : Nat := 0
def PySem.W.Fast.tw9511754246616937713 : Nat := 0
def PySem.W.Fast.tw11608998995161548330 : Nat := 0
def PySem.W.Fast.tw5365251410959588793 : Nat := 0
def PySem.W.Fast.tw17261726504820299327 : Nat := 0
def PySem.W.Fast.tw478780926240173857 : Nat := 0
def PySem.W.Fast.tw6100399422745148986 : Nat := 0
def PySem.W.Fast.tw14548169692810719416 : Nat := 0
def PySem.W.Fast.tw11249452334720144897 : Nat := 0
def PySem.W.Fast.tw16137938059432597111 : Nat := 0
def PySem.W.Fast.tw8499267006780774856 : Nat := 0
def PySem.W.Fast.tw3563112963276958758 : Nat := 0
def PySem.W.Fast.tw11333466095911517379 : Nat := 0
def PySem.W.Fast.tw14690460733222283149 : Nat := 0
def PySem.W.Fast.tw16259945535273509365 : Nat := 0
def PySem.W.Fast.tw15616826529979022750 : Nat := 0
def PySem.W.Fast.tw17403766755177033920 : Nat := 0
def PySem.W.Fast.tw9617226627941883841 : Nat := 0
def PySem.W.Fast.tw7975006254151478770 : Nat := 0
def PySem.W.Fast.tw2709917990471019154 : Nat := 0
def PySem.W.Fast.tw16366188349001726842 : Nat := 0
def PySem.W.Fast.tw1733534443218869266 : Nat := 0
def PySem.W.Fast.tw540052728505709992 : Nat := 0
def PySem.W.Fast.tw1365692543961802084 : Nat := 0
def PySem.W.Fast.tw13885852789338220869 : Nat := 0
def PySem.W.Fast.tw5866410312725599950 : Nat := 0
def PySem.W.Fast.tw8570418142515007785 : Nat := 0
def PySem.W.Fast.tw1791141284153992271 : Nat := 0
def PySem.W.Fast.tw8839151688896791499 : Nat := 0
def PySem.W.Fast.tw2211101510782767919 : Nat := 0
def PySem.W.Fast.tw1334365867626452187 : Nat := 0
def PySem.W.Fast.tw18279814023012600581 : Nat := 0
def PySem.W.Fast.tw15229401529394183190 : Nat := 0
def PySem.W.Fast.tw8868358919355124359 : Nat := 0
def PySem.W.Fast.tw10683630713251101900 : Nat := 0
def PySem.W.Fast.tw4552167812529202945 : Nat := 0
def PySem.W.Fast.tw2963864491364104042 : Nat := 0
def PySem.W.Fast.tw10169537970558861173 : Nat := 0
def PySem.W.Fast.tw14985522730941835744 : Nat := 0
def PySem.W.Fast.tw7009900377590534677 : Nat := 0
def PySem.W.Fast.tw3335762387344251337 : Nat := 0
def PySem.W.Fast.tw9381640740269655461 : Nat := 0
def PySem.W.Fast.tw6528345898836264332 : Nat := 0
def PySem.W.Fast.tw11100722736762084279 : Nat := 0
def PySem.W.Fast.tw188435151078882580 : Nat := 0
def PySem.W.Fast.tw16670090527320683758 : Nat := 0
def PySem.W.Fast.tw17669262108645344739 : Nat := 0
def PySem.W.Fast.tw8996117847781402727 : Nat := 0
def PySem.W.Fast.tw15792621709299679551 : Nat := 0
def PySem.W.Fast.tw6632812610470573873 : Nat := 0
def PySem.W.Fast.tw3632642834552002926 : Nat := 0
def PySem.W.Fast.tw2397065234942330304 : Nat := 0
def PySem.W.Fast.tw781692847639932827 : Nat := 0
def PySem.W.Fast.tw3205233517942242456 : Nat := 0
def PySem.W.Fast.tw4253177248279808332 : Nat := 0
def PySem.W.Fast.tw9099837340334645665 : Nat := 0
def PySem.W.Fast.tw7166768405559767298 : Nat := 0
def PySem.W.Fast.tw17256984629106768201 : Nat := 0
def PySem.W.Fast.tw6040988306667221268 : Nat := 0
def PySem.W.Fast.tw1347959133488436946 : Nat := 0
def PySem.W.Fast.tw14202488042620936140 : Nat := 0
def PySem.W.Fast.tw11288904678217257733 : Nat := 0
def PySem.W.Fast.tw14182033807080986057 : Nat := 0
def PySem.W.Fast.tw6591952539514771570 : Nat := 0
def PySem.W.Fast.tw18168140645536480349 : Nat := 0
def PySem.W.Fast.tw5758012949790455143 : Nat := 0
def PySem.W.Fast.tw14036969227569797201 : Nat := 0
def PySem.W.Fast.tw12231250670338343117 : Nat := 0
def PySem.W.Fast.tw9119787751455581396 : Nat := 0
def PySem.W.Fast.tw16164403847805521249 : Nat := 0
def PySem.W.Fast.tw16995962800800821324 : Nat := 0
def PySem.W.Fast.tw13239351068779418145 : Nat := 0
def PySem.W.Fast.tw5414265402773041052 : Nat := 0
def PySem.W.Fast.tw5868849166157105390 : Nat := 0
def PySem.W.Fast.tw753426398479565156 : Nat := 0
def PySem.W.Fast.tw16220644330584769119 : Nat := 0
def PySem.W.Fast.tw11768271702779540779 : Nat := 0
def PySem.W.Fast.tw9964064327400427442 : Nat := 0
def PySem.W.Fast.tw14338821609843263767 : Nat := 0
def PySem.W.Fast.tw12984215931545194281 : Nat := 0
def PySem.W.Fast.tw18251348298475311380 : Nat := 0
def PySem.W.Fast.tw4210356424517212880 : Nat := 0
def PySem.W.Fast.tw2161213895384235697 : Nat := 0
def PySem.W.Fast.tw8953489425884300239 : Nat := 0
def PySem.W.Fast.tw7954418277173415782 : Nat := 0
def PySem.W.Fast.tw2833341261155680578 : Nat := 0
def PySem.W.Fast.tw1743431385531149161 : Nat := 0
def PySem.W.Fast.tw12740801542192703014 : Nat := 0
def PySem.W.Fast.tw11882458665076795297 : Nat := 0
def PySem.W.Fast.tw1858518733842772991 : Nat := 0
def PySem.W.Fast.tw13303878875577527579 : Nat := 0
def PySem.W.Fast.tw1633789984111603562 : Nat := 0
def PySem.W.Fast.tw10757227017541245947 : Nat := 0
def PySem.W.Fast.tw15283850868956086859 : Nat := 0
def PySem.W.Fast.tw11659529869248618747 : Nat := 0
def PySem.W.Fast.tw17083760241388913758 : Nat := 0
def PySem.W.Fast.tw10694106074228821626 : Nat := 0
def PySem.W.Fast.tw1633397201723381753 : Nat := 0
def PySem.W.Fast.tw18153302082143813204 : Nat := 0
def PySem.W.Fast.tw17051413001054077162 : Nat := 0
def PySem.W.Fast.tw8782365610846707536 : Nat := 0
def PySem.W.Fast.tw12738153721964785045 : Nat := 0
def PySem.W.Fast.tw4053495387162424040 : Nat := 0
def PySem.W.Fast.tw7906226742243016152 : Nat := 0
def PySem.W.Fast.tw12031250972716969684 : Nat := 0
def PySem.W.Fast.tw9124187061874629742 : Nat := 0
def PySem.W.Fast.tw17774552377685811592 : Nat := 0
def PySem.W.Fast.tw4019649495695087551 : Nat := 0
def PySem.W.Fast.tw11042547495547625238 : Nat := 0
def PySem.W.Fast.tw11216058969335097095 : Nat := 0
def PySem.W.Fast.tw3598330523637202761 : Nat := 0
def PySem.W.Fast.tw17017509977460886801 : Nat := 0
def PySem.W.Fast.tw13760317688859370839 : Nat := 0
def PySem.W.Fast.tw11508312303685119252 : Nat := 0
def PySem.W.Fast.tw13559364228064691927 : Nat := 0
def PySem.W.Fast.tw3836553071836876757 : Nat := 0
def PySem.W.Fast.tw14646458996498266443 : Nat := 0
def PySem.W.Fast.tw8457149272583841779 : Nat := 0
def PySem.W.Fast.tw15391399784871571781 : Nat := 0
def PySem.W.Fast.tw4641407189610955066 : Nat := 0
def PySem.W.Fast.tw4635040335391508197 : Nat := 0
def PySem.W.Fast.tw10800094920169246030 : Nat := 0
def PySem.W.Fast.tw9296392844000838299 : Nat := 0
def PySem.W.Fast.tw6520454567374112340 : Nat := 0
def PySem.W.Fast.tw2237818729395077866 : Nat := 0
def PySem.W.Fast.tw8915171029978741761 : Nat := 0
def PySem.W.Fast.tw12147415715641544804 : Nat := 0
def PySem.W.Fast.tw688941988836219561 : Nat := 0
def PySem.W.Fast.tw1680161973354959259 : Nat := 0
def PySem.W.Fast.tw13930726965933929690 : Nat := 0
def PySem.W.Fast.tw3674696783845014895 : Nat := 0
def PySem.W.Fast.tw8738938479241770797 : Nat := 0
def PySem.W.Fast.tw3232673569911909763 : Nat := 0
def PySem.W.Fast.tw16427162650457458838 : Nat := 0
def PySem.W.Fast.tw5228000071261102367 : Nat := 0
def PySem.W.Fast.tw15231258755914850665 : Nat := 0
def PySem.W.Fast.tw11176071255647912000 : Nat := 0
def PySem.W.Fast.tw1659062419150645350 : Nat := 0
def PySem.W.Fast.tw14325803793690191497 : Nat := 0
def PySem.W.Fast.tw12931833683498908168 : Nat := 0
def PySem.W.Fast.tw17168706705239112475 : Nat := 0
def PySem.W.Fast.tw16821691501708804503 : Nat := 0
def PySem.W.Fast.tw5935035216531026532 : Nat := 0
def PySem.W.Fast.tw2677570846591308171 : Nat := 0
def PySem.W.Fast.tw10405681322720726493 : Nat := 0
def PySem.W.Fast.tw6184959047884972734 : Nat := 0
def PySem.W.Fast.tw4195709199770521544 : Nat := 0
def PySem.W.Fast.tw4003804389879866167 : Nat := 0
def PySem.W.Fast.tw13443923989237101026 : Nat := 0
def PySem.W.Fast.tw14989312364488793684 : Nat := 0
def PySem.W.Fast.tw11575336907206289505 : Nat := 0
def PySem.W.Fast.tw12371678825837545366 : Nat := 0
def PySem.W.Fast.tw6777991811136745828 : Nat := 0
def PySem.W.Fast.tw16736532203866024820 : Nat := 0
def PySem.W.Fast.tw1139237864683378975 : Nat := 0
def PySem.W.Fast.tw2897337231804725712 : Nat := 0
def PySem.W.Fast.tw7483800331025068938 : Nat := 0
def PySem.W.Fast.tw13074880130214274206 : Nat := 0
def PySem.W.Fast.tw5776978379800031495 : Nat := 0
def PySem.W.Fast.tw12249000503883412852 : Nat := 0
def PySem.W.Fast.tw17403699801461358834 : Nat := 0
def PySem.W.Fast.tw104719247108342270 : Nat := 0
def PySem.W.Fast.tw5687426355040697662 : Nat := 0
def PySem.W.Fast.tw8233132819002617356 : Nat := 0
def PySem.W.Fast.tw18334181084666973881 : Nat := 0
def PySem.W.Fast.tw649554507248700613 : Nat := 0
def PySem.W.Fast.tw4408472083826800953 : Nat := 0
def PySem.W.Fast.tw16125026216180665422 : Nat := 0
def PySem.W.Fast.tw17268593039227226457 : Nat := 0
def PySem.W.Fast.tw9795289504997409893 : Nat := 0
def PySem.W.Fast.tw6978434779586947489 : Nat := 0
def PySem.W.Fast.tw271747753295848801 : Nat := 0
def PySem.W.Fast.tw18389500938215787713 : Nat := 0
def PySem.W.Fast.tw13508180406271443280 : Nat := 0
def PySem.W.Fast.tw7388933409481056836 : Nat := 0
def PySem.W.Fast.tw10735319005495150310 : Nat := 0
def PySem.W.Fast.tw15749560318544963373 : Nat := 0
def PySem.W.Fast.tw16536093812925651192 : Nat := 0
def PySem.W.Fast.tw9793859579774904446 : Nat := 0
def PySem.W.Fast.tw12251424113452464731 : Nat := 0
def PySem.W.Fast.tw6672173024521955796 : Nat := 0
def PySem.W.Fast.tw16101194790410919155 : Nat := 0
def PySem.W.Fast.tw2519539205507333404 : Nat := 0
def PySem.W.Fast.tw16899765796291676253 : Nat := 0
def PySem.W.Fast.tw17805134441989470767 : Nat := 0
def PySem.W.Fast.tw15068027763045674642 : Nat := 0
def PySem.W.Fast.tw14215797650982111240 : Nat := 0
def PySem.W.Fast.tw1590449554719143436 : Nat := 0
def PySem.W.Fast.tw5152716079457490930 : Nat := 0
def PySem.W.Fast.tw3555789983775343213 : Nat := 0
def PySem.W.Fast.tw2829161657287350371 : Nat := 0
def PySem.W.Fast.tw10076081141598364524 : Nat := 0
def PySem.W.Fast.tw16986325063063359449 : Nat := 0
def PySem.W.Fast.tw18108804469977939578 : Nat := 0
def PySem.W.Fast.tw11980771409393884483 : Nat := 0
def PySem.W.Fast.tw15145827817763348128 : Nat := 0
def PySem.W.Fast.tw448809237824121332 : Nat := 0
def PySem.W.Fast.tw11336011324652027542 : Nat := 0
def PySem.W.Fast.tw7952995551507499570 : Nat := 0
def PySem.W.Fast.tw16859384793096089774 : Nat := 0
def PySem.W.Fast.tw13896975068070468431 : Nat := 0
def PySem.W.Fast.tw6918274378348060907 : Nat := 0
def PySem.W.Fast.tw7258385394126362445 : Nat := 0
def PySem.W.Fast.tw6930617926673504127 : Nat := 0
def PySem.W.Fast.tw13611718848761166716 : Nat := 0
def PySem.W.Fast.tw16090189210715383648 : Nat := 0
def PySem.W.Fast.tw4078233484488195750 : Nat := 0
def PySem.W.Fast.tw16304637873427486231 : Nat := 0
def PySem.W.Fast.tw17230482759661513033 : Nat := 0
def PySem.W.Fast.tw11367663717131508705 : Nat := 0
def PySem.W.Fast.tw9994662232765391685 : Nat := 0
def PySem.W.Fast.tw13419021003463918043 : Nat := 0
def PySem.W.Fast.tw13289583076514807753 : Nat := 0
def PySem.W.Fast.tw11446142727616163005 : Nat := 0
def PySem.W.Fast.tw2881722394356865721 : Nat := 0
def PySem.W.Fast.tw2210406819240079479 : Nat := 0
def PySem.W.Fast.tw4279012157778811947 : Nat := 0
def PySem.W.Fast.tw17849834286085179837 : Nat := 0
def PySem.W.Fast.tw1349119968001163607 : Nat := 0
def PySem.W.Fast.tw15601682038465836594 : Nat := 0
def PySem.W.Fast.tw13287449483807185277 : Nat := 0
def PySem.W.Fast.tw3139085373454148054 : Nat := 0
def PySem.W.Fast.tw8484602665760381867 : Nat := 0
def PySem.W.Fast.tw2210812334847905016 : Nat := 0
def PySem.W.Fast.tw11004522433095844473 : Nat := 0
def PySem.W.Fast.tw8655927614562012189 : Nat := 0
def PySem.W.Fast.tw7281060001469085532 : Nat := 0
def PySem.W.Fast.tw2826536264894696850 : Nat := 0
def PySem.W.Fast.tw9325551797351215049 : Nat := 0
def PySem.W.Fast.tw185348961610687264 : Nat := 0
def PySem.W.Fast.tw11884132018817477917 : Nat := 0
def PySem.W.Fast.tw15067432750141911774 : Nat := 0
def PySem.W.Fast.tw16276208718961309534 : Nat := 0
def PySem.W.Fast.tw9653057050857905178 : Nat := 0
def PySem.W.Fast.tw2436339652518901807 : Nat := 0
def PySem.W.Fast.tw13764805462431214889 : Nat := 0
def PySem.W.Fast.tw164245803757568836 : Nat := 0
def PySem.W.Fast.tw15591469727125215823 : Nat := 0
def PySem.W.Fast.tw858764983565775849 : Nat := 0
def PySem.W.Fast.tw2899759102803614671 : Nat := 0
def PySem.W.Fast.tw2574161708742753484 : Nat := 0
def PySem.W.Fast.tw9851831529360203211 : Nat := 0
def PySem.W.Fast.tw6172203987640785093 : Nat := 0
def PySem.W.Fast.tw8435905102015863865 : Nat := 0
def PySem.W.Fast.tw5026309237366440437 : Nat := 0
def PySem.W.Fast.tw13419468597394638799 : Nat := 0
def PySem.W.Fast.tw40851184245339895 : Nat := 0
def PySem.W.Fast.tw201314627618600824 : Nat := 0
def PySem.W.Fast.tw15178072754991742543 : Nat := 0
def PySem.W.Fast.tw7776112867594771470 : Nat := 0
def PySem.W.Fast.tw11034123230080019064 : Nat := 0
def PySem.W.Fast.tw17416723163290087221 : Nat := 0
def PySem.W.Fast.tw5027750174826788969 : Nat := 0
def PySem.W.Fast.tw3202056709737301326 : Nat := 0
def PySem.W.Fast.tw15980766128111450101 : Nat := 0
def PySem.W.Fast.tw12675574588920221784 : Nat := 0
def PySem.W.Fast.tw3504204237773607186 : Nat := 0
def PySem.W.Fast.tw16534030018737713633 : Nat := 0
def PySem.W.Fast.tw14309274109524964010 : Nat := 0
def PySem.W.Fast.tw6499560679250736485 : Nat := 0
def PySem.W.Fast.tw18290737323830939616 : Nat := 0
def PySem.W.Fast.tw9201001128171013891 : Nat := 0
def PySem.W.Fast.tw9031724990090035340 : Nat := 0
def PySem.W.Fast.tw15867982455375197482 : Nat := 0
def PySem.W.Fast.tw10624992755514294577 : Nat := 0
def PySem.W.Fast.tw11013998068876411563 : Nat := 0
def PySem.W.Fast.tw9112621767815422396 : Nat := 0
def PySem.W.Fast.tw1259537474789983426 : Nat := 0
def PySem.W.Fast.tw17220172026528236623 : Nat := 0
def PySem.W.Fast.tw13359422249419770253 : Nat := 0
def PySem.W.Fast.tw3592763918221151283 : Nat := 0
def PySem.W.Fast.tw17474638582544780817 : Nat := 0
def PySem.W.Fast.tw7667192650047528555 : Nat := 0
def PySem.W.Fast.tw10770896772144423707 : Nat := 0
def PySem.W.Fast.tw13659642977108495234 : Nat := 0
def PySem.W.Fast.tw17642779781914395694 : Nat := 0
def PySem.W.Fast.tw17386199851117668517 : Nat := 0
def PySem.W.Fast.tw15376801757383028452 : Nat := 0
def PySem.W.Fast.tw9205555941676320163 : Nat := 0
def PySem.W.Fast.tw15441514646213169881 : Nat := 0
def PySem.W.Fast.tw15159182415315502040 : Nat := 0
def PySem.W.Fast.tw6731497530848695835 : Nat := 0
def PySem.W.Fast.tw11208012713334026322 : Nat := 0
def PySem.W.Fast.tw16560114105707538984 : Nat := 0
def PySem.W.Fast.tw11011886736115473067 : Nat := 0
def PySem.W.Fast.tw14654229497547812352 : Nat := 0
def PySem.W.Fast.tw9398035587670162602 : Nat := 0
def PySem.W.Fast.tw8777669134058368808 : Nat := 0
def PySem.W.Fast.tw8723650734662541480 : Nat := 0
def PySem.W.Fast.tw9637197574596198805 : Nat := 0
def PySem.W.Fast.tw9256590112869087962 : Nat := 0
def PySem.W.Fast.tw7274263571602872652 : Nat := 0
def PySem.W.Fast.tw14350637212460271068 : Nat := 0
def PySem.W.Fast.tw9339238773624180380 : Nat := 0
def PySem.W.Fast.tw1367828810494093185 : Nat := 0
def PySem.W.Fast.tw12884876864388784964 : Nat := 0
def PySem.W.Fast.tw6182369673801103488 : Nat := 0
def PySem.W.Fast.tw608996280509885850 : Nat := 0
def PySem.W.Fast.tw13525612969658111404 : Nat := 0
def PySem.W.Fast.tw263797832785747826 : Nat := 0
def PySem.W.Fast.tw3547710246720741174 : Nat := 0
def PySem.W.Fast.tw16553191079775371083 : Nat := 0
def PySem.W.Fast.tw15462344315032767253 : Nat := 0
def PySem.W.Fast.tw12685992023379860758 : Nat := 0
def PySem.W.Fast.tw10890632285177569674 : Nat := 0
def PySem.W.Fast.tw16290869774687504699 : Nat := 0
def PySem.W.Fast.tw15811603425053070171 : Nat := 0
def PySem.W.Fast.tw2869911766775105220 : Nat := 0
def PySem.W.Fast.tw13020275711200982954 : Nat := 0
def PySem.W.Fast.tw5322737389319467541 : Nat := 0
def PySem.W.Fast.tw11574739131270361758 : Nat := 0
def PySem.W.Fast.tw1681027457665153427 : Nat := 0
def PySem.W.Fast.tw11198888596394512384 : Nat := 0
def PySem.W.Fast.tw9649474760089368853 : Nat := 0
def PySem.W.Fast.tw15063982617859227383 : Nat := 0
def PySem.W.Fast.tw5870692510508939802 : Nat := 0
def PySem.W.Fast.tw8787413428114082467 : Nat := 0
def PySem.W.Fast.tw8943511437722035562 : Nat := 0
def PySem.W.Fast.tw13155613529331789206 : Nat := 0
def PySem.W.Fast.tw13399883563495276073 : Nat := 0
def PySem.W.Fast.tw17493072694217487184 : Nat := 0
def PySem.W.Fast.tw14619884461815188092 : Nat := 0
def PySem.W.Fast.tw3113802067080935388 : Nat := 0
def PySem.W.Fast.tw14637392790760340129 : Nat := 0
def PySem.W.Fast.tw11880538787115773724 : Nat := 0
def PySem.W.Fast.tw12241383056926536499 : Nat := 0
def PySem.W.Fast.tw17696449694488964975 : Nat := 0
def PySem.W.Fast.tw11263652182607982718 : Nat := 0
def PySem.W.Fast.tw7061375698865766581 : Nat := 0
def PySem.W.Fast.tw2556725878995607726 : Nat := 0
def PySem.W.Fast.tw9507085338683214705 : Nat := 0
def PySem.W.Fast.tw2844999724036191214 : Nat := 0
def PySem.W.Fast.tw4888479030399853751 : Nat := 0
def PySem.W.Fast.tw14853354768225873546 : Nat := 0
def PySem.W.Fast.tw331333961111307753 : Nat := 0
def PySem.W.Fast.tw10536040629257608664 : Nat := 0
def PySem.W.Fast.tw18306489536788896311 : Nat := 0
def PySem.W.Fast.tw3549273018620657914 : Nat := 0
def PySem.W.Fast.tw10703355574138541619 : Nat := 0
def PySem.W.Fast.tw948611816983248325 : Nat := 0
def PySem.W.Fast.tw16466022495342765356 : Nat := 0
def PySem.W.Fast.tw17490063263339111275 : Nat := 0
def PySem.W.Fast.tw11805618701631091981 : Nat := 0
def PySem.W.Fast.tw935936079981698595 : Nat := 0
def PySem.W.Fast.tw10142893034371577616 : Nat := 0
def PySem.W.Fast.tw9383539590110265099 : Nat := 0
def PySem.W.Fast.tw8135858511871614693 : Nat := 0
def PySem.W.Fast.tw12301571990908068602 : Nat := 0
def PySem.W.Fast.tw9171060334410424803 : Nat := 0
def PySem.W.Fast.tw8180041675212515705 : Nat := 0
def PySem.W.Fast.tw8228582065266296790 : Nat := 0
def PySem.W.Fast.tw3604551363637365744 : Nat := 0
def PySem.W.Fast.tw7647026995424810450 : Nat := 0
def PySem.W.Fast.tw3420694083168888886 : Nat := 0
def PySem.W.Fast.tw6940639022295213199 : Nat := 0
def PySem.W.Fast.tw10215729721713700189 : Nat := 0
def PySem.W.Fast.tw8059351195115557549 : Nat := 0
def PySem.W.Fast.tw12796440406660226732 : Nat := 0
def PySem.W.Fast.tw16018975086775522760 : Nat := 0
def PySem.W.Fast.tw13599620147793457598 : Nat := 0
def PySem.W.Fast.tw6177588718921384222 : Nat := 0
def PySem.W.Fast.tw2491206140856531979 : Nat := 0
def PySem.W.Fast.tw2039200819926537932 : Nat := 0
def PySem.W.Fast.tw15807974431425054324 : Nat := 0
def PySem.W.Fast.tw779810585773198136 : Nat := 0
def PySem.W.Fast.tw9676566388448019123 : Nat := 0
def PySem.W.Fast.tw18277701690433828859 : Nat := 0
def PySem.W.Fast.tw16958499560142284064 : Nat := 0
def PySem.W.Fast.tw4407816829015050417 : Nat := 0
def PySem.W.Fast.tw16881406557826889954 : Nat := 0
def PySem.W.Fast.tw12688283742504329175 : Nat := 0
def PySem.W.Fast.tw3139180547704060477 : Nat := 0
def PySem.W.Fast.tw12998581902990895739 : Nat := 0
def PySem.W.Fast.tw11629239958805872815 : Nat := 0
def PySem.W.Fast.tw4863885696152255616 : Nat := 0
def PySem.W.Fast.tw9281724885492162123 : Nat := 0
def PySem.W.Fast.tw14429223685926469682 : Nat := 0
def PySem.W.Fast.tw7665839287854037266 : Nat := 0
def PySem.W.Fast.tw2711805510309456503 : Nat := 0
def PySem.W.Fast.tw2901915129018633764 : Nat := 0
def PySem.W.Fast.tw1368200458339227582 : Nat := 0
def PySem.W.Fast.tw15028360304756370101 : Nat := 0
def PySem.W.Fast.tw7016539276443787161 : Nat := 0
def PySem.W.Fast.tw1300958346782008297 : Nat := 0
def PySem.W.Fast.tw403335745665787990 : Nat := 0
def PySem.W.Fast.tw2838077802650834741 : Nat := 0
def PySem.W.Fast.tw38804574073388778 : Nat := 0
def PySem.W.Fast.tw5050909061243107934 : Nat := 0
def PySem.W.Fast.tw12698863741399057255 : Nat := 0
def PySem.W.Fast.tw3801913919396750828 : Nat := 0
def PySem.W.Fast.tw3000141453839914347 : Nat := 0
def PySem.W.Fast.tw14169699580852304619 : Nat := 0
def PySem.W.Fast.tw4013602191593529395 : Nat := 0
def PySem.W.Fast.tw16624279188411414741 : Nat := 0
def PySem.W.Fast.tw8986000973835480113 : Nat := 0
def PySem.W.Fast.tw4833910914702606997 : Nat := 0
def PySem.W.Fast.tw15146878118644705096 : Nat := 0
def PySem.W.Fast.tw3829577522979845059 : Nat := 0
def PySem.W.Fast.tw12599655581962651526 : Nat := 0
def PySem.W.Fast.tw12037797450234848030 : Nat := 0
def PySem.W.Fast.tw4607850915860987300 : Nat := 0
def PySem.W.Fast.tw5666103961567816495 : Nat := 0
def PySem.W.Fast.tw2203272428571731318 : Nat := 0
def PySem.W.Fast.tw4890573349350826552 : Nat := 0
def PySem.W.Fast.tw6232693704780896623 : Nat := 0
def PySem.W.Fast.tw10982327520917486841 : Nat := 0
def PySem.W.Fast.tw1065024966214357937 : Nat := 0
def PySem.W.Fast.tw6987805673191355688 : Nat := 0
def PySem.W.Fast.tw18256096285771541257 : Nat := 0
def PySem.W.Fast.tw5660109507278827836 : Nat := 0
def PySem.W.Fast.tw10757946145697791957 : Nat := 0
def PySem.W.Fast.tw11110842756969985103 : Nat := 0
def PySem.W.Fast.tw18078350540596490019 : Nat := 0
def PySem.W.Fast.tw6571174517911430718 : Nat := 0
def PySem.W.Fast.tw17318018519710897595 : Nat := 0
def PySem.W.Fast.tw18204116123780455390 : Nat := 0
def PySem.W.Fast.tw2259417413053826931 : Nat := 0
def PySem.W.Fast.tw12675787367267459915 : Nat := 0
def PySem.W.Fast.tw9993650165003202962 : Nat := 0
def PySem.W.Fast.tw2375963009408179946 : Nat := 0
def PySem.W.Fast.tw2010316012734057502 : Nat := 0
def PySem.W.Fast.tw11826557002619409286 : Nat := 0
def PySem.W.Fast.tw3800232943561391379 : Nat := 0
def PySem.W.Fast.tw13472351302069168586 : Nat := 0
def PySem.W.Fast.tw4570161416073599746 : Nat := 0
def PySem.W.Fast.tw13380981243259598162 : Nat := 0
def PySem.W.Fast.tw15761735700056274836 : Nat := 0
def PySem.W.Fast.tw10395470513528520783 : Nat := 0
def PySem.W.Fast.tw6257051244386754466 : Nat := 0
def PySem.W.Fast.tw11186105364672627522 : Nat := 0
def PySem.W.Fast.tw3269634195755524848 : Nat := 0
def PySem.W.Fast.tw6293274356254349274 : Nat := 0
def PySem.W.Fast.tw17732122600257063144 : Nat := 0
def PySem.W.Fast.tw1742288850930212484 : Nat := 0
def PySem.W.Fast.tw214217102988338076 : Nat := 0
def PySem.W.Fast.tw4797009318464973808 : Nat := 0
def PySem.W.Fast.tw13694758357268916111 : Nat := 0
def PySem.W.Fast.tw704217234349643012 : Nat := 0
def PySem.W.Fast.tw11434242901071042735 : Nat := 0
def PySem.W.Fast.tw5783770641962356829 : Nat := 0
def PySem.W.Fast.tw7038747715572650808 : Nat := 0
def PySem.W.Fast.tw8113813223119961513 : Nat := 0
def PySem.W.Fast.tw13206233674505647656 : Nat := 0
def PySem.W.Fast.tw13144567462069898248 : Nat := 0
def PySem.W.Fast.tw14591721307671812262 : Nat := 0
def PySem.W.Fast.tw5335694147545034399 : Nat := 0
def PySem.W.Fast.tw17211964493403506542 : Nat := 0
def PySem.W.Fast.tw17130324947439068551 : Nat := 0
def PySem.W.Fast.tw7969633213307728515 : Nat := 0
def PySem.W.Fast.tw9156891515815225486 : Nat := 0
def PySem.W.Fast.tw17636764516667555669 : Nat := 0
def PySem.W.Fast.tw5895022393271725064 : Nat := 0
def PySem.W.Fast.tw6144690603820299578 : Nat := 0
def PySem.W.Fast.tw9482821550442128422 : Nat := 0
def PySem.W.Fast.tw18347489080984167717 : Nat := 0
def PySem.W.Fast.tw15169401596883062040 : Nat := 0
def PySem.W.Fast.tw6718581578210911262 : Nat := 0
def PySem.W.Fast.tw12893531177318932289 : Nat := 0
def PySem.W.Fast.tw17471712122716539722 : Nat := 0
def PySem.W.Fast.tw5238138640784322244 : Nat := 0
def PySem.W.Fast.tw15939582264405209247 : Nat := 0
def PySem.W.Fast.tw16501205560453730492 : Nat := 0
def PySem.W.Fast.tw18291687910068942107 : Nat := 0
def PySem.W.Fast.tw5481800932873994111 : Nat := 0
def PySem.W.Fast.tw14048901793941382679 : Nat := 0
def PySem.W.Fast.tw14595525210739415842 : Nat := 0
def PySem.W.Fast.tw11169889394324969577 : Nat := 0
def PySem.W.Fast.tw5380844927787694835 : Nat := 0
def PySem.W.Fast.tw5541597211316933702 : Nat := 0
def PySem.W.Fast.tw8086616603589960331 : Nat := 0
def PySem.W.Fast.tw604660087090111513 : Nat := 0
def PySem.W.Fast.tw14621076531624859248 : Nat := 0
def PySem.W.Fast.tw10704222523265292380 : Nat := 0
def PySem.W.Fast.tw9292808751375757793 : Nat := 0
def PySem.W.Fast.tw9068505895889644400 : Nat := 0
def PySem.W.Fast.tw11747671107002825853 : Nat := 0
def PySem.W.Fast.tw9188128746413860171 : Nat := 0
def PySem.W.Fast.tw10913491460432027460 : Nat := 0
def PySem.W.Fast.tw3127077810535872995 : Nat := 0
def PySem.W.Fast.tw14002911397250061160 : Nat := 0
def PySem.W.Fast.tw4395469995203558153 : Nat := 0
def PySem.W.Fast.tw13941158658847078351 : Nat := 0
def PySem.W.Fast.tw7562689886321110369 : Nat := 0
def PySem.W.Fast.tw13488936782543276570 : Nat := 0
def PySem.W.Fast.tw18409123269544539244 : Nat := 0
def PySem.W.Fast.tw9746944740793825644 : Nat := 0
def PySem.W.Fast.tw15599232406257295809 : Nat := 0
def PySem.W.Fast.tw15903921304601518732 : Nat := 0
def PySem.W.Fast.tw8413719751346173625 : Nat := 0
def PySem.W.Fast.tw1751920256623513306 : Nat := 0
def PySem.W.Fast.tw749951085255762088 : Nat := 0
def PySem.W.Fast.tw15564028118938183939 : Nat := 0
def PySem.W.Fast.tw8848687701226678607 : Nat := 0
def PySem.W.Fast.tw2215833409517454503 : Nat := 0
def PySem.W.Fast.tw5527697033149899547 : Nat := 0
def PySem.W.Fast.tw12265198351820700157 : Nat := 0
def PySem.W.Fast.tw1491424060241551861 : Nat := 0
def PySem.W.Fast.tw2406557285575794357 : Nat := 0
def PySem.W.Fast.tw12128292034969960777 : Nat := 0
def PySem.W.Fast.tw4305845393432125248 : Nat := 0
def PySem.W.Fast.tw10498351010088607914 : Nat := 0
def PySem.W.Fast.tw5991787590717904293 : Nat := 0
def PySem.W.Fast.tw11020859227720530880 : Nat := 0
def PySem.W.Fast.tw2184852705191384060 : Nat := 0
def PySem.W.Fast.tw18426074356652924175 : Nat := 0
def PySem.W.Fast.tw16753237186068099254 : Nat := 0
def PySem.W.Fast.tw3353846235767203380 : Nat := 0
def PySem.W.Fast.tw1969983372640368893 : Nat := 0
def PySem.W.Fast.tw16473777145186245809 : Nat := 0
def PySem.W.Fast.tw18001720645251348701 : Nat := 0
def PySem.W.Fast.tw4689438132154601078 : Nat := 0
def PySem.W.Fast.tw11583915754456645783 : Nat := 0
def PySem.W.Fast.tw3962493750475205946 : Nat := 0
def PySem.W.Fast.tw17862694901525250463 : Nat := 0
def PySem.W.Fast.tw15325736622722184503 : Nat := 0
def PySem.W.Fast.tw13635492107050425796 : Nat := 0
def PySem.W.Fast.tw4332094635647947170 : Nat := 0
def PySem.W.Fast.tw16259038165527823896 : Nat := 0
def PySem.W.Fast.tw16768526465034632458 : Nat := 0
def PySem.W.Fast.tw10727064033466710209 : Nat := 0
def PySem.W.Fast.tw12242684043903138520 : Nat := 0
def PySem.W.Fast.tw8591607032284781169 : Nat := 0
def PySem.W.Fast.tw10124914155584918153 : Nat := 0
def PySem.W.Fast.tw10186742588216759578 : Nat := 0
def PySem.W.Fast.tw11674870149561547979 : Nat := 0
def PySem.W.Fast.tw1377335428771251589 : Nat := 0
def PySem.W.Fast.tw14533999372386883026 : Nat := 0
def PySem.W.Fast.tw11681200642576439203 : Nat := 0
def PySem.W.Fast.tw6923238377508362830 : Nat := 0
def PySem.W.Fast.tw2301240505796032213 : Nat := 0
def PySem.W.Fast.tw10816533508064415480 : Nat := 0
def PySem.W.Fast.tw9531264233020697231 : Nat := 0
def PySem.W.Fast.tw15177660386685147325 : Nat := 0
def PySem.W.Fast.tw5526989912008146208 : Nat := 0
def PySem.W.Fast.tw8995993134632171828 : Nat := 0
def PySem.W.Fast.tw1962415159560387754 : Nat := 0
def PySem.W.Fast.tw17809956161969970521 : Nat := 0
def PySem.W.Fast.tw15870309846266913410 : Nat := 0
def PySem.W.Fast.tw12227479340818463833 : Nat := 0
def PySem.W.Fast.tw15782308799363788214 : Nat := 0
def PySem.W.Fast.tw4008666473140260816 : Nat := 0
def PySem.W.Fast.tw4108525494143821267 : Nat := 0
def PySem.W.Fast.tw10836929218805258371 : Nat := 0
def PySem.W.Fast.tw298683597987835190 : Nat := 0
def PySem.W.Fast.tw6973090508217319783 : Nat := 0
def PySem.W.Fast.tw2208347889257577237 : Nat := 0
def PySem.W.Fast.tw10310142660719461731 : Nat := 0
def PySem.W.Fast.tw422716315167731891 : Nat := 0
def PySem.W.Fast.tw9392337673214922599 : Nat := 0
def PySem.W.Fast.tw3376358411790506765 : Nat := 0
def PySem.W.Fast.tw14148354845576025595 : Nat := 0
def PySem.W.Fast.tw9809588308097015102 : Nat := 0
def PySem.W.Fast.tw11773927448970808987 : Nat := 0
def PySem.W.Fast.tw7796964186790883948 : Nat := 0
def PySem.W.Fast.tw9261430865459789334 : Nat := 0
def PySem.W.Fast.tw1502666040864808107 : Nat := 0
def PySem.W.Fast.tw1585572357636081102 : Nat := 0
def PySem.W.Fast.tw8160022998625680100 : Nat := 0
def PySem.W.Fast.tw6784319162272718924 : Nat := 0
def PySem.W.Fast.tw12013227759068817049 : Nat := 0
def PySem.W.Fast.tw15642591929370623415 : Nat := 0
def PySem.W.Fast.tw16578109178616640184 : Nat := 0
def PySem.W.Fast.tw6111494886880933139 : Nat := 0
def PySem.W.Fast.tw12843641531794272325 : Nat := 0
def PySem.W.Fast.tw167011058178874773 : Nat := 0
def PySem.W.Fast.tw17223310883724569544 : Nat := 0
def PySem.W.Fast.tw5514045330085157294 : Nat := 0
def PySem.W.Fast.tw18218018072191108573 : Nat := 0
def PySem.W.Fast.tw8773912668410013147 : Nat := 0
def PySem.W.Fast.tw14104272456103769141 : Nat := 0
def PySem.W.Fast.tw5000928443283928399 : Nat := 0
def PySem.W.Fast.tw7366240788729665744 : Nat := 0
def PySem.W.Fast.tw4635348751521292840 : Nat := 0
def PySem.W.Fast.tw6101342938672916581 : Nat := 0
def PySem.W.Fast.tw9770186998421319150 : Nat := 0
def PySem.W.Fast.tw4046955697288975498 : Nat := 0
def PySem.W.Fast.tw11499889077989603416 : Nat := 0
def PySem.W.Fast.tw13392187705941911152 : Nat := 0
def PySem.W.Fast.tw16249821003756537357 : Nat := 0
def PySem.W.Fast.tw2225954403103499980 : Nat := 0
def PySem.W.Fast.tw7877077752509805008 : Nat := 0
def PySem.W.Fast.tw11503431523543348128 : Nat := 0
def PySem.W.Fast.tw2559288935958269968 : Nat := 0
def PySem.W.Fast.tw1690526749573562239 : Nat := 0
def PySem.W.Fast.tw18220810128381019992 : Nat := 0
def PySem.W.Fast.tw635310547402894955 : Nat := 0
def PySem.W.Fast.tw5040658812236801898 : Nat := 0
def PySem.W.Fast.tw8188771459317491578 : Nat := 0
def PySem.W.Fast.tw8323385364596057071 : Nat := 0
def PySem.W.Fast.tw2977466342424962675 : Nat := 0
def PySem.W.Fast.tw16459099118389267899 : Nat := 0
def PySem.W.Fast.tw12633845164445238198 : Nat := 0
def PySem.W.Fast.tw3258509230415926880 : Nat := 0
def PySem.W.Fast.tw4825002109669971268 : Nat := 0
def PySem.W.Fast.tw13344803281936463002 : Nat := 0
def PySem.W.Fast.tw13582435110853625821 : Nat := 0
def PySem.W.Fast.tw3213218196261857305 : Nat := 0
def PySem.W.Fast.tw10151588528543227356 : Nat := 0
def PySem.W.Fast.tw16087861171891963448 : Nat := 0
def PySem.W.Fast.tw11295362856220387162 : Nat := 0
def PySem.W.Fast.tw4450538006586695780 : Nat := 0
def PySem.W.Fast.tw15379318380100256733 : Nat := 0
def PySem.W.Fast.tw7756226548907614265 : Nat := 0
def PySem.W.Fast.tw17552757548701442723 : Nat := 0
def PySem.W.Fast.tw9611798461688544738 : Nat := 0
def PySem.W.Fast.tw10838401368225309964 : Nat := 0
def PySem.W.Fast.tw10739886965824776961 : Nat := 0
def PySem.W.Fast.tw13709152695643017837 : Nat := 0
def PySem.W.Fast.tw13480932680984654804 : Nat := 0
def PySem.W.Fast.tw8196962837964702981 : Nat := 0
def PySem.W.Fast.tw12490192739004822635 : Nat := 0
def PySem.W.Fast.tw8190850359157310418 : Nat := 0
def PySem.W.Fast.tw4142919494955539644 : Nat := 0
def PySem.W.Fast.tw6036329601696389483 : Nat := 0
def PySem.W.Fast.tw9907015948557254655 : Nat := 0
def PySem.W.Fast.tw11419387199296583245 : Nat := 0
def PySem.W.Fast.tw13091928776224437858 : Nat := 0
def PySem.W.Fast.tw18442533542075527135 : Nat := 0
def PySem.W.Fast.tw5713684625805871992 : Nat := 0
def PySem.W.Fast.tw10121369145642885648 : Nat := 0
def PySem.W.Fast.tw11756687615429574487 : Nat := 0
def PySem.W.Fast.tw8562371980531498852 : Nat := 0
def PySem.W.Fast.tw9759774674648990328 : Nat := 0
def PySem.W.Fast.tw4320104626248547779 : Nat := 0
def PySem.W.Fast.tw12074683864582976808 : Nat := 0
def PySem.W.Fast.tw5874664339448230785 : Nat := 0
def PySem.W.Fast.tw18371944301279852452 : Nat := 0
def PySem.W.Fast.tw3777235940551389140 : Nat := 0
def PySem.W.Fast.tw3234960790277462749 : Nat := 0
def PySem.W.Fast.tw14039291049035536586 : Nat := 0
def PySem.W.Fast.tw3852901773496852185 : Nat := 0
def PySem.W.Fast.tw6108473213421009959 : Nat := 0
def PySem.W.Fast.tw1714932404497858821 : Nat := 0
def PySem.W.Fast.tw15338033008041127054 : Nat := 0
def PySem.W.Fast.tw8947717120293769839 : Nat := 0
def PySem.W.Fast.tw4087406014082581964 : Nat := 0
def PySem.W.Fast.tw11563565686805986805 : Nat := 0
def PySem.W.Fast.tw1869531469361230620 : Nat := 0
def PySem.W.Fast.tw11135986364478570948 : Nat := 0
def PySem.W.Fast.tw2218341544444796906 : Nat := 0
def PySem.W.Fast.tw16762896091946738365 : Nat := 0
def PySem.W.Fast.tw10097577639135086452 : Nat := 0
def PySem.W.Fast.tw8470701663259172382 : Nat := 0
def PySem.W.Fast.tw12363926435910533668 : Nat := 0
def PySem.W.Fast.tw15533886189331252641 : Nat := 0
def PySem.W.Fast.tw11554194603325731612 : Nat := 0
def PySem.W.Fast.tw6249286116616185515 : Nat := 0
def PySem.W.Fast.tw2823778570817809588 : Nat := 0
def PySem.W.Fast.tw1076104805107093739 : Nat := 0
def PySem.W.Fast.tw16019992273459796872 : Nat := 0
def PySem.W.Fast.tw4261785720118003705 : Nat := 0
def PySem.W.Fast.tw10386794467404327292 : Nat := 0
def PySem.W.Fast.tw10123246553022056529 : Nat := 0
def PySem.W.Fast.tw10462870480848891185 : Nat := 0
def PySem.W.Fast.tw14437685092316957687 : Nat := 0
def PySem.W.Fast.tw10442335468300699110 : Nat := 0
def PySem.W.Fast.tw2128161557774153035 : Nat := 0
def PySem.W.Fast.tw16437519818725336843 : Nat := 0
def PySem.W.Fast.tw9121206767759706374 : Nat := 0
def PySem.W.Fast.tw17932650443485239650 : Nat := 0
def PySem.W.Fast.tw9605422248056108085 : Nat := 0
def PySem.W.Fast.tw14260080873025323677 : Nat := 0
def PySem.W.Fast.tw7914595661103480972 : Nat := 0
def PySem.W.Fast.tw17807539015079093863 : Nat := 0
def PySem.W.Fast.tw9966846950579625932 : Nat := 0
def PySem.W.Fast.tw13619756543980428858 : Nat := 0
def PySem.W.Fast.tw8480649390446772573 : Nat := 0
def PySem.W.Fast.tw13833638016211658550 : Nat := 0
def PySem.W.Fast.tw63652137535870506 : Nat := 0
def PySem.W.Fast.tw5833945671028033519 : Nat := 0
def PySem.W.Fast.tw13810262060558943085 : Nat := 0
def PySem.W.Fast.tw9721129450867715497 : Nat := 0
def PySem.W.Fast.tw2686112112835431379 : Nat := 0
def PySem.W.Fast.tw5401302771708671681 : Nat := 0
def PySem.W.Fast.tw12024349889619977350 : Nat := 0
def PySem.W.Fast.tw582643922424409430 : Nat := 0
def PySem.W.Fast.tw18060420208305569246 : Nat := 0
def PySem.W.Fast.tw4875256078124015774 : Nat := 0
def PySem.W.Fast.tw704611194031802275 : Nat := 0
def PySem.W.Fast.tw2958284027583738814 : Nat := 0
def PySem.W.Fast.tw10760338201500977938 : Nat := 0
def PySem.W.Fast.tw12582424827531664762 : Nat := 0
def PySem.W.Fast.tw11553877920716327614 : Nat := 0
def PySem.W.Fast.tw4802448651761980650 : Nat := 0
def PySem.W.Fast.tw12998662084842949423 : Nat := 0
def PySem.W.Fast.tw1856594113894873917 : Nat := 0
def PySem.W.Fast.tw1394964898939208980 : Nat := 0
def PySem.W.Fast.tw5906941190607995518 : Nat := 0
def PySem.W.Fast.tw4371348990930251204 : Nat := 0
def PySem.W.Fast.tw10710689343857789388 : Nat := 0
def PySem.W.Fast.tw12451054459030493140 : Nat := 0
def PySem.W.Fast.tw6712902606079681128 : Nat := 0
def PySem.W.Fast.tw12589925932801701595 : Nat := 0
def PySem.W.Fast.tw1115178263591018112 : Nat := 0
def PySem.W.Fast.tw14704433553836778208 : Nat := 0
def PySem.W.Fast.tw1507857934208242968 : Nat := 0
def PySem.W.Fast.tw17392465582614226993 : Nat := 0
def PySem.W.Fast.tw8050862297845530574 : Nat := 0
def PySem.W.Fast.tw4409979564392361381 : Nat := 0
def PySem.W.Fast.tw1326467134209736855 : Nat := 0
def PySem.W.Fast.tw4935749081167669430 : Nat := 0
def PySem.W.Fast.tw2264028949938913704 : Nat := 0
def PySem.W.Fast.tw10568518722618275628 : Nat := 0
def PySem.W.Fast.tw4079201792946225351 : Nat := 0
def PySem.W.Fast.tw279002222256716414 : Nat := 0
def PySem.W.Fast.tw12609647003900804590 : Nat := 0
def PySem.W.Fast.tw8849952735024418815 : Nat := 0
def PySem.W.Fast.tw12255032891821499316 : Nat := 0
def PySem.W.Fast.tw5488825974790975165 : Nat := 0
def PySem.W.Fast.tw14647522625887971631 : Nat := 0
def PySem.W.Fast.tw5355795408678965275 : Nat := 0
def PySem.W.Fast.tw3671348217867595844 : Nat := 0
def PySem.W.Fast.tw15112131776824215384 : Nat := 0
def PySem.W.Fast.tw2057862626915078973 : Nat := 0
def PySem.W.Fast.tw14262527072368115358 : Nat := 0
def PySem.W.Fast.tw6750695660719288759 : Nat := 0
def PySem.W.Fast.tw4380373308123794905 : Nat := 0
def PySem.W.Fast.tw5569081250793748483 : Nat := 0
def PySem.W.Fast.tw15466547185475137876 : Nat := 0
def PySem.W.Fast.tw18350369274387101439 : Nat := 0
def PySem.W.Fast.tw11012667392146300150 : Nat := 0
def PySem.W.Fast.tw15111297942403384952 : Nat := 0
def PySem.W.Fast.tw1542980496778680580 : Nat := 0
def PySem.W.Fast.tw11732338027701402241 : Nat := 0
def PySem.W.Fast.tw11188685654647908454 : Nat := 0
def PySem.W.Fast.tw12317750920519237012 : Nat := 0
def PySem.W.Fast.tw2237091139937959523 : Nat := 0
def PySem.W.Fast.tw2744478960006395590 : Nat := 0
def PySem.W.Fast.tw4262980755971381001 : Nat := 0
def PySem.W.Fast.tw2041864983519000053 : Nat := 0
def PySem.W.Fast.tw8431634571925305427 : Nat := 0
def PySem.W.Fast.tw13184171449368842153 : Nat := 0
def PySem.W.Fast.tw3212618504856648446 : Nat := 0
def PySem.W.Fast.tw16621280992440422891 : Nat := 0
def PySem.W.Fast.tw2089524402812115486 : Nat := 0
def PySem.W.Fast.tw2762002047658026215 : Nat := 0
def PySem.W.Fast.tw9866836586776519326 : Nat := 0
def PySem.W.Fast.tw12950715753784797047 : Nat := 0
def PySem.W.Fast.tw2208967538513382411 : Nat := 0
def PySem.W.Fast.tw943960970995328615 : Nat := 0
def PySem.W.Fast.tw9080737789217944252 : Nat := 0
def PySem.W.Fast.tw16157284841404623590 : Nat := 0
def PySem.W.Fast.tw17202132888067975631 : Nat := 0
def PySem.W.Fast.tw3103860625094030953 : Nat := 0
def PySem.W.Fast.tw3467625934443319447 : Nat := 0
def PySem.W.Fast.tw1701073364063151286 : Nat := 0
def PySem.W.Fast.tw2564068916604012309 : Nat := 0
def PySem.W.Fast.tw16790512425503789916 : Nat := 0
def PySem.W.Fast.tw10571827079542311263 : Nat := 0
def PySem.W.Fast.tw17930544622743870427 : Nat := 0
def PySem.W.Fast.tw18298804020968705369 : Nat := 0
def PySem.W.Fast.tw4401099709194653472 : Nat := 0
def PySem.W.Fast.tw16907140822730045338 : Nat := 0
def PySem.W.Fast.tw2243226044332300415 : Nat := 0
def PySem.W.Fast.tw6815182430151680126 : Nat := 0
def PySem.W.Fast.tw18083263488603034639 : Nat := 0
def PySem.W.Fast.tw4020281029721328866 : Nat := 0
def PySem.W.Fast.tw6883877818418457280 : Nat := 0
def PySem.W.Fast.tw10347619827248270151 : Nat := 0
def PySem.W.Fast.tw8700760571107329177 : Nat := 0
def PySem.W.Fast.tw4467297944681661820 : Nat := 0
def PySem.W.Fast.tw7205969934871161301 : Nat := 0
def PySem.W.Fast.tw423162928957798890 : Nat := 0
def PySem.W.Fast.tw14929736776645323212 : Nat := 0
def PySem.W.Fast.tw11419288075838501707 : Nat := 0
def PySem.W.Fast.tw11014862750200004482 : Nat := 0
def PySem.W.Fast.tw10600513261614028810 : Nat := 0
def PySem.W.Fast.tw13119689255467088259 : Nat := 0
def PySem.W.Fast.tw15851848157109608277 : Nat := 0
def PySem.W.Fast.tw1571856556526837208 : Nat := 0
def PySem.W.Fast.tw13211690024197876419 : Nat := 0
def PySem.W.Fast.tw11551002164754133974 : Nat := 0
def PySem.W.Fast.tw6106683944065381318 : Nat := 0
def PySem.W.Fast.tw4320778575268281064 : Nat := 0
def PySem.W.Fast.tw270742298403823429 : Nat := 0
def PySem.W.Fast.tw13713670198021080221 : Nat := 0
def PySem.W.Fast.tw16136720597535042317 : Nat := 0
def PySem.W.Fast.tw2497302195862831826 : Nat := 0
def PySem.W.Fast.tw4282912692543963607 : Nat := 0
def PySem.W.Fast.tw16804766605425869733 : Nat := 0
def PySem.W.Fast.tw10784865906324118674 : Nat := 0
def PySem.W.Fast.tw6764993239882787620 : Nat := 0
def PySem.W.Fast.tw2837189186437266006 : Nat := 0
def PySem.W.Fast.tw12371514138880818816 : Nat := 0
def PySem.W.Fast.tw72353543334380498 : Nat := 0
def PySem.W.Fast.tw13934778733779212407 : Nat := 0
def PySem.W.Fast.tw2878867329473214882 : Nat := 0
def PySem.W.Fast.tw14726364466655734112 : Nat := 0
def PySem.W.Fast.tw8930922482068144567 : Nat := 0
def PySem.W.Fast.tw14749795608458036465 : Nat := 0
def PySem.W.Fast.tw8812524666363280084 : Nat := 0
def PySem.W.Fast.tw3822757799793772582 : Nat := 0
def PySem.W.Fast.tw4081817948339763542 : Nat := 0
def PySem.W.Fast.tw7593916562646448848 : Nat := 0
def PySem.W.Fast.tw8056996963584320474 : Nat := 0
def PySem.W.Fast.tw10836328030533120022 : Nat := 0
def PySem.W.Fast.tw735655443976410925 : Nat := 0
def PySem.W.Fast.tw2151668227489047465 : Nat := 0
def PySem.W.Fast.tw8265591491351139909 : Nat := 0
def PySem.W.Fast.tw5652078007525539362 : Nat := 0
def PySem.W.Fast.tw17343771723648010410 : Nat := 0
def PySem.W.Fast.tw15603904092392740050 : Nat := 0
def PySem.W.Fast.tw8989453280289778968 : Nat := 0
def PySem.W.Fast.tw3581321741012162504 : Nat := 0
def PySem.W.Fast.tw12256670896683321453 : Nat := 0
def PySem.W.Fast.tw5177883153844300601 : Nat := 0
def PySem.W.Fast.tw2558334270279706043 : Nat := 0
def PySem.W.Fast.tw7336492093181850925 : Nat := 0
def PySem.W.Fast.tw6089302863945542304 : Nat := 0
def PySem.W.Fast.tw7304117071861112056 : Nat := 0
def PySem.W.Fast.tw7302043245517506665 : Nat := 0
def PySem.W.Fast.tw14745797518971447207 : Nat := 0
def PySem.W.Fast.tw8332962007164787809 : Nat := 0
def PySem.W.Fast.tw406144603434992788 : Nat := 0
def PySem.W.Fast.tw9563938709577412836 : Nat := 0
def PySem.W.Fast.tw11066659856302281219 : Nat := 0
def PySem.W.Fast.tw4381881590066652457 : Nat := 0
def PySem.W.Fast.tw18391136809608618167 : Nat := 0
def PySem.W.Fast.tw17263213170581729554 : Nat := 0
def PySem.W.Fast.tw4006927136517585614 : Nat := 0
def PySem.W.Fast.tw14378934926472054395 : Nat := 0
def PySem.W.Fast.tw12175806443817872938 : Nat := 0
def PySem.W.Fast.tw6809024905050128247 : Nat := 0
def PySem.W.Fast.tw15398906737876957606 : Nat := 0
def PySem.W.Fast.tw15076003266245323368 : Nat := 0
def PySem.W.Fast.tw15385208365923920407 : Nat := 0
def PySem.W.Fast.tw15239248010256023590 : Nat := 0
def PySem.W.Fast.tw17970837320564487964 : Nat := 0
def PySem.W.Fast.tw6132457894979753288 : Nat := 0
def PySem.W.Fast.tw11804330077423030246 : Nat := 0
def PySem.W.Fast.tw9217913634457035930 : Nat := 0
def PySem.W.Fast.tw3614098668833945939 : Nat := 0
def PySem.W.Fast.tw232419379221114531 : Nat := 0
def PySem.W.Fast.tw10706953267639519819 : Nat := 0
def PySem.W.Fast.tw4389433161109041816 : Nat := 0
def PySem.W.Fast.tw14783368235357378212 : Nat := 0
def PySem.W.Fast.tw18229503507830304419 : Nat := 0
def PySem.W.Fast.tw868751410315050746 : Nat := 0
def PySem.W.Fast.tw11283847004907884372 : Nat := 0
def PySem.W.Fast.tw16507089569313941286 : Nat := 0
def PySem.W.Fast.tw3629057991861649698 : Nat := 0
def PySem.W.Fast.tw1895068433896204075 : Nat := 0
def PySem.W.Fast.tw15260703981611929455 : Nat := 0
def PySem.W.Fast.tw17981667279795189661 : Nat := 0
def PySem.W.Fast.tw16927362639413381422 : Nat := 0
def PySem.W.Fast.tw17116323374488626509 : Nat := 0
def PySem.W.Fast.tw14153787276388906981 : Nat := 0
def PySem.W.Fast.tw7169638303798852643 : Nat := 0
def PySem.W.Fast.tw11573711962762707240 : Nat := 0
def PySem.W.Fast.tw6435040312800907274 : Nat := 0
def PySem.W.Fast.tw9937809249517767990 : Nat := 0
def PySem.W.Fast.tw11173820924702076138 : Nat := 0
def PySem.W.Fast.tw10247589377045388931 : Nat := 0
def PySem.W.Fast.tw1905825242644388345 : Nat := 0
def PySem.W.Fast.tw10125036742677019965 : Nat := 0
def PySem.W.Fast.tw12259570324894177879 : Nat := 0
def PySem.W.Fast.tw10392084853174302446 : Nat := 0
def PySem.W.Fast.tw10241174538241799366 : Nat := 0
def PySem.W.Fast.tw6144335320515623508 : Nat := 0
def PySem.W.Fast.tw7187805548258451670 : Nat := 0
def PySem.W.Fast.tw15245865778375602857 : Nat := 0
def PySem.W.Fast.tw5568167184613777020 : Nat := 0
def PySem.W.Fast.tw3170461645513900778 : Nat := 0
def PySem.W.Fast.tw6276647433434930364 : Nat := 0
def PySem.W.Fast.tw8200555226702025303 : Nat := 0
def PySem.W.Fast.tw16299557058779153101 : Nat := 0
def PySem.W.Fast.tw4003478902326836430 : Nat := 0
def PySem.W.Fast.tw9707741018039985348 : Nat := 0
def PySem.W.Fast.tw5433030438118286538 : Nat := 0
def PySem.W.Fast.tw15912603725385074749 : Nat := 0
def PySem.W.Fast.tw9108701982309519170 : Nat := 0
def PySem.W.Fast.tw12897277448876717888 : Nat := 0
def PySem.W.Fast.tw997552272285768635 : Nat := 0
def PySem.W.Fast.tw10021551356584634985 : Nat := 0
def PySem.W.Fast.tw2656396697292583051 : Nat := 0
def PySem.W.Fast.tw5185240561392863544 : Nat := 0
def PySem.W.Fast.tw17296404403469250262 : Nat := 0
def PySem.W.Fast.tw14559939195145603902 : Nat := 0
def PySem.W.Fast.tw4400106271662827710 : Nat := 0
def PySem.W.Fast.tw16856292517095866121 : Nat := 0
def PySem.W.Fast.tw2320605358719630424 : Nat := 0
def PySem.W.Fast.tw1112826449236931896 : Nat := 0
def PySem.W.Fast.tw8252630575542255166 : Nat := 0
def PySem.W.Fast.tw1448231204538304112 : Nat := 0
def PySem.W.Fast.tw9411264563274013361 : Nat := 0
def PySem.W.Fast.tw15527716699750153007 : Nat := 0
def PySem.W.Fast.tw2491310754185356836 : Nat := 0
def PySem.W.Fast.tw5169970085186771747 : Nat := 0
def PySem.W.Fast.tw5816150815490336990 : Nat := 0
def PySem.W.Fast.tw4345252079255173395 : Nat := 0
def PySem.W.Fast.tw748125205050162664 : Nat := 0
def PySem.W.Fast.tw1752228701912744875 : Nat := 0
def PySem.W.Fast.tw1174660309968599947 : Nat := 0
def PySem.W.Fast.tw16197590696652137174 : Nat := 0
def PySem.W.Fast.tw14291948244072476788 : Nat := 0
def PySem.W.Fast.tw7605074873498579429 : Nat := 0
def PySem.W.Fast.tw15335918372915896825 : Nat := 0
def PySem.W.Fast.tw8696911465560989779 : Nat := 0
def PySem.W.Fast.tw6320004616907868464 : Nat := 0
def PySem.W.Fast.tw12281631001763287311 : Nat := 0
def PySem.W.Fast.tw17433356876195464925 : Nat := 0
def PySem.W.Fast.tw8844624381890144567 : Nat := 0
def PySem.W.Fast.tw14760506702745590452 : Nat := 0
def PySem.W.Fast.tw9629385349361635390 : Nat := 0
def PySem.W.Fast.tw14505064435536801234 : Nat := 0
def PySem.W.Fast.tw7169276272247840037 : Nat := 0
def PySem.W.Fast.tw17378843916159611122 : Nat := 0
def PySem.W.Fast.tw16772329328827840732 : Nat := 0
def PySem.W.Fast.tw16641070584008139812 : Nat := 0
def PySem.W.Fast.tw16721366978869287177 : Nat := 0
def PySem.W.Fast.tw1615809534360507583 : Nat := 0
def PySem.W.Fast.tw9167598596130134518 : Nat := 0
def PySem.W.Fast.tw266236109941993504 : Nat := 0
def PySem.W.Fast.tw6921948016829581282 : Nat := 0
def PySem.W.Fast.tw1319733924987203678 : Nat := 0
def PySem.W.Fast.tw10398655443898610985 : Nat := 0
def PySem.W.Fast.tw5973447543847064562 : Nat := 0
def PySem.W.Fast.tw11821728975366512059 : Nat := 0
def PySem.W.Fast.tw14538664497181102008 : Nat := 0
def PySem.W.Fast.tw695191699292349702 : Nat := 0
def PySem.W.Fast.tw9995479166860358672 : Nat := 0
def PySem.W.Fast.tw17925959308595519336 : Nat := 0
def PySem.W.Fast.tw2657348913549111175 : Nat := 0
def PySem.W.Fast.tw13173668158114446213 : Nat := 0
def PySem.W.Fast.tw13230594067572052675 : Nat := 0
def PySem.W.Fast.tw6395900506617086749 : Nat := 0
def PySem.W.Fast.tw7984456264672057609 : Nat := 0
def PySem.W.Fast.tw12598651960931057931 : Nat := 0
def PySem.W.Fast.tw10598250027266236393 : Nat := 0
def PySem.W.Fast.tw16476977641795315233 : Nat := 0
def PySem.W.Fast.tw2852297043541122313 : Nat := 0
def PySem.W.Fast.tw1421645647684816044 : Nat := 0
def PySem.W.Fast.tw12479697228662740194 : Nat := 0
def PySem.W.Fast.tw17533050728390070627 : Nat := 0
def PySem.W.Fast.tw18189309251462436555 : Nat := 0
def PySem.W.Fast.tw8851953194095643111 : Nat := 0
def PySem.W.Fast.tw14199575287833429450 : Nat := 0
def PySem.W.Fast.tw16643948285913294800 : Nat := 0
def PySem.W.Fast.tw1450891700165868975 : Nat := 0
def PySem.W.Fast.tw15800721900108571194 : Nat := 0
def PySem.W.Fast.tw14671556022077984938 : Nat := 0
def PySem.W.Fast.tw16687945841509470607 : Nat := 0
def PySem.W.Fast.tw13686109384384581202 : Nat := 0
def PySem.W.Fast.tw1013720108834519878 : Nat := 0
def PySem.W.Fast.tw3483230100940062772 : Nat := 0
def PySem.W.Fast.tw1669114812397663565 : Nat := 0
def PySem.W.Fast.tw9088059503131507682 : Nat := 0
def PySem.W.Fast.tw1744927597793539147 : Nat := 0
def PySem.W.Fast.tw6550755714716502592 : Nat := 0
def PySem.W.Fast.tw15079517466605693414 : Nat := 0
def PySem.W.Fast.tw4680927973273847653 : Nat := 0
def PySem.W.Fast.tw8959027460756999202 : Nat := 0
def PySem.W.Fast.tw17342381599903645516 : Nat := 0
def PySem.W.Fast.tw7502043260916418778 : Nat := 0
def PySem.W.Fast.tw8619012469020860220 : Nat := 0
def PySem.W.Fast.tw16248094414008071968 : Nat := 0
def PySem.W.Fast.tw9624790891550142342 : Nat := 0
def PySem.W.Fast.tw11485864010385403755 : Nat := 0
def PySem.W.Fast.tw5134861647535681301 : Nat := 0
def PySem.W.Fast.tw3790760847539428300 : Nat := 0
def PySem.W.Fast.tw8248586603754695690 : Nat := 0
def PySem.W.Fast.tw14571215572822909797 : Nat := 0
def PySem.W.Fast.tw18414995801472441780 : Nat := 0
def PySem.W.Fast.tw5964833287219737278 : Nat := 0
def PySem.W.Fast.tw7215546909027863569 : Nat := 0
def PySem.W.Fast.tw7578622469643580353 : Nat := 0
def PySem.W.Fast.tw4854204913783608179 : Nat := 0
def PySem.W.Fast.tw11544886605667297885 : Nat := 0
def PySem.W.Fast.tw15099082523525177446 : Nat := 0
def PySem.W.Fast.tw6941969794997618014 : Nat := 0
def PySem.W.Fast.tw5548718435986537848 : Nat := 0
def PySem.W.Fast.tw5146854160714398815 : Nat := 0
def PySem.W.Fast.tw16578540895033954789 : Nat := 0
def PySem.W.Fast.tw17609998254176623618 : Nat := 0
def PySem.W.Fast.tw12952834233126359509 : Nat := 0
def PySem.W.Fast.tw16156519400649509663 : Nat := 0
def PySem.W.Fast.tw2067107299383312686 : Nat := 0
def PySem.W.Fast.tw10196089666585504346 : Nat := 0
def PySem.W.Fast.tw7060601757463241488 : Nat := 0
def PySem.W.Fast.tw14966785403951764474 : Nat := 0
def PySem.W.Fast.tw14257754622304496148 : Nat := 0
def PySem.W.Fast.tw15592584213225141566 : Nat := 0
def PySem.W.Fast.tw14333120685697326665 : Nat := 0
def PySem.W.Fast.tw7466667337468398401 : Nat := 0
def PySem.W.Fast.tw18414263360504865370 : Nat := 0
def PySem.W.Fast.tw7988170016480919340 : Nat := 0
def PySem.W.Fast.tw7651021624566567931 : Nat := 0
def PySem.W.Fast.tw17325567948697144919 : Nat := 0
def PySem.W.Fast.tw11296943000001752500 : Nat := 0
def PySem.W.Fast.tw6617736529422275203 : Nat := 0
def PySem.W.Fast.tw8871088321986829927 : Nat := 0
def PySem.W.Fast.tw5993294154050250055 : Nat := 0
def PySem.W.Fast.tw1532352320967374338 : Nat := 0
def PySem.W.Fast.tw11580858461116855799 : Nat := 0
def PySem.W.Fast.tw14887684663763452512 : Nat := 0
def PySem.W.Fast.tw13596752150112716162 : Nat := 0
def PySem.W.Fast.tw4353423356130232940 : Nat := 0
def PySem.W.Fast.tw693892213309615428 : Nat := 0
def PySem.W.Fast.tw11620542112238609909 : Nat := 0
def PySem.W.Fast.tw9900160575596890316 : Nat := 0
def PySem.W.Fast.tw4057822243313543087 : Nat := 0
def PySem.W.Fast.tw7309070950137039459 : Nat := 0
def PySem.W.Fast.tw1602695496864554849 : Nat := 0
def PySem.W.Fast.tw7779014555034596804 : Nat := 0
def PySem.W.Fast.tw9790003875422847428 : Nat := 0
def PySem.W.Fast.tw15445612686116354944 : Nat := 0
def PySem.W.Fast.tw4467455194842557585 : Nat := 0
def PySem.W.Fast.tw17653565109106636646 : Nat := 0
def PySem.W.Fast.tw7305670999293860047 : Nat := 0
def PySem.W.Fast.tw254591019531665062 : Nat := 0
def PySem.W.Fast.tw3364060177920239883 : Nat := 0
def PySem.W.Fast.tw12918518949174286182 : Nat := 0
def PySem.W.Fast.tw3567508382909884857 : Nat := 0
def PySem.W.Fast.tw12778907280681915797 : Nat := 0
def PySem.W.Fast.tw10602215234490285875 : Nat := 0
def PySem.W.Fast.tw882349611399107114 : Nat := 0
def PySem.W.Fast.tw11572670736607644419 : Nat := 0
def PySem.W.Fast.tw2783626866468244752 : Nat := 0
def PySem.W.Fast.tw2314136640801211809 : Nat := 0
def PySem.W.Fast.tw5642341604582373807 : Nat := 0
def PySem.W.Fast.tw11016356080849623030 : Nat := 0
def PySem.W.Fast.tw8776268226551774046 : Nat := 0
def PySem.W.Fast.tw9781894960837801044 : Nat := 0
def PySem.W.Fast.tw4535629068037737632 : Nat := 0
def PySem.W.Fast.tw12501096093788654775 : Nat := 0
def PySem.W.Fast.tw13844202985039688013 : Nat := 0
def PySem.W.Fast.tw12657201621532123730 : Nat := 0
def PySem.W.Fast.tw190030085996322160 : Nat := 0
def PySem.W.Fast.tw5556307808649498651 : Nat := 0
def PySem.W.Fast.tw8608861919686455864 : Nat := 0
def PySem.W.Fast.tw9126253504386731855 : Nat := 0
def PySem.W.Fast.tw15652532854270150044 : Nat := 0
def PySem.W.Fast.tw16580826122624945155 : Nat := 0
def PySem.W.Fast.tw3361383963222931171 : Nat := 0
def PySem.W.Fast.tw2091357557517723766 : Nat := 0
def PySem.W.Fast.tw7369681168682745720 : Nat := 0
def PySem.W.Fast.tw12774682307303723386 : Nat := 0
def PySem.W.Fast.tw12736925794168047614 : Nat := 0
def PySem.W.Fast.tw8815064513472589414 : Nat := 0
def PySem.W.Fast.tw16038932471390800144 : Nat := 0
def PySem.W.Fast.tw13387882918549326212 : Nat := 0
def PySem.W.Fast.tw15917382059806740220 : Nat := 0
def PySem.W.Fast.tw2127956230117563678 : Nat := 0
def PySem.W.Fast.tw3153005708221527267 : Nat := 0
def PySem.W.Fast.tw10878450727418119437 : Nat := 0
def PySem.W.Fast.tw6903862628482808883 : Nat := 0
def PySem.W.Fast.tw2095813968010077756 : Nat := 0
def PySem.W.Fast.tw9097719487785143158 : Nat := 0
def PySem.W.Fast.tw7187059758256171539 : Nat := 0
def PySem.W.Fast.tw4121269209739422042 : Nat := 0
def PySem.W.Fast.tw17460955235852212409 : Nat := 0
def PySem.W.Fast.tw2355812308671861857 : Nat := 0
def PySem.W.Fast.tw15850358722680262914 : Nat := 0
def PySem.W.Fast.tw17141830990264861532 : Nat := 0
def PySem.W.Fast.tw5189211341049551878 : Nat := 0
def PySem.W.Fast.tw6351801802027392928 : Nat := 0
def PySem.W.Fast.tw5366238745626787038 : Nat := 0
def PySem.W.Fast.tw8944106247961537492 : Nat := 0
def PySem.W.Fast.tw6993555018723270078 : Nat := 0
def PySem.W.Fast.tw16397855302156316323 : Nat := 0
def PySem.W.Fast.tw13973391269037205718 : Nat := 0
def PySem.W.Fast.tw13278895711160241601 : Nat := 0
def PySem.W.Fast.tw9013793106624548852 : Nat := 0
def PySem.W.Fast.tw10223906598405527235 : Nat := 0
def PySem.W.Fast.tw12328886983626422377 : Nat := 0
def PySem.W.Fast.tw5494124845149700187 : Nat := 0
def PySem.W.Fast.tw17345269879902335883 : Nat := 0
def PySem.W.Fast.tw4723006637952256116 : Nat := 0
def PySem.W.Fast.tw3406142804763443762 : Nat := 0
def PySem.W.Fast.tw1568106603593125259 : Nat := 0
def PySem.W.Fast.tw7773762179239385061 : Nat := 0
def PySem.W.Fast.tw11942337853550996700 : Nat := 0
def PySem.W.Fast.tw8204389073908098964 : Nat := 0
def PySem.W.Fast.tw6043556402010945095 : Nat := 0
def PySem.W.Fast.tw2244426899670919563 : Nat := 0
def PySem.W.Fast.tw15418379577453419925 : Nat := 0
def PySem.W.Fast.tw17620112768998142751 : Nat := 0
def PySem.W.Fast.tw1647611970019497495 : Nat := 0
def PySem.W.Fast.tw11337098478292855402 : Nat := 0
def PySem.W.Fast.tw9663137328487202846 : Nat := 0
def PySem.W.Fast.tw14198478801235110349 : Nat := 0
def PySem.W.Fast.tw10881492229034681785 : Nat := 0
def PySem.W.Fast.tw10124365661782152243 : Nat := 0
def PySem.W.Fast.tw7997918295182185744 : Nat := 0
def PySem.W.Fast.tw1009397496044537312 : Nat := 0
def PySem.W.Fast.tw9529615500942603602 : Nat := 0
def PySem.W.Fast.tw13059106482811051828 : Nat := 0
def PySem.W.Fast.tw4047135509619438310 : Nat := 0
def PySem.W.Fast.tw16042441461698337789 : Nat := 0
def PySem.W.Fast.tw9170684841330206146 : Nat := 0
def PySem.W.Fast.tw10084631055518453789 : Nat := 0
def PySem.W.Fast.tw1406639623815687216 : Nat := 0
def PySem.W.Fast.tw2384930048634945449 : Nat := 0
def PySem.W.Fast.tw7793972463989861390 : Nat := 0
def PySem.W.Fast.tw16367174890396147269 : Nat := 0
def PySem.W.Fast.tw7854279899606988336 : Nat := 0
def PySem.W.Fast.tw7936853821391132540 : Nat := 0
def PySem.W.Fast.tw3581158840779439452 : Nat := 0
def PySem.W.Fast.tw9572333589476650400 : Nat := 0
def PySem.W.Fast.tw8994612258876381817 : Nat := 0
def PySem.W.Fast.tw10721466884632127295 : Nat := 0
def PySem.W.Fast.tw5231554399197413772 : Nat := 0
def PySem.W.Fast.tw147818475006139946 : Nat := 0
def PySem.W.Fast.tw16034571199389813301 : Nat := 0
def PySem.W.Fast.tw1167127170421234330 : Nat := 0
def PySem.W.Fast.tw15343374518095535151 : Nat := 0
def PySem.W.Fast.tw16924871931150955757 : Nat := 0
def PySem.W.Fast.tw2352305758149700062 : Nat := 0
def PySem.W.Fast.tw15049706121151547507 : Nat := 0
def PySem.W.Fast.tw2672704382029446756 : Nat := 0
def PySem.W.Fast.tw17269015837380503663 : Nat := 0
def PySem.W.Fast.tw7815041732640401353 : Nat := 0
def PySem.W.Fast.tw15194379109918536197 : Nat := 0
def PySem.W.Fast.tw4899188970262314084 : Nat := 0
def PySem.W.Fast.tw3205232822136793720 : Nat := 0
def PySem.W.Fast.tw11090174964413566365 : Nat := 0
def PySem.W.Fast.tw10815255219299459275 : Nat := 0
def PySem.W.Fast.tw2000765682225197777 : Nat := 0
def PySem.W.Fast.tw12814161680056961361 : Nat := 0
def PySem.W.Fast.tw15407088008234960075 : Nat := 0
def PySem.W.Fast.tw5349576592890099323 : Nat := 0
def PySem.W.Fast.tw2505218903975665049 : Nat := 0
def PySem.W.Fast.tw14675483524807569497 : Nat := 0
def PySem.W.Fast.tw13309535616521433958 : Nat := 0
def PySem.W.Fast.tw11912514565543579045 : Nat := 0
def PySem.W.Fast.tw3451348417157663948 : Nat := 0
def PySem.W.Fast.tw6258228978954440751 : Nat := 0
def PySem.W.Fast.tw17822282967284040412 : Nat := 0
def PySem.W.Fast.tw9149661663833966130 : Nat := 0
def PySem.W.Fast.tw14676708441842525758 : Nat := 0
def PySem.W.Fast.tw8854780586337801831 : Nat := 0
def PySem.W.Fast.tw15702992464737522798 : Nat := 0
def PySem.W.Fast.tw7909351084035403772 : Nat := 0
def PySem.W.Fast.tw7103949069632632798 : Nat := 0
def PySem.W.Fast.tw16078829744362945466 : Nat := 0
def PySem.W.Fast.tw3939284806149793998 : Nat := 0
def PySem.W.Fast.tw10425625850208386227 : Nat := 0
def PySem.W.Fast.tw10005088222862478155 : Nat := 0
def PySem.W.Fast.tw178821738014481866 : Nat := 0
def PySem.W.Fast.tw10580921904961178493 : Nat := 0
def PySem.W.Fast.tw3895360864665644907 : Nat := 0
def PySem.W.Fast.tw5525026848623054377 : Nat := 0
def PySem.W.Fast.tw5416511231641302441 : Nat := 0
def PySem.W.Fast.tw5008496148489400546 : Nat := 0
def PySem.W.Fast.tw1657195056139993297 : Nat := 0
def PySem.W.Fast.tw11058454473979999263 : Nat := 0
def PySem.W.Fast.tw15429752040877969761 : Nat := 0
def PySem.W.Fast.tw209335813163530265 : Nat := 0
def PySem.W.Fast.tw2548809630590213022 : Nat := 0
def PySem.W.Fast.tw11896937699437629350 : Nat := 0
def PySem.W.Fast.tw16502074591274310688 : Nat := 0
def PySem.W.Fast.tw16080713921186244408 : Nat := 0
def PySem.W.Fast.tw18306621293501534579 : Nat := 0
def PySem.W.Fast.tw7224982238896821282 : Nat := 0
def PySem.W.Fast.tw4287573560751443429 : Nat := 0
def PySem.W.Fast.tw15412528765543871054 : Nat := 0
def PySem.W.Fast.tw9297201280666655830 : Nat := 0
def PySem.W.Fast.tw8038857944795964948 : Nat := 0
def PySem.W.Fast.tw4858985568150194556 : Nat := 0
def PySem.W.Fast.tw6644484887796845579 : Nat := 0
def PySem.W.Fast.tw3483561310914031224 : Nat := 0
def PySem.W.Fast.tw14475092377557571130 : Nat := 0
def PySem.W.Fast.tw6796699400074334884 : Nat := 0
def PySem.W.Fast.tw17871630492450565357 : Nat := 0
def PySem.W.Fast.tw7255376660494763003 : Nat := 0
def PySem.W.Fast.tw3258296569713377393 : Nat := 0
def PySem.W.Fast.tw12985192504282805023 : Nat := 0
def PySem.W.Fast.tw9323539416461159850 : Nat := 0
def PySem.W.Fast.tw397263949011053766 : Nat := 0
def PySem.W.Fast.tw16571425763873329242 : Nat := 0
def PySem.W.Fast.tw17810720560096164802 : Nat := 0
def PySem.W.Fast.tw16960093464033170813 : Nat := 0
def PySem.W.Fast.tw6488803402341717214 : Nat := 0
def PySem.W.Fast.tw3802519126883730475 : Nat := 0
def PySem.W.Fast.tw2496121426248068693 : Nat := 0
def PySem.W.Fast.tw6629141187924627003 : Nat := 0
def PySem.W.Fast.tw6296213018315249120 : Nat := 0
def PySem.W.Fast.tw18377513213721629375 : Nat := 0
def PySem.W.Fast.tw5342162497188524543 : Nat := 0
def PySem.W.Fast.tw5476117984375580687 : Nat := 0
def PySem.W.Fast.tw9807488495291657998 : Nat := 0
def PySem.W.Fast.tw15821626173726032642 : Nat := 0
def PySem.W.Fast.tw13418961195659240489 : Nat := 0
def PySem.W.Fast.tw12380447065676961183 : Nat := 0
def PySem.W.Fast.tw16290652933765923596 : Nat := 0
def PySem.W.Fast.tw7055060744678758978 : Nat := 0
def PySem.W.Fast.tw6385782642859017783 : Nat := 0
def PySem.W.Fast.tw5967996979711126182 : Nat := 0
def PySem.W.Fast.tw9297001757976065929 : Nat := 0
def PySem.W.Fast.tw16379195108901550109 : Nat := 0
def PySem.W.Fast.tw5573563925600526267 : Nat := 0
def PySem.W.Fast.tw5506509557674208468 : Nat := 0
def PySem.W.Fast.tw14094153085189079648 : Nat := 0
def PySem.W.Fast.tw14789492343428454348 : Nat := 0
def PySem.W.Fast.tw5737054590181843950 : Nat := 0
def PySem.W.Fast.tw1893622693725851237 : Nat := 0
def PySem.W.Fast.tw13446768297702726122 : Nat := 0
def PySem.W.Fast.tw5799207694297851076 : Nat := 0
def PySem.W.Fast.tw13447859790282554479 : Nat := 0
def PySem.W.Fast.tw8559148855670088219 : Nat := 0
def PySem.W.Fast.tw2147968001791519791 : Nat := 0
def PySem.W.Fast.tw11079053624811296850 : Nat := 0
def PySem.W.Fast.tw12356574576366600523 : Nat := 0
def PySem.W.Fast.tw5406399011128483790 : Nat := 0
def PySem.W.Fast.tw550987483143287874 : Nat := 0
def PySem.W.Fast.tw9065276257471943232 : Nat := 0
def PySem.W.Fast.tw8933353449729546679 : Nat := 0
def PySem.W.Fast.tw524226242707520040 : Nat := 0
def PySem.W.Fast.tw3741391702659091638 : Nat := 0
def PySem.W.Fast.tw10783113967138563499 : Nat := 0
def PySem.W.Fast.tw12666400954498685684 : Nat := 0
def PySem.W.Fast.tw5074946529965317087 : Nat := 0
def PySem.W.Fast.tw17747302261704980034 : Nat := 0
def PySem.W.Fast.tw4395437392204274613 : Nat := 0
def PySem.W.Fast.tw5179322567468727891 : Nat := 0
def PySem.W.Fast.tw17893487353379244444 : Nat := 0
def PySem.W.Fast.tw13737794019419088862 : Nat := 0
def PySem.W.Fast.tw11459326798739494144 : Nat := 0
def PySem.W.Fast.tw16810470530630223140 : Nat := 0
def PySem.W.Fast.tw12612456504267639446 : Nat := 0
def PySem.W.Fast.tw3825844105977215670 : Nat := 0
def PySem.W.Fast.tw11450855071169322356 : Nat := 0
def PySem.W.Fast.tw3103766408289372056 : Nat := 0
def PySem.W.Fast.tw9367805050519492035 : Nat := 0
def PySem.W.Fast.tw2365572428826681330 : Nat := 0
def PySem.W.Fast.tw8694651918772737383 : Nat := 0
def PySem.W.Fast.tw13025407053224831870 : Nat := 0
def PySem.W.Fast.tw3360470921571827908 : Nat := 0
def PySem.W.Fast.tw13107021900931479011 : Nat := 0
def PySem.W.Fast.tw11057553289384229602 : Nat := 0
def PySem.W.Fast.tw18424981603269101645 : Nat := 0
def PySem.W.Fast.tw15175819664176995545 : Nat := 0
def PySem.W.Fast.tw13416742198090382548 : Nat := 0
def PySem.W.Fast.tw12080281667226768355 : Nat := 0
def PySem.W.Fast.tw2446804224091955392 : Nat := 0
def PySem.W.Fast.tw3238918112429268944 : Nat := 0
def PySem.W.Fast.tw4943244531681569098 : Nat := 0
def PySem.W.Fast.tw10774468101791052269 : Nat := 0
def PySem.W.Fast.tw15111524474161241280 : Nat := 0
def PySem.W.Fast.tw16385969566571556001 : Nat := 0
def PySem.W.Fast.tw16411187743711258586 : Nat := 0
def PySem.W.Fast.tw15459945350753942152 : Nat := 0
def PySem.W.Fast.tw3857705671134093377 : Nat := 0
def PySem.W.Fast.tw8098947311107614772 : Nat := 0
def PySem.W.Fast.tw11811214243970558122 : Nat := 0
def PySem.W.Fast.tw13825758903478582720 : Nat := 0
def PySem.W.Fast.tw3147292891626630673 : Nat := 0
def PySem.W.Fast.tw15789727139067416685 : Nat := 0
def PySem.W.Fast.tw3377672594000802171 : Nat := 0
def PySem.W.Fast.tw4080276195220087306 : Nat := 0
def PySem.W.Fast.tw13430043932842572678 : Nat := 0
def PySem.W.Fast.tw2813539699877996972 : Nat := 0
def PySem.W.Fast.tw13669913185330583772 : Nat := 0
def PySem.W.Fast.tw2403021126789128587 : Nat := 0
def PySem.W.Fast.tw1645910629832623850 : Nat := 0
def PySem.W.Fast.tw13557080233330905281 : Nat := 0
def PySem.W.Fast.tw1755596595122842627 : Nat := 0
def PySem.W.Fast.tw3191510568661702060 : Nat := 0
def PySem.W.Fast.tw2673145082467317088 : Nat := 0
def PySem.W.Fast.tw5075728711345634111 : Nat := 0
def PySem.W.Fast.tw4054678214500531942 : Nat := 0
def PySem.W.Fast.tw14178451868076078974 : Nat := 0
def PySem.W.Fast.tw300924655676362469 : Nat := 0
def PySem.W.Fast.tw12288875381390621686 : Nat := 0
def PySem.W.Fast.tw5448533847594814726 : Nat := 0
def PySem.W.Fast.tw1457531532409267050 : Nat := 0
def PySem.W.Fast.tw8351920033933442115 : Nat := 0
def PySem.W.Fast.tw15382651478591244137 : Nat := 0
def PySem.W.Fast.tw9921870079667982011 : Nat := 0
def PySem.W.Fast.tw3952197036748373323 : Nat := 0
def PySem.W.Fast.tw13898637476464941340 : Nat := 0
def PySem.W.Fast.tw417565225013967942 : Nat := 0
def PySem.W.Fast.tw2581622358946678851 : Nat := 0
def PySem.W.Fast.tw12761656197609905026 : Nat := 0
def PySem.W.Fast.tw3190464217766424289 : Nat := 0
def PySem.W.Fast.tw12394550251224186576 : Nat := 0
def PySem.W.Fast.tw10794468372012852946 : Nat := 0
def PySem.W.Fast.tw9678195832395424404 : Nat := 0
def PySem.W.Fast.tw15279341207587728792 : Nat := 0
def PySem.W.Fast.tw12629867975364684732 : Nat := 0
def PySem.W.Fast.tw5725461480697555433 : Nat := 0
def PySem.W.Fast.tw6693434353781426438 : Nat := 0
def PySem.W.Fast.tw4877004830652830029 : Nat := 0
def PySem.W.Fast.tw3201762465035362670 : Nat := 0
def PySem.W.Fast.tw955746187727689815 : Nat := 0
def PySem.W.Fast.tw11943848211317475522 : Nat := 0
def PySem.W.Fast.tw446601624321464021 : Nat := 0
def PySem.W.Fast.tw1565869161503322504 : Nat := 0
def PySem.W.Fast.tw3721996645216687219 : Nat := 0
def PySem.W.Fast.tw4750561153163997000 : Nat := 0
def PySem.W.Fast.tw14440828405316447341 : Nat := 0
def PySem.W.Fast.tw3952989260331540179 : Nat := 0
def PySem.W.Fast.tw15474189843324591701 : Nat := 0
def PySem.W.Fast.tw4874751831070920781 : Nat := 0
def PySem.W.Fast.tw6557546952227387859 : Nat := 0
def PySem.W.Fast.tw13082445565953984807 : Nat := 0
def PySem.W.Fast.tw15661764128729920075 : Nat := 0
def PySem.W.Fast.tw9125363912281805070 : Nat := 0
def PySem.W.Fast.tw13616655646685396425 : Nat := 0
def PySem.W.Fast.tw4112638822779855795 : Nat := 0
def PySem.W.Fast.tw5608571022221844763 : Nat := 0
def PySem.W.Fast.tw4679663129976763940 : Nat := 0
def PySem.W.Fast.tw8065456466621938078 : Nat := 0
def PySem.W.Fast.tw6208700305729249390 : Nat := 0
def PySem.W.Fast.tw9551395651488470617 : Nat := 0
def PySem.W.Fast.tw2399250415010519524 : Nat := 0
def PySem.W.Fast.tw4968325172664764437 : Nat := 0
def PySem.W.Fast.tw14440795443272260586 : Nat := 0
def PySem.W.Fast.tw217454446266208543 : Nat := 0
def PySem.W.Fast.tw18407594558571646570 : Nat := 0
def PySem.W.Fast.tw1346749223065269572 : Nat := 0
def PySem.W.Fast.tw3234171005178962922 : Nat := 0
def PySem.W.Fast.tw6276061582644805171 : Nat := 0
def PySem.W.Fast.tw18424364977333951895 : Nat := 0
def PySem.W.Fast.tw10277368555096548375 : Nat := 0
def PySem.W.Fast.tw17390362974709669582 : Nat := 0
def PySem.W.Fast.tw1158800072853636554 : Nat := 0
def PySem.W.Fast.tw16343468843632687395 : Nat := 0
def PySem.W.Fast.tw5641648807309434084 : Nat := 0
def PySem.W.Fast.tw1013586180368585489 : Nat := 0
def PySem.W.Fast.tw5633662535229139337 : Nat := 0
def PySem.W.Fast.tw1869751530823899235 : Nat := 0
def PySem.W.Fast.tw10933952567472109976 : Nat := 0
def PySem.W.Fast.tw3255445681608029033 : Nat := 0
def PySem.W.Fast.tw15209041867840465530 : Nat := 0
def PySem.W.Fast.tw2500745847373194233 : Nat := 0
def PySem.W.Fast.tw2195224316522065866 : Nat := 0
def PySem.W.Fast.tw13932123832165974653 : Nat := 0
def PySem.W.Fast.tw13083436303269683762 : Nat := 0
def PySem.W.Fast.tw5643347470597888600 : Nat := 0
def PySem.W.Fast.tw14266423017800439465 : Nat := 0
def PySem.W.Fast.tw14061442869221196525 : Nat := 0
def PySem.W.Fast.tw15509246878211658519 : Nat := 0
def PySem.W.Fast.tw9866882001819227504 : Nat := 0
def PySem.W.Fast.tw1913337523358440578 : Nat := 0
def PySem.W.Fast.tw13036577071318912409 : Nat := 0
def PySem.W.Fast.tw5130407597100889763 : Nat := 0
def PySem.W.Fast.tw1778384146211951317 : Nat := 0
def PySem.W.Fast.tw6430976676604879484 : Nat := 0
def PySem.W.Fast.tw16984171061433027604 : Nat := 0
def PySem.W.Fast.tw10019206489106795831 : Nat := 0
def PySem.W.Fast.tw13368487039997703602 : Nat := 0
def PySem.W.Fast.tw12491597078132111860 : Nat := 0
def PySem.W.Fast.tw11897073344528665009 : Nat := 0
def PySem.W.Fast.tw4044945844456737526 : Nat := 0
def PySem.W.Fast.tw1112748118237128589 : Nat := 0
def PySem.W.Fast.tw11610120755777927669 : Nat := 0
def PySem.W.Fast.tw14228399600184226683 : Nat := 0
def PySem.W.Fast.tw16405098996315224085 : Nat := 0
def PySem.W.Fast.tw15641298305633069386 : Nat := 0
def PySem.W.Fast.tw13824624002245674088 : Nat := 0
def PySem.W.Fast.tw2159177608312939883 : Nat := 0
def PySem.W.Fast.tw9185320426027239704 : Nat := 0
def PySem.W.Fast.tw6700984609118603330 : Nat := 0
def PySem.W.Fast.tw16037394584747865739 : Nat := 0
def PySem.W.Fast.tw10204016447326968615 : Nat := 0
def PySem.W.Fast.tw5943213886308374663 : Nat := 0
def PySem.W.Fast.tw13728158750173957207 : Nat := 0
def PySem.W.Fast.tw5469207600532982491 : Nat := 0
def PySem.W.Fast.tw12620398615596133733 : Nat := 0
def PySem.W.Fast.tw8854618235663478181 : Nat := 0
def PySem.W.Fast.tw17845301950668270637 : Nat := 0
def PySem.W.Fast.tw2201253921289182191 : Nat := 0
def PySem.W.Fast.tw10813898341653485600 : Nat := 0
def PySem.W.Fast.tw12251041126012429457 : Nat := 0
def PySem.W.Fast.tw7552144675721230607 : Nat := 0
def PySem.W.Fast.tw15487108119889216566 : Nat := 0
def PySem.W.Fast.tw18015335188937203706 : Nat := 0
def PySem.W.Fast.tw12440125897471572151 : Nat := 0
def PySem.W.Fast.tw15138605914402652470 : Nat := 0
def PySem.W.Fast.tw9921358376638821448 : Nat := 0
def PySem.W.Fast.tw1134498510394780270 : Nat := 0
def PySem.W.Fast.tw16863648741301300594 : Nat := 0
def PySem.W.Fast.tw14123857379063420877 : Nat := 0
def PySem.W.Fast.tw10011860832430809080 : Nat := 0
def PySem.W.Fast.tw16478235101416783412 : Nat := 0
def PySem.W.Fast.tw12609134105777409913 : Nat := 0
def PySem.W.Fast.tw2281018055463137471 : Nat := 0
def PySem.W.Fast.tw7666508343442098683 : Nat := 0
def PySem.W.Fast.tw14850810593374288424 : Nat := 0
def PySem.W.Fast.tw9839389847158893821 : Nat := 0
def PySem.W.Fast.tw3344940735137152909 : Nat := 0
def PySem.W.Fast.tw9281981964705222198 : Nat := 0
def PySem.W.Fast.tw1002071409092107382 : Nat := 0
def PySem.W.Fast.tw13051472669675159233 : Nat := 0
def PySem.W.Fast.tw3515604612105548387 : Nat := 0
def PySem.W.Fast.tw6248759831192194458 : Nat := 0
def PySem.W.Fast.tw4817116386267876768 : Nat := 0
def PySem.W.Fast.tw9298298570299002210 : Nat := 0
def PySem.W.Fast.tw9737218725068508831 : Nat := 0
def PySem.W.Fast.tw6936467038567281164 : Nat := 0
def PySem.W.Fast.tw3475821796581992176 : Nat := 0
def PySem.W.Fast.tw9362570768585845564 : Nat := 0
def PySem.W.Fast.tw5026107568605376233 : Nat := 0
def PySem.W.Fast.tw9341084252063526887 : Nat := 0
def PySem.W.Fast.tw5881142599523268508 : Nat := 0
def PySem.W.Fast.tw7464721558833150069 : Nat := 0
def PySem.W.Fast.tw2763211704521570964 : Nat := 0
def PySem.W.Fast.tw7450080793581805001 : Nat := 0
def PySem.W.Fast.tw17084533622060829350 : Nat := 0
def PySem.W.Fast.tw4232600917869776138 : Nat := 0
def PySem.W.Fast.tw9530246580807203054 : Nat := 0
def PySem.W.Fast.tw14258436417289208214 : Nat := 0
def PySem.W.Fast.tw3629862856040879242 : Nat := 0
def PySem.W.Fast.tw15077218701722836075 : Nat := 0
def PySem.W.Fast.tw15179852696680540322 : Nat := 0
def PySem.W.Fast.tw16934252600999196429 : Nat := 0
def PySem.W.Fast.tw11951879132870331265 : Nat := 0
def PySem.W.Fast.tw8454495587712908779 : Nat := 0
def PySem.W.Fast.tw8263852317590620410 : Nat := 0
def PySem.W.Fast.tw5772990532853412910 : Nat := 0
def PySem.W.Fast.tw5085170067956847739 : Nat := 0
def PySem.W.Fast.tw8504901675586601887 : Nat := 0
def PySem.W.Fast.tw17372173780677092930 : Nat := 0
def PySem.W.Fast.tw18069685112079454117 : Nat := 0
def PySem.W.Fast.tw13132947464883085745 : Nat := 0
def PySem.W.Fast.tw899875102220188912 : Nat := 0
def PySem.W.Fast.tw14615456963587731087 : Nat := 0
def PySem.W.Fast.tw8688047806143690583 : Nat := 0
def PySem.W.Fast.tw15563402806348477842 : Nat := 0
def PySem.W.Fast.tw9496524132456176569 : Nat := 0
def PySem.W.Fast.tw10177562946472029135 : Nat := 0
def PySem.W.Fast.tw1938925839103816234 : Nat := 0
def PySem.W.Fast.tw16780259913971682484 : Nat := 0
def PySem.W.Fast.tw5936718784451993940 : Nat := 0
def PySem.W.Fast.tw6710171639049646209 : Nat := 0
def PySem.W.Fast.tw12080615256076128319 : Nat := 0
def PySem.W.Fast.tw7175366691133989952 : Nat := 0
def PySem.W.Fast.tw1899677068440746087 : Nat := 0
def PySem.W.Fast.tw12000722297259992104 : Nat := 0
def PySem.W.Fast.tw1571155436825502664 : Nat := 0
def PySem.W.Fast.tw11205176391418410093 : Nat := 0
def PySem.W.Fast.tw6733011038679550203 : Nat := 0
def PySem.W.Fast.tw11202873789556789413 : Nat := 0
def PySem.W.Fast.tw4890736379632572934 : Nat := 0
def PySem.W.Fast.tw7372270083757913774 : Nat := 0
def PySem.W.Fast.tw8622021619950480159 : Nat := 0
def PySem.W.Fast.tw7824707975488123534 : Nat := 0
def PySem.W.Fast.tw10585741163181858191 : Nat := 0
def PySem.W.Fast.tw945578817963876957 : Nat := 0
def PySem.W.Fast.tw6000803665870275752 : Nat := 0
def PySem.W.Fast.tw881388036048515676 : Nat := 0
def PySem.W.Fast.tw8520884198041772077 : Nat := 0
def PySem.W.Fast.tw363609601577010586 : Nat := 0
def PySem.W.Fast.tw366218237200665711 : Nat := 0
def PySem.W.Fast.tw9603866405185268030 : Nat := 0
def PySem.W.Fast.tw8935769782354929007 : Nat := 0
def PySem.W.Fast.tw10140648844011130820 : Nat := 0
def PySem.W.Fast.tw8695000124733246382 : Nat := 0
def PySem.W.Fast.tw16005448930489257252 : Nat := 0
def PySem.W.Fast.tw16146408268168964749 : Nat := 0
def PySem.W.Fast.tw13371025753740902316 : Nat := 0
def PySem.W.Fast.tw5945203040045569178 : Nat := 0
def PySem.W.Fast.tw15445781023786379624 : Nat := 0
def PySem.W.Fast.tw11749205071544113781 : Nat := 0
def PySem.W.Fast.tw3088084229814765553 : Nat := 0
def PySem.W.Fast.tw16707166724726034989 : Nat := 0
def PySem.W.Fast.tw9563706405083644238 : Nat := 0
def PySem.W.Fast.tw4523654557730694826 : Nat := 0
def PySem.W.Fast.tw9681616773183596134 : Nat := 0
def PySem.W.Fast.tw9467761854935579388 : Nat := 0
def PySem.W.Fast.tw11470140395534396927 : Nat := 0
def PySem.W.Fast.tw13399605174783137973 : Nat := 0
def PySem.W.Fast.tw18150778507919416884 : Nat := 0
def PySem.W.Fast.tw17594567991872663479 : Nat := 0
def PySem.W.Fast.tw15743990096224418815 : Nat := 0
def PySem.W.Fast.tw11792634509671752250 : Nat := 0
def PySem.W.Fast.tw10544806859371202237 : Nat := 0
def PySem.W.Fast.tw3436371494530370953 : Nat := 0
def PySem.W.Fast.tw4763367762184673044 : Nat := 0
def PySem.W.Fast.tw44663426084200604 : Nat := 0
def PySem.W.Fast.tw16841684002044708797 : Nat := 0
def PySem.W.Fast.tw10921562605488155229 : Nat := 0
def PySem.W.Fast.tw1718451396897274323 : Nat := 0
def PySem.W.Fast.tw1351618230600679328 : Nat := 0
def PySem.W.Fast.tw17686411142737335351 : Nat := 0
def PySem.W.Fast.tw3407231009665487347 : Nat := 0
def PySem.W.Fast.tw4857057202781189176 : Nat := 0
def PySem.W.Fast.tw3687982273310838633 : Nat := 0
def PySem.W.Fast.tw2721075671960560984 : Nat := 0
def PySem.W.Fast.tw10560832810451753657 : Nat := 0
def PySem.W.Fast.tw13865810588079417102 : Nat := 0
def PySem.W.Fast.tw1704879728806621 : Nat := 0
def PySem.W.Fast.tw10444784455212824466 : Nat := 0
def PySem.W.Fast.tw12202719789769581698 : Nat := 0
def PySem.W.Fast.tw9432387510679524951 : Nat := 0
def PySem.W.Fast.tw5556199027370961661 : Nat := 0
def PySem.W.Fast.tw11472307908061993271 : Nat := 0
def PySem.W.Fast.tw2176394029737567786 : Nat := 0
def PySem.W.Fast.tw1040284852831789897 : Nat := 0
def PySem.W.Fast.tw7775128646727651558 : Nat := 0
def PySem.W.Fast.tw3936012287767262087 : Nat := 0
def PySem.W.Fast.tw16576658637770184178 : Nat := 0
def PySem.W.Fast.tw12083368505739154775 : Nat := 0
def PySem.W.Fast.tw11876707917955011674 : Nat := 0
def PySem.W.Fast.tw8477306834445831992 : Nat := 0
def PySem.W.Fast.tw16817341136412433202 : Nat := 0
def PySem.W.Fast.tw17648525738141934942 : Nat := 0
def PySem.W.Fast.tw11496840327857071262 : Nat := 0
def PySem.W.Fast.tw3141011358130707087 : Nat := 0
def PySem.W.Fast.tw18115577700154708919 : Nat := 0
def PySem.W.Fast.tw6510660095048752769 : Nat := 0
def PySem.W.Fast.tw1176273031413812208 : Nat := 0
def PySem.W.Fast.tw7863355542061413213 : Nat := 0
def PySem.W.Fast.tw14901120577454355073 : Nat := 0
def PySem.W.Fast.tw13430415218969382162 : Nat := 0
def PySem.W.Fast.tw1839413072332390945 : Nat := 0
def PySem.W.Fast.tw7661885624081131315 : Nat := 0
def PySem.W.Fast.tw14202204111612828753 : Nat := 0
def PySem.W.Fast.tw13283698585573304225 : Nat := 0
def PySem.W.Fast.tw14672322158954860370 : Nat := 0
def PySem.W.Fast.tw9082706995451236299 : Nat := 0
def PySem.W.Fast.tw800311800281985291 : Nat := 0
def PySem.W.Fast.tw18068824942160053432 : Nat := 0
def PySem.W.Fast.tw159495460552445077 : Nat := 0
def PySem.W.Fast.tw11163441236585076471 : Nat := 0
def PySem.W.Fast.tw5232212572983145763 : Nat := 0
def PySem.W.Fast.tw10824048512010000810 : Nat := 0
def PySem.W.Fast.tw16323795182544123476 : Nat := 0
def PySem.W.Fast.tw13636340876982451251 : Nat := 0
def PySem.W.Fast.tw3480367570036531000 : Nat := 0
def PySem.W.Fast.tw15959380188058382061 : Nat := 0
def PySem.W.Fast.tw1470693191288397348 : Nat := 0
def PySem.W.Fast.tw10365942376621572085 : Nat := 0
def PySem.W.Fast.tw12818718069714143492 : Nat := 0
def PySem.W.Fast.tw158362996864293058 : Nat := 0
def PySem.W.Fast.tw930733229610407527 : Nat := 0
def PySem.W.Fast.tw8785337337283084455 : Nat := 0
def PySem.W.Fast.tw15106028240756203523 : Nat := 0
def PySem.W.Fast.tw13758654708848665720 : Nat := 0
def PySem.W.Fast.tw678804236434218474 : Nat := 0
def PySem.W.Fast.tw8919695181872674884 : Nat := 0
def PySem.W.Fast.tw3936563418380361921 : Nat := 0
def PySem.W.Fast.tw4006015738117656647 : Nat := 0
def PySem.W.Fast.tw8263146358025268296 : Nat := 0
def PySem.W.Fast.tw9684274233902202628 : Nat := 0
def PySem.W.Fast.tw17940236864978261821 : Nat := 0
def PySem.W.Fast.tw16250217479841612833 : Nat := 0
def PySem.W.Fast.tw13374956398112557913 : Nat := 0
def PySem.W.Fast.tw13238470246312016688 : Nat := 0
def PySem.W.Fast.tw429123549258339512 : Nat := 0
def PySem.W.Fast.tw2194722235806328086 : Nat := 0
def PySem.W.Fast.tw12589580616378114813 : Nat := 0
def PySem.W.Fast.tw6677296990594850391 : Nat := 0
def PySem.W.Fast.tw14957420778914477929 : Nat := 0
def PySem.W.Fast.tw9238835506324308798 : Nat := 0
def PySem.W.Fast.tw7112130293137337176 : Nat := 0
def PySem.W.Fast.tw17265752779287874553 : Nat := 0
def PySem.W.Fast.tw354277640321818448 : Nat := 0
def PySem.W.Fast.tw2940780783919475804 : Nat := 0
def PySem.W.Fast.tw18228556788378420315 : Nat := 0
def PySem.W.Fast.tw15924958033144610158 : Nat := 0
def PySem.W.Fast.tw8053566637905605600 : Nat := 0
def PySem.W.Fast.tw16804903743669142673 : Nat := 0
def PySem.W.Fast.tw412428497128354172 : Nat := 0
def PySem.W.Fast.tw9099791234173915137 : Nat := 0
def PySem.W.Fast.tw18028010170233596615 : Nat := 0
def PySem.W.Fast.tw13578961158120521710 : Nat := 0
def PySem.W.Fast.tw10219819462951705444 : Nat := 0
def PySem.W.Fast.tw6650071170988697544 : Nat := 0
def PySem.W.Fast.tw8448094590251745261 : Nat := 0
def PySem.W.Fast.tw5087276565474654502 : Nat := 0
def PySem.W.Fast.tw1377775107643525041 : Nat := 0
def PySem.W.Fast.tw8098204140325820965 : Nat := 0
def PySem.W.Fast.tw4610653908120330958 : Nat := 0
def PySem.W.Fast.tw9026819504567039005 : Nat := 0
def PySem.W.Fast.tw7355483602881754243 : Nat := 0
def PySem.W.Fast.tw4525357111638668962 : Nat := 0
def PySem.W.Fast.tw15998581114305988125 : Nat := 0
def PySem.W.Fast.tw4779537075779376992 : Nat := 0
def PySem.W.Fast.tw6747578704349656929 : Nat := 0
def PySem.W.Fast.tw12247017374951542874 : Nat := 0
def PySem.W.Fast.tw14998514351642216004 : Nat := 0
def PySem.W.Fast.tw9962249195297553348 : Nat := 0
def PySem.W.Fast.tw2545400287048053858 : Nat := 0
def PySem.W.Fast.tw4203079762018578016 : Nat := 0
def PySem.W.Fast.tw12442126912818862349 : Nat := 0
def PySem.W.Fast.tw3705172063029640242 : Nat := 0
def PySem.W.Fast.tw12569139442209869061 : Nat := 0
def PySem.W.Fast.tw12230813800061059 : Nat := 0
def PySem.W.Fast.tw1304484116653795644 : Nat := 0
def PySem.W.Fast.tw14525754579349672918 : Nat := 0
def PySem.W.Fast.tw8904088455362450585 : Nat := 0
def PySem.W.Fast.tw14964088617177032517 : Nat := 0
def PySem.W.Fast.tw351241636419443520 : Nat := 0
def PySem.W.Fast.tw431836324507809628 : Nat := 0
def PySem.W.Fast.tw17384027759559526420 : Nat := 0
def PySem.W.Fast.tw16422854745529688818 : Nat := 0
def PySem.W.Fast.tw5564399128495326849 : Nat := 0
def PySem.W.Fast.tw933131155320016772 : Nat := 0
def PySem.W.Fast.tw9911947703325225835 : Nat := 0
def PySem.W.Fast.tw14986154834094280131 : Nat := 0
def PySem.W.Fast.tw9139025587961606071 : Nat := 0
def PySem.W.Fast.tw15470504571660397503 : Nat := 0
def PySem.W.Fast.tw9841954900666483593 : Nat := 0
def PySem.W.Fast.tw2365420656696639247 : Nat := 0
def PySem.W.Fast.tw12071659047605405069 : Nat := 0
def PySem.W.Fast.tw6856963451659144520 : Nat := 0
def PySem.W.Fast.tw10667315731708822077 : Nat := 0
def PySem.W.Fast.tw17211381013322150708 : Nat := 0
def PySem.W.Fast.tw3978526484343196457 : Nat := 0
def PySem.W.Fast.tw10222645362120599317 : Nat := 0
def PySem.W.Fast.tw2612829610454321446 : Nat := 0
def PySem.W.Fast.tw8835201907646700755 : Nat := 0
def PySem.W.Fast.tw4680067179481868837 : Nat := 0
def PySem.W.Fast.tw5810271536917229734 : Nat := 0
def PySem.W.Fast.tw11551483898571811329 : Nat := 0
def PySem.W.Fast.tw17926379022937426961 : Nat := 0
def PySem.W.Fast.tw13831479449478453686 : Nat := 0
def PySem.W.Fast.tw14443532311412138517 : Nat := 0
def PySem.W.Fast.tw17172904489986998132 : Nat := 0
def PySem.W.Fast.tw871111613599243748 : Nat := 0
def PySem.W.Fast.tw16921728519566818858 : Nat := 0
def PySem.W.Fast.tw17252904478168556952 : Nat := 0
def PySem.W.Fast.tw14767394013664112682 : Nat := 0
def PySem.W.Fast.tw1893438220991940692 : Nat := 0
def PySem.W.Fast.tw16069416926448433260 : Nat := 0
def PySem.W.Fast.tw14195052661508325062 : Nat := 0
def PySem.W.Fast.tw14926370234200172743 : Nat := 0
def PySem.W.Fast.tw469969541077398739 : Nat := 0
def PySem.W.Fast.tw15643977296151413413 : Nat := 0
def PySem.W.Fast.tw12962854058784900135 : Nat := 0
def PySem.W.Fast.tw5668904977130342772 : Nat := 0
def PySem.W.Fast.tw10417903591441179538 : Nat := 0
def PySem.W.Fast.tw5094200664447706147 : Nat := 0
def PySem.W.Fast.tw9019143790925018705 : Nat := 0
def PySem.W.Fast.tw14785155001461762734 : Nat := 0
def PySem.W.Fast.tw3660316784531539947 : Nat := 0
def PySem.W.Fast.tw10707306114251826383 : Nat := 0
def PySem.W.Fast.tw13947439539588493155 : Nat := 0
def PySem.W.Fast.tw17866156489709706852 : Nat := 0
def PySem.W.Fast.tw6307538983083795595 : Nat := 0
def PySem.W.Fast.tw10458275348115355821 : Nat := 0
def PySem.W.Fast.tw8534102501060857853 : Nat := 0
def PySem.W.Fast.tw14719408137500874861 : Nat := 0
def PySem.W.Fast.tw9612373006023642362 : Nat := 0
def PySem.W.Fast.tw14901343695153125943 : Nat := 0
def PySem.W.Fast.tw17280061357379371190 : Nat := 0
def PySem.W.Fast.tw4424390173817050917 : Nat := 0
def PySem.W.Fast.tw533465031750490607 : Nat := 0
def PySem.W.Fast.tw12161670335845085845 : Nat := 0
def PySem.W.Fast.tw3664166330913996295 : Nat := 0
def PySem.W.Fast.tw14792782865633355934 : Nat := 0
def PySem.W.Fast.tw17425190196858247060 : Nat := 0
def PySem.W.Fast.tw12947446662887360900 : Nat := 0
def PySem.W.Fast.tw12075524214374486149 : Nat := 0
def PySem.W.Fast.tw10683397095377245364 : Nat := 0
def PySem.W.Fast.tw10686996685171486641 : Nat := 0
def PySem.W.Fast.tw16718503374259862681 : Nat := 0
def PySem.W.Fast.tw18424120426468325461 : Nat := 0
def PySem.W.Fast.tw5276232645425834696 : Nat := 0
def PySem.W.Fast.tw7806490198186665910 : Nat := 0
def PySem.W.Fast.tw16223390967352626073 : Nat := 0
def PySem.W.Fast.tw14227685257200432602 : Nat := 0
def PySem.W.Fast.tw18140320012596660066 : Nat := 0
def PySem.W.Fast.tw9904975054035151099 : Nat := 0
def PySem.W.Fast.tw15856040496203819965 : Nat := 0
def PySem.W.Fast.tw8952367255933762768 : Nat := 0
def PySem.W.Fast.tw5156273279485595176 : Nat := 0
def PySem.W.Fast.tw10681901151627759097 : Nat := 0
def PySem.W.Fast.tw4655815673050840483 : Nat := 0
def PySem.W.Fast.tw16429447907533228902 : Nat := 0
def PySem.W.Fast.tw10635325298081257280 : Nat := 0
def PySem.W.Fast.tw17658792518984425729 : Nat := 0
def PySem.W.Fast.tw9484274926381138940 : Nat := 0
def PySem.W.Fast.tw15334069177970309380 : Nat := 0
def PySem.W.Fast.tw4199710618325997962 : Nat := 0
def PySem.W.Fast.tw17850208595507203092 : Nat := 0
def PySem.W.Fast.tw4403043350381625756 : Nat := 0
def PySem.W.Fast.tw5479743339950230180 : Nat := 0
def PySem.W.Fast.tw16576200890520961202 : Nat := 0
def PySem.W.Fast.tw12958073238043802083 : Nat := 0
def PySem.W.Fast.tw18433939559208793270 : Nat := 0
def PySem.W.Fast.tw12841287435426368234 : Nat := 0
def PySem.W.Fast.tw4799771294849801997 : Nat := 0
def PySem.W.Fast.tw13469806858880559729 : Nat := 0
def PySem.W.Fast.tw7712091986369680590 : Nat := 0
def PySem.W.Fast.tw5356564093638945779 : Nat := 0
def PySem.W.Fast.tw7442018528648623370 : Nat := 0
def PySem.W.Fast.tw1103554238440123754 : Nat := 0
def PySem.W.Fast.tw7991158973993620157 : Nat := 0
def PySem.W.Fast.tw9800121928214394309 : Nat := 0
def PySem.W.Fast.tw92758795431735843 : Nat := 0
def PySem.W.Fast.tw17362088878359868392 : Nat := 0
def PySem.W.Fast.tw17226091699629773102 : Nat := 0
def PySem.W.Fast.tw16522057814738674819 : Nat := 0
def PySem.W.Fast.tw10320101158578529117 : Nat := 0
def PySem.W.Fast.tw10009478912661777273 : Nat := 0
def PySem.W.Fast.tw7445230612850612898 : Nat := 0
def PySem.W.Fast.tw11142433616990120977 : Nat := 0
def PySem.W.Fast.tw11119413355098025262 : Nat := 0
def PySem.W.Fast.tw4365145304567511241 : Nat := 0
def PySem.W.Fast.tw6894841669247225345 : Nat := 0
def PySem.W.Fast.tw11071271949597587155 : Nat := 0
def PySem.W.Fast.tw4735882379114722521 : Nat := 0
def PySem.W.Fast.tw18087512370466964314 : Nat := 0
def PySem.W.Fast.tw1390436467299917376 : Nat := 0
def PySem.W.Fast.tw10164036762869759280 : Nat := 0
def PySem.W.Fast.tw1321194209920293967 : Nat := 0
def PySem.W.Fast.tw11081375101566275542 : Nat := 0
def PySem.W.Fast.tw9654912112605546129 : Nat := 0
def PySem.W.Fast.tw4934863205214082748 : Nat := 0
def PySem.W.Fast.tw15762688580955806336 : Nat := 0
def PySem.W.Fast.tw5681919726421302801 : Nat := 0
def PySem.W.Fast.tw15019341436107984202 : Nat := 0
def PySem.W.Fast.tw16368125529950718412 : Nat := 0
def PySem.W.Fast.tw14960224585633352639 : Nat := 0
def PySem.W.Fast.tw17480702880132579985 : Nat := 0
def PySem.W.Fast.tw13438912438651760173 : Nat := 0
def PySem.W.Fast.tw15948338586733942821 : Nat := 0
def PySem.W.Fast.tw12424814155274927832 : Nat := 0
def PySem.W.Fast.tw12234055250645315775 : Nat := 0
def PySem.W.Fast.tw11641557522985616434 : Nat := 0
def PySem.W.Fast.tw3621774458083108280 : Nat := 0
def PySem.W.Fast.tw6583251940781152221 : Nat := 0
def PySem.W.Fast.tw301417501512950603 : Nat := 0
def PySem.W.Fast.tw11823138305596356005 : Nat := 0
def PySem.W.Fast.tw3546594597760887068 : Nat := 0
def PySem.W.Fast.tw7907436973553092322 : Nat := 0
def PySem.W.Fast.tw6831030682305015967 : Nat := 0
def PySem.W.Fast.tw9965395704352492723 : Nat := 0
def PySem.W.Fast.tw1757172249317418280 : Nat := 0
def PySem.W.Fast.tw9441407342760298982 : Nat := 0
def PySem.W.Fast.tw16830278381636947025 : Nat := 0
def PySem.W.Fast.tw15183473495299559224 : Nat := 0
def PySem.W.Fast.tw8747508166924609394 : Nat := 0
def PySem.W.Fast.tw8531939190272011546 : Nat := 0
def PySem.W.Fast.tw2780492334762077539 : Nat := 0
def PySem.W.Fast.tw5235192019273518022 : Nat := 0
def PySem.W.Fast.tw3978285459041603927 : Nat := 0
def PySem.W.Fast.tw15420878231975332100 : Nat := 0
def PySem.W.Fast.tw8262534302669273402 : Nat := 0
def PySem.W.Fast.tw6005993164505367642 : Nat := 0
def PySem.W.Fast.tw6806699546601176305 : Nat := 0
def PySem.W.Fast.tw5153132642067628084 : Nat := 0
def PySem.W.Fast.tw13462836082764095232 : Nat := 0
def PySem.W.Fast.tw3584909321629990624 : Nat := 0
def PySem.W.Fast.tw4244723688219099779 : Nat := 0
def PySem.W.Fast.tw973414798369710547 : Nat := 0
def PySem.W.Fast.tw9716671611911787784 : Nat := 0
def PySem.W.Fast.tw7947273069582562589 : Nat := 0
def PySem.W.Fast.tw1724600392935085448 : Nat := 0
def PySem.W.Fast.tw5531916654745207023 : Nat := 0
def PySem.W.Fast.tw6778032133958810607 : Nat := 0
def PySem.W.Fast.tw3326091342737265175 : Nat := 0
def PySem.W.Fast.tw1718918706791182171 : Nat := 0
def PySem.W.Fast.tw16325099195571324040 : Nat := 0
def PySem.W.Fast.tw8894985500796205150 : Nat := 0
def PySem.W.Fast.tw10219902792416214626 : Nat := 0
def PySem.W.Fast.tw1819253089990146020 : Nat := 0
def PySem.W.Fast.tw18183835361508356455 : Nat := 0
def PySem.W.Fast.tw11017641829089086002 : Nat := 0
def PySem.W.Fast.tw10181601805239878740 : Nat := 0
def PySem.W.Fast.tw7581510792395505019 : Nat := 0
def PySem.W.Fast.tw1921297318018536738 : Nat := 0
def PySem.W.Fast.tw2632805336411365207 : Nat := 0
def PySem.W.Fast.tw7438993790486480851 : Nat := 0
def PySem.W.Fast.tw5459408613542118959 : Nat := 0
def PySem.W.Fast.tw3844808269067910457 : Nat := 0
def PySem.W.Fast.tw7836616336857239279 : Nat := 0
def PySem.W.Fast.tw10001403230167041733 : Nat := 0
def PySem.W.Fast.tw16203465814289366938 : Nat := 0
def PySem.W.Fast.tw8777133898153613169 : Nat := 0
def PySem.W.Fast.tw10314674429444529383 : Nat := 0
def PySem.W.Fast.tw8864315514750770317 : Nat := 0
def PySem.W.Fast.tw10910554836323878425 : Nat := 0
def PySem.W.Fast.tw8619585047795490000 : Nat := 0
def PySem.W.Fast.tw11440519549385553336 : Nat := 0
def PySem.W.Fast.tw3676089268955248364 : Nat := 0
def PySem.W.Fast.tw5630848616062283825 : Nat := 0
def PySem.W.Fast.tw5489396433206361477 : Nat := 0
def PySem.W.Fast.tw336875533541472429 : Nat := 0
def PySem.W.Fast.tw18131818658461537502 : Nat := 0
def PySem.W.Fast.tw14777299779705199687 : Nat := 0
def PySem.W.Fast.tw3235965985444760512 : Nat := 0
def PySem.W.Fast.tw12229186726219523014 : Nat := 0
def PySem.W.Fast.tw7174202466792357242 : Nat := 0
def PySem.W.Fast.tw5478048916873209758 : Nat := 0
def PySem.W.Fast.tw13783661397295762828 : Nat := 0
def PySem.W.Fast.tw17750697965171591772 : Nat := 0
def PySem.W.Fast.tw14329253510153737768 : Nat := 0
def PySem.W.Fast.tw15371020751310157208 : Nat := 0
def PySem.W.Fast.tw9334347043537421412 : Nat := 0
def PySem.W.Fast.tw387882894507295219 : Nat := 0
def PySem.W.Fast.tw1209844946978245803 : Nat := 0
def PySem.W.Fast.tw17803462538962428703 : Nat := 0
def PySem.W.Fast.tw17440060622721853087 : Nat := 0
def PySem.W.Fast.tw6997636555209503382 : Nat := 0
def PySem.W.Fast.tw12817603036267305152 : Nat := 0
def PySem.W.Fast.tw15286592907818691978 : Nat := 0
def PySem.W.Fast.tw12984758357276359579 : Nat := 0
def PySem.W.Fast.tw4473617065530539109 : Nat := 0
def PySem.W.Fast.tw16717007917402146652 : Nat := 0
def PySem.W.Fast.tw2647390944171002580 : Nat := 0
def PySem.W.Fast.tw12363266138863378738 : Nat := 0
def PySem.W.Fast.tw17658351328935166909 : Nat := 0
def PySem.W.Fast.tw1272275554228390917 : Nat := 0
def PySem.W.Fast.tw1339193314361170783 : Nat := 0
def PySem.W.Fast.tw12202124239843567954 : Nat := 0
def PySem.W.Fast.tw3675383230438705834 : Nat := 0
def PySem.W.Fast.tw10554773411742385973 : Nat := 0
def PySem.W.Fast.tw11406314600737657819 : Nat := 0
def PySem.W.Fast.tw294977797924272356 : Nat := 0
def PySem.W.Fast.tw12249751018613642321 : Nat := 0
def PySem.W.Fast.tw8259088237089483041 : Nat := 0
def PySem.W.Fast.tw12213936203930448302 : Nat := 0
def PySem.W.Fast.tw1079077895404148706 : Nat := 0
def PySem.W.Fast.tw12462087491355496114 : Nat := 0
def PySem.W.Fast.tw3267773090104871015 : Nat := 0
def PySem.W.Fast.tw12063349398004387517 : Nat := 0
def PySem.W.Fast.tw4462810537326157387 : Nat := 0
def PySem.W.Fast.tw18366082303571664704 : Nat := 0
def PySem.W.Fast.tw15040198369854899819 : Nat := 0
def PySem.W.Fast.tw14342444970092040586 : Nat := 0
def PySem.W.Fast.tw10547366807201399782 : Nat := 0
def PySem.W.Fast.tw16023674816489029655 : Nat := 0
def PySem.W.Fast.tw1261244044944737451 : Nat := 0
def PySem.W.Fast.tw17049819003401018548 : Nat := 0
def PySem.W.Fast.tw5576853949224877167 : Nat := 0
def PySem.W.Fast.tw7109989301147081210 : Nat := 0
def PySem.W.Fast.tw4728512070578055347 : Nat := 0
def PySem.W.Fast.tw16311333778146462175 : Nat := 0
def PySem.W.Fast.tw8294108089842601149 : Nat := 0
def PySem.W.Fast.tw4705816946286524597 : Nat := 0
def PySem.W.Fast.tw14465858933829049600 : Nat := 0
def PySem.W.Fast.tw16345373737397709339 : Nat := 0
def PySem.W.Fast.tw13697969891636799064 : Nat := 0
def PySem.W.Fast.tw4649159261560110804 : Nat := 0
def PySem.W.Fast.tw3762484118577291463 : Nat := 0
def PySem.W.Fast.tw9884543049461070103 : Nat := 0
def PySem.W.Fast.tw1287625902522032966 : Nat := 0
def PySem.W.Fast.tw15308277698797539030 : Nat := 0
def PySem.W.Fast.tw13855099249852093743 : Nat := 0
def PySem.W.Fast.tw11077462372551429863 : Nat := 0
def PySem.W.Fast.tw3378106835723330716 : Nat := 0
def PySem.W.Fast.tw10321334691671181114 : Nat := 0
def PySem.W.Fast.tw17722451030682876134 : Nat := 0
def PySem.W.Fast.tw16757156994030868813 : Nat := 0
def PySem.W.Fast.tw14854444393597264154 : Nat := 0
def PySem.W.Fast.tw432333006095281151 : Nat := 0
def PySem.W.Fast.tw10697131263819820568 : Nat := 0
def PySem.W.Fast.tw5455077140844046950 : Nat := 0
def PySem.W.Fast.tw9044704391359374346 : Nat := 0
def PySem.W.Fast.tw13513376863669650968 : Nat := 0
def PySem.W.Fast.tw5642108421489277204 : Nat := 0
def PySem.W.Fast.tw10981156031965331362 : Nat := 0
def PySem.W.Fast.tw13887631049200268582 : Nat := 0
def PySem.W.Fast.tw3722018040967401566 : Nat := 0
def PySem.W.Fast.tw12743210183339228272 : Nat := 0
def PySem.W.Fast.tw2963209932863748744 : Nat := 0
def PySem.W.Fast.tw2878950460361253425 : Nat := 0
def PySem.W.Fast.tw10938274123249015698 : Nat := 0
def PySem.W.Fast.tw4934571958743420765 : Nat := 0
def PySem.W.Fast.tw13282308433900206617 : Nat := 0
def PySem.W.Fast.tw18244713177991506015 : Nat := 0
def PySem.W.Fast.tw11024901925269054363 : Nat := 0
def PySem.W.Fast.tw17046957951533913829 : Nat := 0
def PySem.W.Fast.tw11021983735100099272 : Nat := 0
def PySem.W.Fast.tw2306223993066368296 : Nat := 0
def PySem.W.Fast.tw9705006819315621478 : Nat := 0
def PySem.W.Fast.tw15696503529447027501 : Nat := 0
def PySem.W.Fast.tw9425038679693989826 : Nat := 0
def PySem.W.Fast.tw15675716197415671513 : Nat := 0
def PySem.W.Fast.tw2923073922967002553 : Nat := 0
def PySem.W.Fast.tw7575437951800323589 : Nat := 0
def PySem.W.Fast.tw2779823900182807634 : Nat := 0
def PySem.W.Fast.tw13722417061246786136 : Nat := 0
def PySem.W.Fast.tw898606764128169594 : Nat := 0
def PySem.W.Fast.tw12103022107495954257 : Nat := 0
def PySem.W.Fast.tw3714335749773563853 : Nat := 0
def PySem.W.Fast.tw6114278200780003714 : Nat := 0
def PySem.W.Fast.tw15919430216689147688 : Nat := 0
def PySem.W.Fast.tw7624694783318002234 : Nat := 0
def PySem.W.Fast.tw16942554942555162348 : Nat := 0
def PySem.W.Fast.tw17003060543088138835 : Nat := 0
def PySem.W.Fast.tw4333951716787603883 : Nat := 0
def PySem.W.Fast.tw16344810084158299360 : Nat := 0
def PySem.W.Fast.tw11170851641306391297 : Nat := 0
def PySem.W.Fast.tw2829346345050775349 : Nat := 0
def PySem.W.Fast.tw13297522378819134253 : Nat := 0
def PySem.W.Fast.tw7977347748267164323 : Nat := 0
def PySem.W.Fast.tw2074462467016197875 : Nat := 0
def PySem.W.Fast.tw14733368765369557087 : Nat := 0
def PySem.W.Fast.tw10146783916554017298 : Nat := 0
def PySem.W.Fast.tw13236807911915097205 : Nat := 0
def PySem.W.Fast.tw18277928014318849787 : Nat := 0
def PySem.W.Fast.tw8857640005950592972 : Nat := 0
def PySem.W.Fast.tw1046582966626238509 : Nat := 0
def PySem.W.Fast.tw18370410641642948399 : Nat := 0
def PySem.W.Fast.tw15657369976958850623 : Nat := 0
def PySem.W.Fast.tw16117257807799053640 : Nat := 0
def PySem.W.Fast.tw11482386502639230678 : Nat := 0
def PySem.W.Fast.tw12749576665490880752 : Nat := 0
def PySem.W.Fast.tw3788471365635364721 : Nat := 0
def PySem.W.Fast.tw11954203569687153536 : Nat := 0
def PySem.W.Fast.tw17987294462271960474 : Nat := 0
def PySem.W.Fast.tw14307998121923983177 : Nat := 0
def PySem.W.Fast.tw13466558039596063061 : Nat := 0
def PySem.W.Fast.tw11434316531039763462 : Nat := 0
def PySem.W.Fast.tw17760540387022133325 : Nat := 0
def PySem.W.Fast.tw13345807875717345624 : Nat := 0
def PySem.W.Fast.tw5982247476208175623 : Nat := 0
def PySem.W.Fast.tw4067367150704429122 : Nat := 0
def PySem.W.Fast.tw13757480460317510299 : Nat := 0
def PySem.W.Fast.tw5816399028419895530 : Nat := 0
def PySem.W.Fast.tw13867930819854537302 : Nat := 0
def PySem.W.Fast.tw12414566511420453091 : Nat := 0
def PySem.W.Fast.tw15741907257841710493 : Nat := 0
def PySem.W.Fast.tw12127373234719224489 : Nat := 0
def PySem.W.Fast.tw14916901490709109506 : Nat := 0
def PySem.W.Fast.tw17414892354616802626 : Nat := 0
def PySem.W.Fast.tw6579619349896513317 : Nat := 0
def PySem.W.Fast.tw16654527052427983793 : Nat := 0
def PySem.W.Fast.tw3412756434085172565 : Nat := 0
def PySem.W.Fast.tw738235276189529202 : Nat := 0
def PySem.W.Fast.tw6864834217842757028 : Nat := 0
def PySem.W.Fast.tw8773778455676559828 : Nat := 0
def PySem.W.Fast.tw9151994604349904362 : Nat := 0
def PySem.W.Fast.tw17702878053462700152 : Nat := 0
def PySem.W.Fast.tw13167146265152477844 : Nat := 0
def PySem.W.Fast.tw6207078891769223532 : Nat := 0
def PySem.W.Fast.tw13992927857249557741 : Nat := 0
def PySem.W.Fast.tw10220949477615128857 : Nat := 0
def PySem.W.Fast.tw11770516571601110770 : Nat := 0
def PySem.W.Fast.tw12314494083394450032 : Nat := 0
def PySem.W.Fast.tw15838452160414390363 : Nat := 0
def PySem.W.Fast.tw7336342516060377750 : Nat := 0
def PySem.W.Fast.tw1264310714846000712 : Nat := 0
def PySem.W.Fast.tw2894429592552981940 : Nat := 0
def PySem.W.Fast.tw13162976466965146256 : Nat := 0
def PySem.W.Fast.tw15723613852727935399 : Nat := 0
def PySem.W.Fast.tw6438008554356172187 : Nat := 0
def PySem.W.Fast.tw3084386551190645400 : Nat := 0
def PySem.W.Fast.tw14578321760931594936 : Nat := 0
def PySem.W.Fast.tw15896591054495715385 : Nat := 0
def PySem.W.Fast.tw12738255605841089228 : Nat := 0
def PySem.W.Fast.tw5372122161876532290 : Nat := 0
def PySem.W.Fast.tw10479096434186822002 : Nat := 0
def PySem.W.Fast.tw630421774221981758 : Nat := 0
def PySem.W.Fast.tw9727278402315583986 : Nat := 0
def PySem.W.Fast.tw8716066019172306334 : Nat := 0
def PySem.W.Fast.tw11232983055387218714 : Nat := 0
def PySem.W.Fast.tw18009800928981632058 : Nat := 0
def PySem.W.Fast.tw1469114146248161324 : Nat := 0
def PySem.W.Fast.tw14870051696687577312 : Nat := 0
def PySem.W.Fast.tw12293034118550205910 : Nat := 0
def PySem.W.Fast.tw7930620011274470429 : Nat := 0
def PySem.W.Fast.tw13956946781057112816 : Nat := 0
def PySem.W.Fast.tw16140801313220170880 : Nat := 0
def PySem.W.Fast.tw6891677889610709270 : Nat := 0
def PySem.W.Fast.tw7738064062679338512 : Nat := 0
def PySem.W.Fast.tw13799759683750379349 : Nat := 0
def PySem.W.Fast.tw8040080249277201087 : Nat := 0
def PySem.W.Fast.tw9852742649653153164 : Nat := 0
def PySem.W.Fast.tw9193753657414346033 : Nat := 0
def PySem.W.Fast.tw15620241305947567806 : Nat := 0
def PySem.W.Fast.tw6203209049775114721 : Nat := 0
def PySem.W.Fast.tw10528963513373118383 : Nat := 0
def PySem.W.Fast.tw14052718722493304399 : Nat := 0
def PySem.W.Fast.tw15553730181780960981 : Nat := 0
def PySem.W.Fast.tw16049873562952231678 : Nat := 0
def PySem.W.Fast.tw16855159735451187937 : Nat := 0
def PySem.W.Fast.tw6431816217545183252 : Nat := 0
def PySem.W.Fast.tw4764738395661954340 : Nat := 0
def PySem.W.Fast.tw6472981794008039579 : Nat := 0
def PySem.W.Fast.tw3968290216380336717 : Nat := 0
def PySem.W.Fast.tw2533178494934717265 : Nat := 0
def PySem.W.Fast.tw7860927537811195695 : Nat := 0
def PySem.W.Fast.tw10156816744975318570 : Nat := 0
def PySem.W.Fast.tw15120262146441123498 : Nat := 0
def PySem.W.Fast.tw9738073354539620981 : Nat := 0
def PySem.W.Fast.tw17229381242636756840 : Nat := 0
def PySem.W.Fast.tw14530823773478725456 : Nat := 0
def PySem.W.Fast.tw14555208574022083441 : Nat := 0
def PySem.W.Fast.tw10228720304999764547 : Nat := 0
def PySem.W.Fast.tw10887821777804523074 : Nat := 0
def PySem.W.Fast.tw9939340173045291304 : Nat := 0
def PySem.W.Fast.tw17686853810312393409 : Nat := 0
def PySem.W.Fast.tw15748217780659269736 : Nat := 0
def PySem.W.Fast.tw11069513780781082509 : Nat := 0
def PySem.W.Fast.tw8273744585534047308 : Nat := 0
def PySem.W.Fast.tw2244951275956028322 : Nat := 0
def PySem.W.Fast.tw15664616903027608373 : Nat := 0
def PySem.W.Fast.tw4632426647063718744 : Nat := 0
def PySem.W.Fast.tw9391777697508334215 : Nat := 0
def PySem.W.Fast.tw17643999746642118053 : Nat := 0
def PySem.W.Fast.tw13336161742184692694 : Nat := 0
def PySem.W.Fast.tw14674559030708029665 : Nat := 0
def PySem.W.Fast.tw10867121116895184462 : Nat := 0
def PySem.W.Fast.tw8419669779334698573 : Nat := 0
def PySem.W.Fast.tw1389515002965115206 : Nat := 0
def PySem.W.Fast.tw7069587264280736630 : Nat := 0
def PySem.W.Fast.tw14872809459268671360 : Nat := 0
def PySem.W.Fast.tw10008605053502895178 : Nat := 0
def PySem.W.Fast.tw4216765414484300865 : Nat := 0
def PySem.W.Fast.tw749056113659982435 : Nat := 0
def PySem.W.Fast.tw11592518235060186097 : Nat := 0
def PySem.W.Fast.tw6182451051254714965 : Nat := 0
def PySem.W.Fast.tw17052642506528574589 : Nat := 0
def PySem.W.Fast.tw13837337439757313359 : Nat := 0
def PySem.W.Fast.tw4880134127284655232 : Nat := 0
def PySem.W.Fast.tw16445607645213756315 : Nat := 0
def PySem.W.Fast.tw15366285845670302363 : Nat := 0
def PySem.W.Fast.tw7935244088645205026 : Nat := 0
def PySem.W.Fast.tw16939823055930836168 : Nat := 0
def PySem.W.Fast.tw17005613454025338483 : Nat := 0
def PySem.W.Fast.tw5611946058128659026 : Nat := 0
def PySem.W.Fast.tw17995375653890688507 : Nat := 0
def PySem.W.Fast.tw5770233902807734050 : Nat := 0
def PySem.W.Fast.tw2124859753433192576 : Nat := 0
def PySem.W.Fast.tw7406827353588291872 : Nat := 0
def PySem.W.Fast.tw8613854465099849113 : Nat := 0
def PySem.W.Fast.tw10385214856799286916 : Nat := 0
def PySem.W.Fast.tw14107026963345321330 : Nat := 0
def PySem.W.Fast.tw11456854841273985932 : Nat := 0
def PySem.W.Fast.tw14944145357730982310 : Nat := 0
def PySem.W.Fast.tw10892602554721881255 : Nat := 0
def PySem.W.Fast.tw16423732073013707317 : Nat := 0
def PySem.W.Fast.tw10644319767306639651 : Nat := 0
def PySem.W.Fast.tw12549061212444486446 : Nat := 0
def PySem.W.Fast.tw17775036708796332048 : Nat := 0
def PySem.W.Fast.tw18258917448440044440 : Nat := 0
def PySem.W.Fast.tw2514670309561664181 : Nat := 0
def PySem.W.Fast.tw13218413101399616867 : Nat := 0
def PySem.W.Fast.tw13712597681502190245 : Nat := 0
def PySem.W.Fast.tw8751414885948514730 : Nat := 0
open PySem PySem.W PyProof.Rows
set_option maxRecDepth 100000 in
set_option maxHeartbeats 0 in
theorem PySem.Challenge.cw_touchpasses_k09_whole_rows_of_deeds_on_t_holds : PySem.Challenge.rw_touchpasses_k09_whole_rows_of_deeds_on_t.Holds := by
  w_on; o_law; k_head; (case hw => w_witness2)
  k_fill
  refine L2.walk_ofG (l := PySem.Challenge.rw_touchpasses_k09_whole_rows_of_deeds_on_t) (n := 63) (k := 12) (x := "script") (CX := fun _ => L2.CX0) (sp := fun w => My.spEnd _) rfl (by decide) rfl ⟨rfl, by decide, by decide⟩ (fun w h Y => PySem.W.kIn_of Y) ?F (fun _ _ a ns hl hb hO hS => ⟨a, ns, rfl, My.sqL_fz hO hS, hl, hb, fun _ => rfl⟩) (fun _ _ _ _ _ h => h)
  case F =>
    intro w mg fa h KX G hmg
    refine' My.fin_mk hmg (My.mk_txt KX G ?aC ?cpg ?chd ?cpo ?csa ?cmk ?ckc ?cca ?ccn ?cct ?ccm ?na_length ?na_passes ?cne ?cob ?a_is_integer ?l_is_integer ?c_is_integer ?k_is_integer ?a_is_between ?l_is_between ?c_is_between ?k_is_between ?a_is_name ?l_is_name ?c_is_name ?k_is_name ?a_is_word ?l_is_word ?c_is_word ?k_is_word ?a_is_stretch ?l_is_stretch ?c_is_stretch ?k_is_stretch ?a_is_length ?l_is_length ?c_is_length ?k_is_length ?a_are_touches ?l_are_touches ?c_are_touches ?k_are_touches ?a_is_pass ?l_is_pass ?c_is_pass ?k_is_pass ?a_first_wrong ?l_first_wrong ?c_first_wrong ?k_first_wrong ?a_place_of ?l_place_of ?c_place_of ?k_place_of ?a_is_change ?l_is_change ?c_is_change ?k_is_change ?a_put_in ?l_put_in ?c_put_in ?k_put_in ?a_taken_out ?l_taken_out ?c_taken_out ?k_taken_out ?a_replaced ?l_replaced ?c_replaced ?k_replaced ?a_behind_change ?l_behind_change ?c_behind_change ?k_behind_change ?a_row_of ?l_row_of ?c_row_of ?k_row_of ?a_rows_of ?l_rows_of ?c_rows_of ?k_rows_of ?a_number_in ?l_number_in ?c_number_in ?k_number_in ?a_stretch_in ?l_stretch_in ?c_stretch_in ?k_stretch_in ?a_pass_in ?l_pass_in ?c_pass_in ?k_pass_in ?a_pass_in_row ?l_pass_in_row ?c_pass_in_row ?k_pass_in_row ?a_length_in_row ?l_length_in_row ?c_length_in_row ?k_length_in_row ?a_track_in ?l_track_in ?c_track_in ?k_track_in ?a_Track_init ?i_Track_init ?l_Track_init ?c_Track_init ?k_Track_init ?t_Track_init ?e_Track_init_at ?a_Track_read ?rc_Track_read ?fi_Track_read ?rd_Track_read ?ga_Track_read ?l_Track_read ?c_Track_read ?k_Track_read ?a_Track_length ?pg_Track_length ?pt_Track_length ?pr_Track_length_at ?l_Track_length ?c_Track_length ?k_Track_length ?a_Track_passes ?pg_Track_passes ?pt_Track_passes ?pr_Track_passes_at ?l_Track_passes ?c_Track_passes ?k_Track_passes ?a_Track_names ?pg_Track_names ?pt_Track_names ?pr_Track_names_at ?l_Track_names ?c_Track_names ?k_Track_names ?a_Track_eq ?i_Track_eq ?l_Track_eq ?c_Track_eq ?k_Track_eq ?a_Track_str ?i_Track_str ?l_Track_str ?c_Track_str ?k_Track_str ?a_Track_known_place ?i_Track_known_place ?l_Track_known_place ?c_Track_known_place ?k_Track_known_place ?a_Track_put ?i_Track_put ?l_Track_put ?c_Track_put ?k_Track_put ?t_Track_put ?a_Track_without ?i_Track_without ?l_Track_without ?c_Track_without ?k_Track_without ?a_Track_moved ?i_Track_moved ?l_Track_moved ?c_Track_moved ?k_Track_moved ?a_Track_changed ?i_Track_changed ?l_Track_changed ?c_Track_changed ?k_Track_changed ?a_law_purse ?l_law_purse ?c_law_purse ?k_law_purse ?a_law_draw ?l_law_draw ?c_law_draw ?k_law_draw ?a_law_pick ?l_law_pick ?c_law_pick ?k_law_pick ?a_law_wide ?l_law_wide ?c_law_wide ?k_law_wide ?a_law_touches ?l_law_touches ?c_law_touches ?k_law_touches ?a_law_words ?l_law_words ?c_law_words ?k_law_words ?a_law_fader ?l_law_fader ?c_law_fader ?k_law_fader ?a_law_faders ?l_law_faders ?c_law_faders ?k_law_faders ?a_law_long ?l_law_long ?c_law_long ?k_law_long ?a_law_deed ?l_law_deed ?c_law_deed ?k_law_deed ?a_law_back ?l_law_back ?c_law_back ?k_law_back ?a_law_right ?l_law_right ?c_law_right ?k_law_right ?a_law ?l_law ?c_law ?k_law ?a_LETTERS ?a_DIGITS ?a_MOST_SIGNS ?a_MOST_LENGTH ?a_MOST_PASSES ?a_MOST_TOUCHES ?a_MOST_GLIDE ?a_OLD ?b_MODES ?l_MODES ?b_TAILS ?l_TAILS ?a_SIZE ?b_PARTS ?l_PARTS ?kl_PARTS ?sm_PARTS ?i_PARTS_mode ?i_PARTS_from ?i_PARTS_to ?i_PARTS_touches ?i_PARTS_glide ?i_PARTS_tail ?a_MOST_DIGITS ?a_FEWEST_WORDS ?z_len ?z_isinstance ?z_int ?z_bool ?z_str ?z_tuple ?z_all ?z_range ?z_enumerate ?z_abs ?z_divmod ?z_max ?z_min ?z_repr)
    (case aC => k_is)
    (case cpg => k_is)
    (case chd => k_is)
    (case cpo => k_is)
    (case csa => k_is)
    (case cmk => k_is)
    (case ckc => k_is)
    (case cca => k_is)
    (case ccn => k_is)
    (case cct => k_is)
    (case ccm => k_is)
    (case na_length => k_is)
    (case na_passes => k_is)
    (case cne => k_is)
    (case cob => k_is)
    (case a_is_integer => k_is)
    (case l_is_integer => k_is)
    (case c_is_integer => k_is)
    (case k_is_integer => k_is)
    (case a_is_between => k_is)
    (case l_is_between => k_is)
    (case c_is_between => k_is)
    (case k_is_between => k_is)
    (case a_is_name => k_is)
    (case l_is_name => k_is)
    (case c_is_name => k_is)
    (case k_is_name => k_is)
    (case a_is_word => k_is)
    (case l_is_word => k_is)
    (case c_is_word => k_is)
    (case k_is_word => k_is)
    (case a_is_stretch => k_is)
    (case l_is_stretch => k_is)
    (case c_is_stretch => k_is)
    (case k_is_stretch => k_is)
    (case a_is_length => k_is)
    (case l_is_length => k_is)
    (case c_is_length => k_is)
    (case k_is_length => k_is)
    (case a_are_touches => k_is)
    (case l_are_touches => k_is)
    (case c_are_touches => k_is)
    (case k_are_touches => k_is)
    (case a_is_pass => k_is)
    (case l_is_pass => k_is)
    (case c_is_pass => k_is)
    (case k_is_pass => k_is)
    (case a_first_wrong => k_is)
    (case l_first_wrong => k_is)
    (case c_first_wrong => k_is)
    (case k_first_wrong => k_is)
    (case a_place_of => k_is)
    (case l_place_of => k_is)
    (case c_place_of => k_is)
    (case k_place_of => k_is)
    (case a_is_change => k_is)
    (case l_is_change => k_is)
    (case c_is_change => k_is)
    (case k_is_change => k_is)
    (case a_put_in => k_is)
    (case l_put_in => k_is)
    (case c_put_in => k_is)
    (case k_put_in => k_is)
    (case a_taken_out => k_is)
    (case l_taken_out => k_is)
    (case c_taken_out => k_is)
    (case k_taken_out => k_is)
    (case a_replaced => k_is)
    (case l_replaced => k_is)
    (case c_replaced => k_is)
    (case k_replaced => k_is)
    (case a_behind_change => k_is)
    (case l_behind_change => k_is)
    (case c_behind_change => k_is)
    (case k_behind_change => k_is)
    (case a_row_of => k_is)
    (case l_row_of => k_is)
    (case c_row_of => k_is)
    (case k_row_of => k_is)
    (case a_rows_of => k_is)
    (case l_rows_of => k_is)
    (case c_rows_of => k_is)
    (case k_rows_of => k_is)
    (case a_number_in => k_is)
    (case l_number_in => k_is)
    (case c_number_in => k_is)
    (case k_number_in => k_is)
    (case a_stretch_in => k_is)
    (case l_stretch_in => k_is)
    (case c_stretch_in => k_is)
    (case k_stretch_in => k_is)
    (case a_pass_in => k_is)
    (case l_pass_in => k_is)
    (case c_pass_in => k_is)
    (case k_pass_in => k_is)
    (case a_pass_in_row => k_is)
    (case l_pass_in_row => k_is)
    (case c_pass_in_row => k_is)
    (case k_pass_in_row => k_is)
    (case a_length_in_row => k_is)
    (case l_length_in_row => k_is)
    (case c_length_in_row => k_is)
    (case k_length_in_row => k_is)
    (case a_track_in => k_is)
    (case l_track_in => k_is)
    (case c_track_in => k_is)
    (case k_track_in => k_is)
    (case a_Track_init => k_is)
    (case i_Track_init => k_is)
    (case l_Track_init => k_is)
    (case c_Track_init => k_is)
    (case k_Track_init => k_is)
    (case t_Track_init => k_is)
    (case e_Track_init_at => k_is)
    (case a_Track_read => k_is)
    (case rc_Track_read => k_is)
    (case fi_Track_read => k_is)
    (case rd_Track_read => k_is)
    (case ga_Track_read => k_is)
    (case l_Track_read => k_is)
    (case c_Track_read => k_is)
    (case k_Track_read => k_is)
    (case a_Track_length => k_is)
    (case pg_Track_length => k_is)
    (case pt_Track_length => k_is)
    (case pr_Track_length_at => k_is)
    (case l_Track_length => k_is)
    (case c_Track_length => k_is)
    (case k_Track_length => k_is)
    (case a_Track_passes => k_is)
    (case pg_Track_passes => k_is)
    (case pt_Track_passes => k_is)
    (case pr_Track_passes_at => k_is)
    (case l_Track_passes => k_is)
    (case c_Track_passes => k_is)
    (case k_Track_passes => k_is)
    (case a_Track_names => k_is)
    (case pg_Track_names => k_is)
    (case pt_Track_names => k_is)
    (case pr_Track_names_at => k_is)
    (case l_Track_names => k_is)
    (case c_Track_names => k_is)
    (case k_Track_names => k_is)
    (case a_Track_eq => k_is)
    (case i_Track_eq => k_is)
    (case l_Track_eq => k_is)
    (case c_Track_eq => k_is)
    (case k_Track_eq => k_is)
    (case a_Track_str => k_is)
    (case i_Track_str => k_is)
    (case l_Track_str => k_is)
    (case c_Track_str => k_is)
    (case k_Track_str => k_is)
    (case a_Track_known_place => k_is)
    (case i_Track_known_place => k_is)
    (case l_Track_known_place => k_is)
    (case c_Track_known_place => k_is)
    (case k_Track_known_place => k_is)
    (case a_Track_put => k_is)
    (case i_Track_put => k_is)
    (case l_Track_put => k_is)
    (case c_Track_put => k_is)
    (case k_Track_put => k_is)
    (case t_Track_put => k_is)
    (case a_Track_without => k_is)
    (case i_Track_without => k_is)
    (case l_Track_without => k_is)
    (case c_Track_without => k_is)
    (case k_Track_without => k_is)
    (case a_Track_moved => k_is)
    (case i_Track_moved => k_is)
    (case l_Track_moved => k_is)
    (case c_Track_moved => k_is)
    (case k_Track_moved => k_is)
    (case a_Track_changed => k_is)
    (case i_Track_changed => k_is)
    (case l_Track_changed => k_is)
    (case c_Track_changed => k_is)
    (case k_Track_changed => k_is)
    (case a_law_purse => k_is)
    (case l_law_purse => k_is)
    (case c_law_purse => k_is)
    (case k_law_purse => k_is)
    (case a_law_draw => k_is)
    (case l_law_draw => k_is)
    (case c_law_draw => k_is)
    (case k_law_draw => k_is)
    (case a_law_pick => k_is)
    (case l_law_pick => k_is)
    (case c_law_pick => k_is)
    (case k_law_pick => k_is)
    (case a_law_wide => k_is)
    (case l_law_wide => k_is)
    (case c_law_wide => k_is)
    (case k_law_wide => k_is)
    (case a_law_touches => k_is)
    (case l_law_touches => k_is)
    (case c_law_touches => k_is)
    (case k_law_touches => k_is)
    (case a_law_words => k_is)
    (case l_law_words => k_is)
    (case c_law_words => k_is)
    (case k_law_words => k_is)
    (case a_law_fader => k_is)
    (case l_law_fader => k_is)
    (case c_law_fader => k_is)
    (case k_law_fader => k_is)
    (case a_law_faders => k_is)
    (case l_law_faders => k_is)
    (case c_law_faders => k_is)
    (case k_law_faders => k_is)
    (case a_law_long => k_is)
    (case l_law_long => k_is)
    (case c_law_long => k_is)
    (case k_law_long => k_is)
    (case a_law_deed => k_is)
    (case l_law_deed => k_is)
    (case c_law_deed => k_is)
    (case k_law_deed => k_is)
    (case a_law_back => k_is)
    (case l_law_back => k_is)
    (case c_law_back => k_is)
    (case k_law_back => k_is)
    (case a_law_right => k_is)
    (case l_law_right => k_is)
    (case c_law_right => k_is)
    (case k_law_right => k_is)
    (case a_law => k_is)
    (case l_law => k_is)
    (case c_law => k_is)
    (case k_law => k_is)
    (case a_LETTERS => k_is)
    (case a_DIGITS => k_is)
    (case a_MOST_SIGNS => k_is)
    (case a_MOST_LENGTH => k_is)
    (case a_MOST_PASSES => k_is)
    (case a_MOST_TOUCHES => k_is)
    (case a_MOST_GLIDE => k_is)
    (case a_OLD => k_is)
    (case b_MODES => k_is)
    (case l_MODES => k_is)
    (case b_TAILS => k_is)
    (case l_TAILS => k_is)
    (case a_SIZE => k_is)
    (case b_PARTS => k_is)
    (case l_PARTS => k_is)
    (case kl_PARTS => exact ⟨⟨_, _, rfl, rfl⟩, ⟨⟨_, _, rfl, rfl⟩, ⟨⟨_, _, rfl, rfl⟩, ⟨⟨_, _, rfl, rfl⟩, ⟨⟨_, _, rfl, rfl⟩, ⟨⟨_, _, rfl, rfl⟩, True.intro⟩⟩⟩⟩⟩⟩)
    (case sm_PARTS => decide +kernel)
    (case i_PARTS_mode => k_is)
    (case i_PARTS_from => k_is)
    (case i_PARTS_to => k_is)
    (case i_PARTS_touches => k_is)
    (case i_PARTS_glide => k_is)
    (case i_PARTS_tail => k_is)
    (case a_MOST_DIGITS => k_is)
    (case a_FEWEST_WORDS => k_is)
    (case z_len => k_is)
    (case z_isinstance => k_is)
    (case z_int => k_is)
    (case z_bool => k_is)
    (case z_str => k_is)
    (case z_tuple => k_is)
    (case z_all => k_is)
    (case z_range => k_is)
    (case z_enumerate => k_is)
    (case z_abs => k_is)
    (case z_divmod => k_is)
    (case z_max => k_is)
    (case z_min => k_is)
    (case z_repr => k_is)
