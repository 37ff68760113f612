import PyProof.Rows.All
import Wide.All
import OpenK.AllK
import Wide.FinOn
import PySem.Challenge.RW_touchpasses_k11_whole_numbers_played
import HandS.List
import HandS.Comp
import HandS.Words
import HandS.Defaults
import HandS.OwnEq
import PyProof.ReprRoads
import PyProof.InstNe
import PyProof.StrLawsRepr
import HandS.Ends
import HandS.EndBits
import HandS.Property
import HandS.ForMost
import HandS.IsInst
import HandS.TupAny
import HandS.Wide
import HandS.Conv
import HandS.Gcd
import HandS.WrittenGet
import PyProof.P3In
import HandS.RaiseMore
import HandS.WideBits
import HandS.FStr
import HandS.Walk
import HandS.Style
import KE.GoesMore
import HandS.Zip
import HandS.MakeKw
import HandS.MakeKwOnly
import PyProof.ReprBulk
import PyProof.Rows.ReprShort
import KE.KUnpackStar
import HandS.Text
import PyProof.P3Eq
import HandS.CallLocal
import KE.KCallOwn
import HandS.ClsMeth
import HandS.Star
import KE.SortData
import HandS.TryOnly
import HandS.More
import HandS.SetFor
import HandS.Strs
import PyProof.Rows.SortShellAny
import OpenK.KMeth
import HandS.DictComp
import HandS.Flow
import HandS.Small
set_option Elab.async false
set_option linter.all false
set_option maxRecDepth 100000
namespace L2
open PySem PySem.Spec PyProof.Rows
/-- all that was tracked is as it was, but what stands at p -/
def Sm (p : Addr) (H H' : Hp) : Prop := ∀ b o, b ≠ p → H b = some o → H' b = some o
theorem Sm.refl (p : Addr) (H : Hp) : Sm p H H := fun _ _ _ h => h
theorem Sm.trans {p : Addr} {H H1 H2 : Hp} (a : Sm p H H1) (b : Sm p H1 H2) : Sm p H H2 := fun c o n h => b c o n (a c o n h)
theorem Sm.of_same {p : Addr} {H H' : Hp} (h : Same H H') : Sm p H H' := fun b o _ e => h b o e
theorem Sm.new {p q : Addr} {H : Hp} {o : HO} (h : H q = none) : Sm p H (upd H q o) := fun b u _ e => by
  rw [upd_ne (ne_of_none e h)]; exact e
theorem Sm.at {p : Addr} {H : Hp} {o : HO} : Sm p H (upd H p o) := fun b u n e => by
  rw [upd_ne n]; exact e
theorem Sm.free {p : Addr} {H H' : Hp} {o : HO} (e : Sm p H H') (hp : H' p = some o) {l : Addr} (h : H' l = Option.none) : H l = Option.none := by
  by_cases q : l = p
  · subst q; rw [hp] at h; cases h
  · cases z : H l with
    | none => rfl
    | some o' => rw [e l o' q z] at h; cases h
theorem same_new {H : Hp} {p : Addr} {o : HO} (h : H p = none) : Same H (upd H p o) := fun b x e => by
  rw [upd_ne (ne_of_none e h)]; exact e
theorem Same.new {H H1 : Hp} {p : Addr} {o : HO} (x : Same H H1) (h : H1 p = none) : Same H (upd H1 p o) := x.trans (same_new h)
theorem Same.seqT {K : PySem.W.Frag} {H H' : Hp} {a : Addr} {xs : List V} (e : Same H H') (h : SqT K H a xs) : SqT K H' a xs := by
  rcases h with (h | ⟨o, h⟩) | h
  · exact .inl (.inl (e _ _ h))
  · exact .inl (.inr ⟨o, e _ _ h⟩)
  · exact .inr h
theorem Sm.seq {K : PySem.W.Frag} {p : Addr} {H H' : Hp} {a : Addr} {xs : List V} (e : Sm p H H') (n : a ≠ p) (h : SqL K H a xs) : SqL K H' a xs := by
  rcases h with (h | ⟨o, h⟩) | h
  · exact .inl (.inl (e _ _ n h))
  · exact .inl (.inr ⟨o, e _ _ n h⟩)
  · exact .inr h
theorem Sm.seqT {K : PySem.W.Frag} {p : Addr} {H H' : Hp} {a : Addr} {xs : List V} (e : Sm p H H') (n : a ≠ p) (h : SqT K H a xs) : SqT K H' a xs := by
  rcases h with (h | ⟨o, h⟩) | h
  · exact .inl (.inl (e _ _ n h))
  · exact .inl (.inr ⟨o, e _ _ n h⟩)
  · exact .inr h
/-- a text that data may hold -/
abbrev Sok (x : Str) : Prop := x.length ≤ 100000 ∧ PyData.strOk x = true
mutual
inductive Dn (K : PySem.W.Frag) (p : Addr) (H : Hp) : V → PyData → Prop
  | non : Dn K p H .non .none
  | bl (b : Bool) : Dn K p H (.bl b) (.bool b)
  | int (i : Int) : Dn K p H (.int i) (.int i)
  | str (x : Str) : Sok x → Dn K p H (.str x) (.str x)
  | lst {a : Addr} {xs : List V} {ds : List PyData} : a ≠ p → SqL K H a xs → DnAll K p H xs ds → Dn K p H (.ref a) (.list ds)
  | tup {a : Addr} {xs : List V} {ds : List PyData} : SqT K H a xs → DnAll K p H xs ds → Dn K p H (.ref a) (.tuple ds)
  | dic {a : Addr} {kvs : List (Key × V)} {ks vs : List PyData} : H a = some (.dK kvs) → DnAll K p H (kvs.map fun q => kV q.1) ks → DnAll K p H (kvs.map (·.2)) vs → Dn K p H (.ref a) (.dict (ks.zip vs))
inductive DnAll (K : PySem.W.Frag) (p : Addr) (H : Hp) : List V → List PyData → Prop
  | nil : DnAll K p H [] []
  | cons {v : V} {vs : List V} {d : PyData} {ds : List PyData} : Dn K p H v d → DnAll K p H vs ds → DnAll K p H (v :: vs) (d :: ds)
end
section
variable {K : PySem.W.Frag} {p : Addr} {H H' : Hp}
theorem DnAll.length : ∀ {vs : List V} {ds : List PyData}, DnAll K p H vs ds → vs.length = ds.length
  | _, _, .nil => rfl
  | _, _, .cons _ t => by rw [List.length_cons, List.length_cons, DnAll.length t]
theorem DnAll.get : ∀ {vs : List V} {ds : List PyData} {i : Nat} {v : V}, DnAll K p H vs ds → vs[i]? = some v → ∃ d, ds[i]? = some d ∧ Dn K p H v d
  | _, _, _, _, .nil, e => by simp at e
  | _, _, 0, _, .cons r _, e => by simp at e; subst e; exact ⟨_, rfl, r⟩
  | _, _, i + 1, v, .cons _ t, e => by
    obtain ⟨u, h1, h2⟩ := DnAll.get (i := i) (v := v) t (by simpa using e)
    exact ⟨u, by simpa using h1, h2⟩
theorem DnAll.getD : ∀ {vs : List V} {ds : List PyData} {i : Nat} {d : PyData}, DnAll K p H vs ds → ds[i]? = some d → ∃ v, vs[i]? = some v ∧ Dn K p H v d
  | _, _, _, _, .nil, e => by simp at e
  | _, _, 0, _, .cons r _, e => by simp at e; subst e; exact ⟨_, rfl, r⟩
  | _, _, i + 1, v, .cons _ t, e => by
    obtain ⟨u, h1, h2⟩ := DnAll.getD (i := i) (d := v) t (by simpa using e)
    exact ⟨u, by simpa using h1, h2⟩
theorem DnAll.append : ∀ {vs us : List V} {ds es : List PyData}, DnAll K p H vs ds → DnAll K p H us es → DnAll K p H (vs ++ us) (ds ++ es)
  | _, _, _, _, .nil, s => s
  | _, _, _, _, .cons r t, s => .cons r (DnAll.append t s)
theorem DnAll.take : ∀ {vs : List V} {ds : List PyData} (n : Nat), DnAll K p H vs ds → DnAll K p H (vs.take n) (ds.take n)
  | _, _, 0, _ => .nil
  | _, _, _ + 1, .nil => .nil
  | _, _, n + 1, .cons r t => .cons r (DnAll.take n t)
theorem DnAll.drop : ∀ {vs : List V} {ds : List PyData} (n : Nat), DnAll K p H vs ds → DnAll K p H (vs.drop n) (ds.drop n)
  | _, _, 0, r => r
  | _, _, _ + 1, .nil => .nil
  | _, _, n + 1, .cons _ t => DnAll.drop n t
/-- p is a list -/
def Pl (H : Hp) (p : Addr) : Prop := ∃ l, H p = some (.lst l)
theorem Pl.same {H H' : Hp} {p : Addr} (h : Pl H p) (e : Same H H') : Pl H' p := h.elim fun l q => ⟨l, e _ _ q⟩
theorem Sm.tup {K : PySem.W.Frag} {p : Addr} {H H' : Hp} {a : Addr} {xs : List V} (e : Sm p H H') (hp : Pl H p) (h : SqT K H a xs) : SqT K H' a xs := by
  obtain ⟨l, hp⟩ := hp
  rcases h with (h | ⟨o, h⟩) | h
  · exact .inl (.inl (e _ _ (by rintro rfl; rw [hp] at h; cases h) h))
  · exact .inl (.inr ⟨o, e _ _ (by rintro rfl; rw [hp] at h; cases h) h⟩)
  · exact .inr h
theorem Sm.dic {p : Addr} {H H' : Hp} {a : Addr} {kvs : List (Key × V)} (e : Sm p H H') (hp : Pl H p) (h : H a = some (.dK kvs)) : H' a = some (.dK kvs) := by
  obtain ⟨l, hp⟩ := hp
  exact e _ _ (by rintro rfl; rw [hp] at h; cases h) h
mutual
theorem Dn.sm (e : Sm p H H') (hp : Pl H p) : ∀ {v : V} {d : PyData}, Dn K p H v d → Dn K p H' v d
  | _, _, .non => .non
  | _, _, .bl b => .bl b
  | _, _, .int i => .int i
  | _, _, .str x h => .str x h
  | _, _, .lst n h a => .lst n (e.seq n h) (DnAll.sm e hp a)
  | _, _, .tup h a => .tup (e.tup hp h) (DnAll.sm e hp a)
  | _, _, .dic h a b => .dic (e.dic hp h) (DnAll.sm e hp a) (DnAll.sm e hp b)
theorem DnAll.sm (e : Sm p H H') (hp : Pl H p) : ∀ {vs : List V} {ds : List PyData}, DnAll K p H vs ds → DnAll K p H' vs ds
  | _, _, .nil => .nil
  | _, _, .cons r t => .cons (Dn.sm e hp r) (DnAll.sm e hp t)
end
mutual
theorem Dn.same (e : Same H H') : ∀ {v : V} {d : PyData}, Dn K p H v d → Dn K p H' v d
  | _, _, .non => .non
  | _, _, .bl b => .bl b
  | _, _, .int i => .int i
  | _, _, .str x h => .str x h
  | _, _, .lst n h a => .lst n (e.seq h) (DnAll.same e a)
  | _, _, .tup h a => .tup (e.seqT h) (DnAll.same e a)
  | _, _, .dic h a b => .dic (e _ _ h) (DnAll.same e a) (DnAll.same e b)
theorem DnAll.same (e : Same H H') : ∀ {vs : List V} {ds : List PyData}, DnAll K p H vs ds → DnAll K p H' vs ds
  | _, _, .nil => .nil
  | _, _, .cons r t => .cons (Dn.same e r) (DnAll.same e t)
end
end
section
variable {X : Cx} {pins : List (Addr × Obj)} {σ : St} {H : Hp} {s : Shared} {p : Addr}
mutual
/-- data without dicts is read -/
theorem Dn.reads (I : Inv X pins σ H s) : ∀ (d : PyData) (v : V) (u : Value), d.hasDict = false → Dn X.K p H v d → RelV v u → ∃ as, Reads s.heap u d as
  | .none, _, _, _, h, r => by
    cases h
    cases r
    exact ⟨_, Reads.none⟩
  | .bool b, _, _, _, h, r => by
    cases h
    cases r
    exact ⟨_, Reads.bool b⟩
  | .int i, _, _, _, h, r => by
    cases h
    obtain ⟨t, rfl⟩ := r
    exact ⟨_, Reads.int i t⟩
  | .str x, _, _, _, h, r => by
    cases h
    obtain ⟨t, rfl⟩ := r
    exact ⟨_, Reads.str x t⟩
  | .list ds, _, _, z, h, r => by
    cases h with
    | lst _ hs ha =>
      cases r
      obtain ⟨its, rv, ⟨o, n, ho, hc, _, hd⟩, _⟩ := I.list hs
      obtain ⟨as, hr⟩ := Dn.readsAll I ds _ its (by simpa only [PyData.hasDict] using z) ha rv
      exact ⟨_, Reads.list ho hc hd hr⟩
  | .tuple ds, _, _, z, h, r => by
    cases h with
    | tup hs ha =>
      cases r
      obtain ⟨its, rv, ⟨o, ho, hc, n, hd⟩, _⟩ := I.tuple hs
      obtain ⟨as, hr⟩ := Dn.readsAll I ds _ its (by simpa only [PyData.hasDict] using z) ha rv
      exact ⟨_, Reads.tuple ho hc hd hr⟩
  | .dict _, _, _, z, h, _ => by simp [PyData.hasDict] at z
theorem Dn.readsAll (I : Inv X pins σ H s) : ∀ (ds : List PyData) (vs : List V) (us : List Value), PyData.hasDictAll ds = false → DnAll X.K p H vs ds → Vals vs us → ∃ as, ReadsAll s.heap us ds as
  | [], _, _, _, h, r => by
    cases h
    cases r
    exact ⟨_, ReadsAll.nil⟩
  | d :: ds, _, _, z, h, r => by
    have z' : d.hasDict = false ∧ PyData.hasDictAll ds = false := by simpa [PyData.hasDictAll] using z
    cases h with
    | cons h1 h2 =>
      cases r with
      | cons r1 r2 =>
        obtain ⟨as, q1⟩ := Dn.reads I d _ _ z'.1 h1 r1
        obtain ⟨bs, q2⟩ := Dn.readsAll I ds _ _ z'.2 h2 r2
        exact ⟨_, ReadsAll.cons q1 q2⟩
end
/-- * of two ints that are not too big together -/
def CMulKb (i j : Int) : Prop := Builtin.Int.intBits i + Builtin.Int.intBits j ≤ 100000000
theorem CMulKb.ok {i j : Int} (h : CMulKb i j) : IntMulOk i j := by
  have h3 : Builtin.Int.intBits i + Builtin.Int.intBits j ≤ 100000000 := h
  have e : bitsLine = 134217728 := by decide
  unfold IntMulOk
  intro z
  rw [Bool.and_eq_true] at z
  have z2 := z.2
  unfold Builtin.Int.intTooBig at z2
  have z3 := of_decide_eq_true z2
  rw [e] at z3
  omega
theorem op_mulKb : OpR X (binaryOp .Mult) (rI CMulKb fun i j => .int (i * j)) := opI fun _ _ _ _ _ _ _ hc q => mul_int q hc.ok
end
end L2
namespace L2
open PySem PySem.Spec PyProof.Rows
structure FnG (P : Program) (w : World) (K : PySem.W.Frag) (mg : Str → Option Value) (base : Heap) (CX : CXT) (k : Nat) (f : Addr) (fd : FuncData) (ps : List Str) (sp : Sp) : Prop where
  size : ∀ vs H Q E, sp vs H Q E → vs.length = ps.length
  runs : ∀ (A : Around) (outer : List Env) (s : Shared) (H : Hp) (args : Args) (us : List Value) (vs : List V) (Q : VK) (E : XK),
    A.guards = some [] → Room k A → Env0 P w K mg base A outer s H → BindsTo s fd args (ps.zip us) → Vals vs us → sp vs H Q E →
    codeAny (model P w) A (.call (.ref f) args) (CR CX outer P w H s Q E) s
section
variable {P : Program} {w : World} {K : PySem.W.Frag} {mg : Str → Option Value} {base : Heap} {CX : CXT}
theorem FnG.of {k : Nat} {f : Addr} {fd : FuncData} {ps : List Str} {sp : Sp} (F : FnOk P w K mg base CX k f fd ps sp) : FnG P w K mg base CX k f fd ps sp :=
  ⟨F.len, fun A o s H args us vs Q E _ r => F.run A o s H args us vs Q E r⟩
/-- a def's body keeps it; in the body guards are known -/
theorem Fun.okG {x qual : Str} {st : Stmt} {f : Addr} {fd : FuncData} {N ps : List Str} {k : Nat} {sp : Sp} (F : Fun K x qual st f fd) (S : FnScope N ps (defScope st)) (len : ∀ vs H Q E, sp vs H Q E → vs.length = ps.length)
    (body : ∀ (cdv : Value) (A : Around) (outer : List Env) (s : Shared) (H : Hp) (vs : List V) (Q : VK) (E : XK), A.guards = some [] → Room k (A.deeper (envOfC qual (defScope st) s.heap.objs.size f cdv)) → sp vs H Q E →
      ∃ t, PSs (cxOf CX P w K mg base N qual (defScope st) f cdv A outer s H E) (defBody st) t ∧ t { nx := fun _ H' => Q .non H', rt := Q } (start N vs) H) : FnG P w K mg base CX (k + 1) f fd ps sp := by
  obtain ⟨oc, od, kV, doc, pm, an, cdv, ct, osl, rfl, lk, hcd⟩ := F.ex
  refine ⟨len, fun A outer s H args us vs Q E hg hr e0 hb r hsp => ?_⟩
  have KX : K.In s.heap := e0.mod.kin.keeps fun b o e => (e0.bs b o e).1
  have lim : s.heap.NoLimit := e0.mod.nolimit.keeps fun b o e => (e0.bs b o e).1
  have hk : ∀ y ∈ ps.zip us, (defScope st).names.lookup y.1 = some .local ∨ ((defScope st).names.lookup y.1 = some .cell ∧ ((cellsFrom (s.heap.objs.size + 1) (defScope st).names []).lookup y.1).isSome = true) := by
    rintro ⟨n, v⟩ hy
    exact (S.par n (List.of_mem_zip hy).1).elim .inl fun q => .inr ⟨q, PySem.W.cellsFrom_some _ _ _ (.inl q)⟩
  refine codeAny_call_function hr.depth (KX _ _ lk) rfl S.co S.gen rfl (PySem.W.codeRec_of KX hcd) (hb _ _ _ _ (wpAny_newFunctionEnv_cells S.kind hk fun env he s1 x => ?_))
  subst he
  obtain ⟨t, ht, hq⟩ := body cdv A outer s H vs Q E hg (hr.deeper _) hsp
  have I := inv_start (CX := CX) (E := E) S hr.hd e0 (len _ _ _ _ hsp) r x
  refine ⟨lim.keeps x.toInCall.keep, codeAny_func (wpAny_mono (ht.run [] s1 (start N vs) H _ I hq) (fun fl s' hs => ?_) fun e s' hs => hs)⟩
  cases fl
  case ret u =>
    obtain ⟨v, σ', H', J, rv, q⟩ := hs
    exact ⟨v, H', J.os, J.bare, J.base, J.hok, rv, q⟩
  case next =>
    obtain ⟨σ', H', J, q⟩ := hs
    exact ⟨V.non, H', J.os, J.bare, J.base, J.hok, rfl, q⟩
  case brk => exact hs.elim fun _ z => z.elim fun _ z => z.2.elim
  case cont => exact hs.elim fun _ z => z.elim fun _ z => z.2.elim
end
section
variable {X : Cx} {CX : CXT} {k : Nat} {f : Addr} {fd : FuncData} {ps : List Str} {sp : Sp} {dvs : List V} {ds : List Value} {E : XK} {x : Str} {p pos : Pos} {e : Expr} {es : List Expr} {t : TA}
theorem pe_callG (hgd : X.A.guards = some []) (F : FnG X.prog X.w X.K X.mg X.base CX k f fd ps sp) (hr : Room k X.A) (hg : Gl X x) (hm : X.mg x = some (.ref f)) (hk : PySem.W.keepIn X.K (.ref f) = true) (hb : Binds X.K fd ps ds) (hd : Vals dvs ds) (hx : Passes CX X E)
    (ha : PA X (e :: es) t) (hdb : (x == ("__debug__" : Str)) = false := by decide) (he : starEach (e :: es) X.env = (false, eval e X.env) :: starEach es X.env := by rfl)
    (hpl : (backTo pos (starEach es X.env)).any (·.1) = false := by rfl) : PE X (.Call (.Name x p) (e :: es) [] pos) (tCall sp dvs E t) := by
  refine ⟨fun pins s σ H Q I h => wpAny_Call_Name_kw (ld_glob I hg hm ?_ hdb)⟩
  refine PySem.W.callWith_K (h₀ := X.base) I.ok.mod.kin hk (thn (ha.run pos pins s σ H _ I h) fun us s1 ⟨vs, H1, I1, r, q⟩ => ⟨I1.kIn, ?_⟩) he hpl
  have r2 := r.append hd
  have hl : (us ++ ds).length = ps.length := r2.length.symm.trans (F.size _ _ _ _ q)
  refine wpAny_call (codeAny_mono (F.runs X.A X.stack s1 H1 ⟨us, []⟩ _ _ Q E hgd hr I1.env0 (hb s1 us I1.kIn hl) r2 q) fun r s' hq => ?_)
  cases r
  case error e => exact hx pins σ H1 s1 e s' I1 hq
  case ok fl =>
    cases fl
    case ret u => exact I1.after hq
    all_goals exact hq.elim
end
theorem law_callG {P : Program} {w : World} {K : PySem.W.Frag} {mg mb : Str → Option Value} {CX : CXT} {k : Nat} {fa a : Addr} {fd : FuncData} {x : Str} {sp : Sp} {s₁ : Shared} {vs : List Value} {ns : List Int}
    (KX : K.In s₁.heap) (hns : s₁.heap.Ns mainGlobals mg) (hb : s₁.heap.Ns builtinsNs mb) (hbb : ∀ x : Str, x ≠ "__name__" → mb x = bootBuiltins x) (hlim : s₁.heap.NoLimit) (hg : s₁.gens = #[])
    (ha : s₁.heap.get? a = some { cls := .type "list", data := .seq vs.toArray }) (hi : IntsAre vs ns) (hl : ns.length ≤ sizeLine) (hr : Room k callerA)
    (F : ∀ base : Heap, K.In base → base.Ns mainGlobals mg → FnG P w K mg base CX k fa fd [x] sp) (hbind : ∀ (s : Shared) (u : Value), BindsTo s fd ⟨[u], []⟩ [(x, u)])
    (hsp : ∀ H : Hp, Only H → SqL K H a (ns.map V.int) → sp [.ref a] H (fun v _ => v = .bl true) fun _ _ _ => False)
    (hCX : ∀ H e s', CX [] H s₁ (fun _ _ _ => False) e s' → False) :
    codeAny (model P w) callerA (.call (.ref fa) ⟨[.ref a], []⟩) (fun r s' => r = .ok (.ret (.bool true)) ∧ OldK s₁.heap s'.heap ∧ s'.os = s₁.os ∧ AllBare s'.gens) s₁ := by
  have rv := vals_ints hi
  have lenV := hi.length
  -- H tracks nothing, or the script alone
  have core : ∀ H : Hp, Only H → SqL K H a (ns.map V.int) → HOk P w H s₁.heap → (∀ b, H b ≠ none → b = a ∧ K.lookup a = none) →
      codeAny (model P w) callerA (.call (.ref fa) ⟨[.ref a], []⟩) (fun r s' => r = .ok (.ret (.bool true)) ∧ OldK s₁.heap s'.heap ∧ s'.os = s₁.os ∧ AllBare s'.gens) s₁ := by
    intro H hO hS hok hA
    have free : ∀ {b : Addr} {o : Obj}, s₁.heap.get? b = some o → (∀ l, o.data ≠ .seq vs.toArray l) → H b = none := fun {b o} e d => by
      cases q : H b with
      | none => rfl
      | some u =>
        obtain ⟨rfl, _⟩ := hA b (by rw [q]; exact Option.some_ne_none _)
        rw [ha] at e
        cases e
        exact absurd rfl (d _)
    have nsK : ∀ {b : Addr} {m : Str → Option Value}, s₁.heap.Ns b m → (hidT s₁.heap H).Ns b m := fun ⟨o, es, ep, e, d, r⟩ => ⟨o, es, ep, hidT_get e (free e fun l z => by rw [d] at z; cases z), d, r⟩
    have hKb : K.In (hidT s₁.heap H) := fun b o e => hidT_get (KX b o e) (by
      cases q : H b with
      | none => rfl
      | some u =>
        obtain ⟨rfl, z⟩ := hA b (by rw [q]; exact Option.some_ne_none _)
        rw [z] at e
        cases e)
    have hM : Mod K mg (hidT s₁.heap H) := ⟨hKb, nsK hns, ⟨mb, nsK hb, hbb⟩, hlim.elim fun mc h => ⟨mc, nsK h.1, h.2⟩⟩
    have e0 : Env0 P w K mg (hidT s₁.heap H) callerA [] s₁ H := ⟨rfl, hM, fun b o e => of_hidT e, Nat.le_of_eq (hidT_size _ _), trivial, fun b hb => absurd (show b ∈ ([] : List Addr) from hb) (by simp), hok, .of_eq hg⟩
    refine codeAny_mono ((F _ hKb (nsK hns)).runs callerA [] s₁ H ⟨[.ref a], []⟩ [.ref a] [.ref a] _ _ rfl hr e0 (hbind s₁ (.ref a)) (.cons rfl .nil) (hsp H hO hS)) fun r s' h => ?_
    cases r
    case error e => exact (hCX H e s' h).elim
    case ok fl =>
      cases fl
      case ret u =>
        obtain ⟨v, H', os, bare, un, hok', r', q⟩ := h
        obtain rfl : v = .bl true := q
        obtain rfl : u = Value.bool true := r'
        refine ⟨rfl, OldK.of_keep fun b o e => ?_, os, bare⟩
        rcases hO b with q | ⟨ob, xs, q⟩
        · exact un.keep b o e q (fun z => absurd (show b ∈ ([] : List Addr) from z) (by simp)) (by simp)
        · obtain ⟨e1, _⟩ := hok b _ q
          obtain ⟨e2, _⟩ := hok' b _ (un.frzs b ob _ q)
          rw [e] at e1
          cases e1
          exact e2
      all_goals exact h.elim
  cases hk : K.lookup a with
  | some o =>
    have e := KX a o hk
    rw [ha] at e
    cases e
    exact core (fun _ => none) (fun _ => .inl rfl) (.inr ⟨_, vs.toArray, _, hk, rfl, rfl, rfl, by rw [List.size_toArray, lenV]; exact hl, by simpa using rv⟩) (fun b u z => by cases (show (none : Option HO) = some u from z)) fun b z => absurd rfl z
  | none =>
    have at_ : ∀ b, (fun b => if b = a then some (HO.frz { cls := .type "list", data := .seq vs.toArray } (.lst (ns.map V.int))) else none) b ≠ none → b = a := fun b z => by
      by_cases q : b = a
      · exact q
      · exact absurd (if_neg q) z
    refine core (fun b => if b = a then some (.frz { cls := .type "list", data := .seq vs.toArray } (.lst (ns.map V.int))) else none) (fun b => ?_) (.inl (.inr ⟨{ cls := .type "list", data := .seq vs.toArray }, if_pos rfl⟩)) (fun b u z => ?_) fun b z => ⟨at_ b z, hk⟩
    · by_cases q : b = a
      · exact .inr ⟨_, _, if_pos q⟩
      · exact .inl (if_neg q)
    · have q : b = a := at_ b (by rw [z]; exact Option.some_ne_none _)
      subst q
      have z' := (if_pos rfl).symm.trans z
      cases z'
      exact ⟨ha, by rw [List.length_map]; exact hl, vs, _, rv, ha⟩
theorem walk_ofG {l : PySem.W.OpenLaw} {n k : Nat} {q : Program} {loose : List Str} {XP : (Str → Option Value) → Heap → Prop} {YP : World → Heap → Prop} {d : DefRec} {K : Params → PySem.W.Frag} {CX : World → CXT} {sp : World → Sp} {x : Str}
    (hn : l.most = some n) (hn2 : n ≤ sizeLine) (hdf : d.params.defaults = []) (hr : Room k callerA)
    (hY : ∀ (w : World) (h : Heap), YP w h → (K w.params).In h)
    (F : ∀ (w : World) (mg : Str → Option Value) (fa : Addr) (h : Heap), (K w.params).In h → h.Ns mainGlobals mg → mg d.name = some (.ref fa) →
      ∃ fd : FuncData, (∀ (s : Shared) (u : Value), BindsTo s fd ⟨[u], []⟩ [(x, u)]) ∧
        ∀ base : Heap, (K w.params).In base → base.Ns mainGlobals mg → FnG l.prog w (K w.params) mg base (CX w) k fa fd [x] (sp w))
    (hsp : ∀ (w : World) (H : Hp) (a : Addr) (ns : List Int), ns.length ≤ n → (∀ z ∈ ns, Builtin.Int.intBits z ≤ 1048576) → Only H → SqL (K w.params) H a (ns.map V.int) → sp w [.ref a] H (fun v _ => v = .bl true) fun _ _ _ => False)
    (hCX : ∀ (w : World) (H : Hp) (s : Shared) (e : Value) (s' : Shared), CX w [] H s (fun _ _ _ => False) e s' → False) :
    PySem.W.WalkO q loose XP YP l.row.toRowW d [] (fun f vs => PySem.call f vs) := by
  refine Att.attach_callB hn hdf fun w s₀ s₁ mg mb fa o pm cd doc a vs ns G Y ho hd hcd hmg hobj hints hlen hbits hg => ?_
  obtain ⟨fd, hb, hF⟩ := F w mg fa _ (hY w _ Y) G.T.g hmg
  exact law_callG (hY w _ Y) G.T.g G.T.b G.T.builtins G.T.nolimit hg hobj hints (Nat.le_trans hlen hn2) hr hF hb (fun H hO hS => hsp w H a ns hlen hbits hO hS) fun H e s' => hCX w H s₁ e s'
end L2
namespace L2
open PySem PySem.Spec PyProof.Rows
/-- a def of the module -/
structure Df (K : PySem.W.Frag) (mg : Str → Option Value) (x : Str) (st : Stmt) (ps : List Str) where
  f : Addr
  fd : FuncData
  F : Fun K x x st f fd
  g : mg x = some (.ref f)
  b : Binds K fd ps []
/-- a method whose last parameter has the default v -/
structure Dd (K : PySem.W.Frag) (C : Addr) (x qual : Str) (st : Stmt) (ps : List Str) (v : V) where
  f : Addr
  fd : FuncData
  F : FunD K x qual (defArgs st) (defBody st) (defScope st) [v] [] f fd
  m : Meth K C x f
  b : Binds K fd ps []
  b1 : ∃ ds, Vals [v] ds ∧ Binds K fd ps ds
/-- a property -/
structure Dp' (K : PySem.W.Frag) (C : Addr) (x qual : Str) (st : Stmt) where
  f : Addr
  fd : FuncData
  F : Fun K x qual st f fd
  p : Addr
  P : PropOf K C x p f
  b : Binds K fd ["self"] []
/-- a constant -/
structure Ci (mg : Str → Option Value) (x : Str) (n : Int) where
  t : Tok
  g : mg x = some (.int n t)
structure Cs (mg : Str → Option Value) (x : Str) (z : Str) where
  t : Tok
  g : mg x = some (.str z t)
structure Ct (K : PySem.W.Frag) (mg : Str → Option Value) (x : Str) (vs : List V) where
  a : Addr
  g : mg x = some (.ref a)
  q : ∀ H : Hp, SqT K H a vs
end L2
set_option autoImplicit false
namespace DL
open PySem PySem.Spec PyProof.Rows L2
inductive D where
  | non | bl (b : Bool) | int (i : Int) | str (x : Str)
  | tup (ds : List D) | lst (ds : List D)
  | dic (ks : List Key) (vs : List D) | dit (ks : List (List Key)) (vs : List D)
  | ins (C : Addr) (ns : List Str) (vs : List D)
  | cls (a : Addr) | ty (n : String) | scr (ns : List Int)
/-- what is frozen of a heap (the script) -/
def fz (H : Hp) : Hp := fun b => match H b with
  | some (.frz o u) => some (.frz o u)
  | _ => none
theorem fz_some {H : Hp} {b : Addr} {o : HO} (h : fz H b = some o) : ∃ ob u, o = .frz ob u ∧ H b = some (.frz ob u) := by
  unfold fz at h
  split at h
  · rename_i ob u e
    cases h
    exact ⟨ob, u, rfl, e⟩
  · cases h
theorem fz_of {H : Hp} {b : Addr} {ob : Obj} {u : HO} (h : H b = some (.frz ob u)) : fz H b = some (.frz ob u) := by
  unfold fz
  rw [h]
theorem fz_mono {K : PySem.W.Frag} {H H' : Hp} {a : Addr} {xs : List V} (e : ∀ b o u, H b = some (.frz o u) → H' b = some (.frz o u)) (h : SqL K (fz H) a xs) : SqL K (fz H') a xs := by
  rcases h with (h | ⟨o, h⟩) | h
  · obtain ⟨_, _, z, _⟩ := fz_some h
    cases z
  · obtain ⟨ob, u, z, w⟩ := fz_some h
    cases z
    exact .inl (.inr ⟨_, fz_of (e _ _ _ w)⟩)
  · exact .inr h
theorem fz_sub {K : PySem.W.Frag} {H : Hp} {a : Addr} {xs : List V} (h : SqL K (fz H) a xs) : SqL K H a xs := by
  rcases h with (h | ⟨o, h⟩) | h
  · obtain ⟨_, _, z, _⟩ := fz_some h
    cases z
  · obtain ⟨ob, u, z, w⟩ := fz_some h
    cases z
    exact .inl (.inr ⟨_, w⟩)
  · exact .inr h
instance : Inhabited D := ⟨.non⟩
mutual
/-- v stands for d, and leans on no list, dict or instance of M -/
inductive Dat (K : PySem.W.Frag) (M : Addr → Prop) (H : Hp) : V → D → Prop
  | non : Dat K M H .non .non
  | bl (b : Bool) : Dat K M H (.bl b) (.bl b)
  | int (i : Int) : Dat K M H (.int i) (.int i)
  | str (x : Str) : Dat K M H (.str x) (.str x)
  | tup {a : Addr} {xs : List V} {ds : List D} : SqT K H a xs → DatAll K M H xs ds → Dat K M H (.ref a) (.tup ds)
  | lst {a : Addr} {xs : List V} {ds : List D} : ¬ M a → H a = some (.lst xs) → DatAll K M H xs ds → Dat K M H (.ref a) (.lst ds)
  | dic {a : Addr} {kvs : List (Key × V)} {ks : List Key} {ds : List D} : ¬ M a → Rd H a (.dK kvs) → kvs.map (·.1) = ks → DatAll K M H (kvs.map (·.2)) ds → Dat K M H (.ref a) (.dic ks ds)
  | dit {a : Addr} {kvs : List (List Key × V)} {ks : List (List Key)} {ds : List D} : ¬ M a → Rd H a (.dT kvs) → kvs.map (·.1) = ks → DatAll K M H (kvs.map (·.2)) ds → Dat K M H (.ref a) (.dit ks ds)
  | ins {a C dx : Addr} {fs : List (Str × V)} {ns : List Str} {ds : List D} : ¬ M a → H a = some (.ins C dx fs) → fs.map (·.1) = ns → DatAll K M H (fs.map (·.2)) ds → Dat K M H (.ref a) (.ins C ns ds)
  | cls (a : Addr) : Dat K M H (.ref a) (.cls a)
  | ty (n : String) : Dat K M H (.ty n) (.ty n)
  | scr {a : Addr} {ns : List Int} : SqL K (fz H) a (ns.map V.int) → Dat K M H (.ref a) (.scr ns)
inductive DatAll (K : PySem.W.Frag) (M : Addr → Prop) (H : Hp) : List V → List D → Prop
  | nil : DatAll K M H [] []
  | cons {v : V} {vs : List V} {d : D} {ds : List D} : Dat K M H v d → DatAll K M H vs ds → DatAll K M H (v :: vs) (d :: ds)
end
/-- what may change -/
def MutK : HO → Prop
  | .lst _ | .dK _ | .dT _ | .ins _ _ _ => True
  | _ => False
/-- what stands at M may change -/
def Kind (M : Addr → Prop) (H : Hp) : Prop := ∀ b, M b → ∃ o, H b = some o ∧ MutK o
/-- from (M, H) on: what is not of M stays; only new objects come to M -/
structure Ev (M : Addr → Prop) (H : Hp) (M' : Addr → Prop) (H' : Hp) : Prop where
  m : ∀ b, M' b → M b ∨ H b = none
  h : ∀ b o, ¬ M b → H b = some o → H' b = some o
section
variable {K : PySem.W.Frag} {M M' M1 M2 : Addr → Prop} {H H' H1 H2 : Hp}
theorem Ev.refl : Ev M H M H := ⟨fun _ h => .inl h, fun _ _ _ h => h⟩
theorem Ev.trans (a : Ev M H M1 H1) (b : Ev M1 H1 M2 H2) : Ev M H M2 H2 := by
  refine ⟨fun c h => ?_, fun c o n e => ?_⟩
  · rcases b.m c h with h | h
    · exact a.m c h
    · by_cases z : M c
      · exact .inl z
      · cases q : H c with
        | none => exact .inr rfl
        | some o => rw [a.h c o z q] at h; cases h
  · refine b.h c o (fun z => ?_) (a.h c o n e)
    rcases a.m c z with z | z
    · exact n z
    · rw [e] at z; cases z
theorem Ev.same (s : Same H H') : Ev M H M H' := ⟨fun _ h => .inl h, fun b o _ e => s b o e⟩
theorem Ev.less (s : ∀ b, M' b → M b) : Ev M H M' H := ⟨fun b h => .inl (s b h), fun _ _ _ e => e⟩
theorem Ev.not (e : Ev M H M' H') {b : Addr} {o : HO} (n : ¬ M b) (h : H b = some o) : ¬ M' b := fun z => by
  rcases e.m b z with z | z
  · exact n z
  · rw [h] at z; cases z
theorem Ev.rd (e : Ev M H M' H') {b : Addr} {u : HO} (n : ¬ M b) (h : Rd H b u) : Rd H' b u := by
  rcases h with h | ⟨o, h⟩
  · exact .inl (e.h _ _ n h)
  · exact .inr ⟨o, e.h _ _ n h⟩
theorem rd_some {b : Addr} {u : HO} (h : Rd H b u) : ∃ o, H b = some o := by
  rcases h with h | ⟨o, h⟩
  · exact ⟨_, h⟩
  · exact ⟨_, h⟩
theorem Kind.notTup (k : Kind M H) {b : Addr} {xs : List V} (h : H b = some (.tup xs)) : ¬ M b := fun z => by
  obtain ⟨o, e, m⟩ := k b z
  rw [h] at e; cases e; exact m
theorem Kind.notFrz (k : Kind M H) {b : Addr} {o : Obj} {u : HO} (h : H b = some (.frz o u)) : ¬ M b := fun z => by
  obtain ⟨o', e, m⟩ := k b z
  rw [h] at e; cases e; exact m
theorem Kind.sqT (k : Kind M H) (e : Ev M H M' H') {a : Addr} {xs : List V} (h : SqT K H a xs) : SqT K H' a xs := by
  rcases h with (h | ⟨o, h⟩) | h
  · exact .inl (.inl (e.h _ _ (k.notTup h) h))
  · exact .inl (.inr ⟨o, e.h _ _ (k.notFrz h) h⟩)
  · exact .inr h
mutual
theorem Dat.ev (k : Kind M H) (e : Ev M H M' H') : ∀ {v : V} {d : D}, Dat K M H v d → Dat K M' H' v d
  | _, _, .non => .non
  | _, _, .bl b => .bl b
  | _, _, .int i => .int i
  | _, _, .str x => .str x
  | _, _, .tup h a => .tup (k.sqT e h) (DatAll.ev k e a)
  | _, _, .lst n h a => .lst (e.not n h) (e.h _ _ n h) (DatAll.ev k e a)
  | _, _, .dic n h q a => .dic ((rd_some h).elim fun _ z => e.not n z) (e.rd n h) q (DatAll.ev k e a)
  | _, _, .dit n h q a => .dit ((rd_some h).elim fun _ z => e.not n z) (e.rd n h) q (DatAll.ev k e a)
  | _, _, .ins n h q a => .ins (e.not n h) (e.h _ _ n h) q (DatAll.ev k e a)
  | _, _, .cls a => .cls a
  | _, _, .ty a => .ty a
  | _, _, .scr h => .scr (fz_mono (fun b o u q => e.h _ _ (k.notFrz q) q) h)
theorem DatAll.ev (k : Kind M H) (e : Ev M H M' H') : ∀ {vs : List V} {ds : List D}, DatAll K M H vs ds → DatAll K M' H' vs ds
  | _, _, .nil => .nil
  | _, _, .cons r t => .cons (Dat.ev k e r) (DatAll.ev k e t)
end
mutual
theorem Dat.less (s : ∀ b, M' b → M b) : ∀ {v : V} {d : D}, Dat K M H v d → Dat K M' H v d
  | _, _, .non => .non
  | _, _, .bl b => .bl b
  | _, _, .int i => .int i
  | _, _, .str x => .str x
  | _, _, .tup h a => .tup h (DatAll.less s a)
  | _, _, .lst n h a => .lst (fun z => n (s _ z)) h (DatAll.less s a)
  | _, _, .dic n h q a => .dic (fun z => n (s _ z)) h q (DatAll.less s a)
  | _, _, .dit n h q a => .dit (fun z => n (s _ z)) h q (DatAll.less s a)
  | _, _, .ins n h q a => .ins (fun z => n (s _ z)) h q (DatAll.less s a)
  | _, _, .cls a => .cls a
  | _, _, .ty a => .ty a
  | _, _, .scr h => .scr h
theorem DatAll.less (s : ∀ b, M' b → M b) : ∀ {vs : List V} {ds : List D}, DatAll K M H vs ds → DatAll K M' H vs ds
  | _, _, .nil => .nil
  | _, _, .cons r t => .cons (Dat.less s r) (DatAll.less s t)
end
theorem same_seqT {a : Addr} {xs : List V} (e : Same H H') (h : SqT K H a xs) : SqT K H' a xs := by
  rcases h with (h | ⟨o, h⟩) | h
  · exact .inl (.inl (e _ _ h))
  · exact .inl (.inr ⟨o, e _ _ h⟩)
  · exact .inr h
theorem same_rd {a : Addr} {u : HO} (e : Same H H') (h : Rd H a u) : Rd H' a u := by
  rcases h with h | ⟨o, h⟩
  · exact .inl (e _ _ h)
  · exact .inr ⟨o, e _ _ h⟩
mutual
theorem Dat.same (e : Same H H') : ∀ {v : V} {d : D}, Dat K M H v d → Dat K M H' v d
  | _, _, .non => .non
  | _, _, .bl b => .bl b
  | _, _, .int i => .int i
  | _, _, .str x => .str x
  | _, _, .tup h a => .tup (same_seqT e h) (DatAll.same e a)
  | _, _, .lst n h a => .lst n (e _ _ h) (DatAll.same e a)
  | _, _, .dic n h q a => .dic n (same_rd e h) q (DatAll.same e a)
  | _, _, .dit n h q a => .dit n (same_rd e h) q (DatAll.same e a)
  | _, _, .ins n h q a => .ins n (e _ _ h) q (DatAll.same e a)
  | _, _, .cls a => .cls a
  | _, _, .ty a => .ty a
  | _, _, .scr h => .scr (fz_mono (fun b o u q => e _ _ q) h)
theorem DatAll.same (e : Same H H') : ∀ {vs : List V} {ds : List D}, DatAll K M H vs ds → DatAll K M H' vs ds
  | _, _, .nil => .nil
  | _, _, .cons r t => .cons (Dat.same e r) (DatAll.same e t)
end
theorem DatAll.length : ∀ {vs : List V} {ds : List D}, DatAll K M H vs ds → vs.length = ds.length
  | _, _, .nil => rfl
  | _, _, .cons _ t => by rw [List.length_cons, List.length_cons, DatAll.length t]
theorem DatAll.get : ∀ {vs : List V} {ds : List D} {i : Nat} {v : V}, DatAll K M H vs ds → vs[i]? = some v → ∃ d, ds[i]? = some d ∧ Dat K M H v d
  | _, _, _, _, .nil, e => by simp at e
  | _, _, 0, _, .cons r _, e => by simp at e; subst e; exact ⟨_, rfl, r⟩
  | _, _, i + 1, v, .cons _ t, e => by
    obtain ⟨u, h1, h2⟩ := DatAll.get (i := i) (v := v) t (by simpa using e)
    exact ⟨u, by simpa using h1, h2⟩
theorem DatAll.getD : ∀ {vs : List V} {ds : List D} {i : Nat} {d : D}, DatAll K M H vs ds → ds[i]? = some d → ∃ v, vs[i]? = some v ∧ Dat K M H v d
  | _, _, _, _, .nil, e => by simp at e
  | _, _, 0, _, .cons r _, e => by simp at e; subst e; exact ⟨_, rfl, r⟩
  | _, _, i + 1, v, .cons _ t, e => by
    obtain ⟨u, h1, h2⟩ := DatAll.getD (i := i) (d := v) t (by simpa using e)
    exact ⟨u, by simpa using h1, h2⟩
theorem DatAll.append : ∀ {vs us : List V} {ds es : List D}, DatAll K M H vs ds → DatAll K M H us es → DatAll K M H (vs ++ us) (ds ++ es)
  | _, _, _, _, .nil, s => s
  | _, _, _, _, .cons r t, s => .cons r (DatAll.append t s)
theorem DatAll.take : ∀ {vs : List V} {ds : List D} (n : Nat), DatAll K M H vs ds → DatAll K M H (vs.take n) (ds.take n)
  | _, _, 0, _ => by simp only [List.take_zero]; exact .nil
  | _, _, _ + 1, .nil => .nil
  | _, _, n + 1, .cons r t => .cons r (DatAll.take n t)
theorem DatAll.drop : ∀ {vs : List V} {ds : List D} (n : Nat), DatAll K M H vs ds → DatAll K M H (vs.drop n) (ds.drop n)
  | _, _, 0, r => r
  | _, _, _ + 1, .nil => .nil
  | _, _, n + 1, .cons _ t => DatAll.drop n t
theorem DatAll.set {v : V} {d : D} (r : Dat K M H v d) : ∀ {vs : List V} {ds : List D} (i : Nat), DatAll K M H vs ds → DatAll K M H (vs.set i v) (ds.set i d)
  | _, _, _, .nil => .nil
  | _, _, 0, .cons _ t => .cons r t
  | _, _, i + 1, .cons q t => .cons q (DatAll.set r i t)
theorem DatAll.reverse : ∀ {vs : List V} {ds : List D}, DatAll K M H vs ds → DatAll K M H vs.reverse ds.reverse
  | _, _, .nil => .nil
  | _, _, .cons r t => by
    rw [List.reverse_cons, List.reverse_cons]
    exact (DatAll.reverse t).append (.cons r .nil)
theorem DatAll.bls : ∀ {vs : List V} {xs : List Bool}, DatAll K M H vs (xs.map D.bl) → vs = xs.map V.bl
  | _, [], .nil => rfl
  | _, x :: xs, .cons r t => by cases r; rw [DatAll.bls t]; rfl
theorem DatAll.of_ints : ∀ (xs : List Int), DatAll K M H (xs.map V.int) (xs.map D.int)
  | [] => .nil
  | x :: xs => .cons (.int x) (DatAll.of_ints xs)
end
inductive Cont (K : PySem.W.Frag) (M : Addr → Prop) (H : Hp) : HO → D → Prop
  | lst {xs : List V} {ds : List D} : DatAll K M H xs ds → Cont K M H (.lst xs) (.lst ds)
  | dic {kvs : List (Key × V)} {ks : List Key} {ds : List D} : kvs.map (·.1) = ks → DatAll K M H (kvs.map (·.2)) ds → Cont K M H (.dK kvs) (.dic ks ds)
  | dit {kvs : List (List Key × V)} {ks : List (List Key)} {ds : List D} : kvs.map (·.1) = ks → DatAll K M H (kvs.map (·.2)) ds → Cont K M H (.dT kvs) (.dit ks ds)
  | ins {C dx : Addr} {fs : List (Str × V)} {ns : List Str} {ds : List D} : fs.map (·.1) = ns → DatAll K M H (fs.map (·.2)) ds → Cont K M H (.ins C dx fs) (.ins C ns ds)
def Own (K : PySem.W.Frag) (M : Addr → Prop) (H : Hp) (a : Addr) (d : D) : Prop := ∃ o, H a = some o ∧ Cont K M H o d
section
variable {K : PySem.W.Frag} {M M' : Addr → Prop} {H H' : Hp} {a : Addr} {d : D} {u : HO}
theorem Cont.mut (o : Cont K M H u d) : MutK u := by
  cases o <;> trivial
theorem Cont.ev (k : Kind M H) (e : Ev M H M' H') (o : Cont K M H u d) : Cont K M' H' u d := by
  cases o with
  | lst q => exact .lst (q.ev k e)
  | dic z q => exact .dic z (q.ev k e)
  | dit z q => exact .dit z (q.ev k e)
  | ins z q => exact .ins z (q.ev k e)
theorem Cont.same (e : Same H H') (o : Cont K M H u d) : Cont K M H' u d := by
  cases o with
  | lst q => exact .lst (q.same e)
  | dic z q => exact .dic z (q.same e)
  | dit z q => exact .dit z (q.same e)
  | ins z q => exact .ins z (q.same e)
theorem Cont.less (s : ∀ b, M' b → M b) (o : Cont K M H u d) : Cont K M' H u d := by
  cases o with
  | lst q => exact .lst (q.less s)
  | dic z q => exact .dic z (q.less s)
  | dit z q => exact .dit z (q.less s)
  | ins z q => exact .ins z (q.less s)
/-- it is data for whoever leaves it as it is -/
theorem Cont.dat (n : ¬ M a) (h : H a = some u) (o : Cont K M H u d) : Dat K M H (.ref a) d := by
  cases o with
  | lst q => exact .lst n h q
  | dic z q => exact .dic n (.inl h) z q
  | dit z q => exact .dit n (.inl h) z q
  | ins z q => exact .ins n h z q
end
end DL
set_option autoImplicit false
namespace DL
open PySem PySem.Spec PyProof.Rows L2
inductive Cell where
  | no | dat (d : D) | own (par : Bool) (d : D)
abbrev Cs := List Cell
abbrev Mo (α : Type) := Cs → Option (α × Cs)
/-- what the callers own (M0), what of it may be changed here (P), the heap at the entry -/
structure Ctx (K : PySem.W.Frag) where
  M0 : Addr → Prop
  P : Addr → Prop
  H0 : Hp
inductive CellR {K : PySem.W.Frag} (c : Ctx K) (M : Addr → Prop) (H : Hp) : Option V → Cell → Prop
  | no (x : Option V) : CellR c M H x .no
  | dat {v : V} {d : D} : Dat K M H v d → CellR c M H (some v) (.dat d)
  | own {p : Bool} {a : Addr} {d : D} : M a → (if p = true then c.P a else ¬ c.M0 a) → Own K M H a d → CellR c M H (some (.ref a)) (.own p d)
structure Sta {K : PySem.W.Frag} (c : Ctx K) (M : Addr → Prop) (σ : L2.St) (H : Hp) (ρ : Cs) : Prop where
  pm : ∀ b, c.P b → c.M0 b
  sub : ∀ b, c.M0 b → M b
  new : ∀ b, M b → ¬ c.M0 b → c.H0 b = none
  kind : Kind M H
  base : ∀ b o, ¬ c.P b → c.H0 b = some o → H b = some o
  len : ρ.length = σ.length
  cell : ∀ (i : Nat) x y, σ[i]? = some x → ρ[i]? = some y → CellR c M H x y
  inj : ∀ (i j : Nat) a p q d e, σ[i]? = some (some (.ref a)) → ρ[i]? = some (.own p d) → σ[j]? = some (some (.ref a)) → ρ[j]? = some (.own q e) → i = j
section
variable {K : PySem.W.Frag} {c : Ctx K} {M : Addr → Prop} {σ : L2.St} {H H' : Hp} {ρ : Cs}
theorem Sta.same (S : Sta c M σ H ρ) (e : Same H H') : Sta c M σ H' ρ := by
  refine ⟨S.pm, S.sub, S.new, fun b h => ?_, fun b o n h => e _ _ (S.base b o n h), S.len, fun i x y h1 h2 => ?_, S.inj⟩
  · obtain ⟨o, q, m⟩ := S.kind b h
    exact ⟨o, e _ _ q, m⟩
  · cases S.cell i x y h1 h2 with
    | no => exact .no _
    | dat q => exact .dat (q.same e)
    | own m p q => exact .own m p (q.elim fun o z => ⟨o, e _ _ z.1, z.2.same e⟩)
/-- the owned object of slot i is changed -/
theorem Sta.mut (S : Sta c M σ H ρ) {i : Nat} {a : Addr} {p : Bool} {d d' : D} (hi : σ[i]? = some (some (.ref a))) (hr : ρ[i]? = some (.own p d)) (ho : ∀ b o, b ≠ a → H b = some o → H' b = some o)
    (hn : Own K M H' a d') : Ev M H M H' ∧ Sta c M σ H' (ρ.set i (.own p d')) := by
  have hc := S.cell i _ _ hi hr
  have Ma : M a := by cases hc with | own m _ _ => exact m
  have Pa : if p = true then c.P a else ¬ c.M0 a := by cases hc with | own _ q _ => exact q
  have E : Ev M H M H' := ⟨fun b h => .inl h, fun b o n h => ho b o (fun z => n (by rw [z]; exact Ma)) h⟩
  refine ⟨E, S.pm, S.sub, S.new, fun b h => ?_, fun b o n h => ?_, by rw [List.length_set]; exact S.len, fun j x y h1 h2 => ?_, fun j k b p1 p2 d1 d2 a1 a2 a3 a4 => ?_⟩
  · by_cases z : b = a
    · subst z
      obtain ⟨u, q, w⟩ := hn
      exact ⟨u, q, w.mut⟩
    · obtain ⟨o, q, m⟩ := S.kind b h
      exact ⟨o, ho b o z q, m⟩
  · refine ho b o (fun z => ?_) (S.base b o n h)
    subst z
    cases p with
    | true => exact n Pa
    | false => rw [S.new b Ma (by simpa using Pa)] at h; cases h
  · by_cases z : j = i
    · subst z
      rw [hi] at h1; cases h1
      rw [List.getElem?_set_self (by
        obtain ⟨l, _⟩ := List.getElem?_eq_some_iff.mp hr
        exact l)] at h2
      cases h2
      exact .own Ma Pa hn
    · rw [List.getElem?_set_ne (Ne.symm z)] at h2
      have hcj := S.cell j x y h1 h2
      cases hcj with
      | no => exact .no _
      | dat q => exact .dat (q.ev S.kind E)
      | own m q w =>
        rename_i p' a' d''
        have ne : a' ≠ a := fun e => z (S.inj j i a p' p d'' d (by rw [← e]; exact h1) h2 hi hr)
        exact .own m q (w.elim fun o r => ⟨o, ho _ _ ne r.1, r.2.ev S.kind E⟩)
  · by_cases z1 : j = i
    · by_cases z2 : k = i
      · rw [z1, z2]
      · subst z1
        rw [List.getElem?_set_ne (Ne.symm z2)] at a4
        rw [hi] at a1; cases a1
        exact S.inj j k _ p p2 d d2 hi hr a3 a4
    · rw [List.getElem?_set_ne (Ne.symm z1)] at a2
      by_cases z2 : k = i
      · subst z2
        rw [hi] at a3; cases a3
        exact S.inj j k _ p1 p d1 d a1 a2 hi hr
      · rw [List.getElem?_set_ne (Ne.symm z2)] at a4
        exact S.inj j k b p1 p2 d1 d2 a1 a2 a3 a4
theorem Sta.setDat (S : Sta c M σ H ρ) (i : Nat) {v : V} {d : D} (h : Dat K M H v d) : Sta c M (σ.set i (some v)) H (ρ.set i (.dat d)) := by
  refine ⟨S.pm, S.sub, S.new, S.kind, S.base, by rw [List.length_set, List.length_set]; exact S.len, fun j x y h1 h2 => ?_, fun j k b p1 p2 d1 d2 a1 a2 a3 a4 => ?_⟩
  · by_cases z : i = j
    · subst z
      have l : i < ρ.length := by
        have := (List.getElem?_eq_some_iff.mp h2).1
        simpa using this
      rw [List.getElem?_set_self (by rw [← S.len]; exact l)] at h1
      rw [List.getElem?_set_self l] at h2
      cases h1; cases h2
      exact .dat h
    · rw [List.getElem?_set_ne z] at h1 h2
      exact S.cell j x y h1 h2
  · have one : ∀ {n : Nat} {q : Bool} {e : D}, (ρ.set i (.dat d))[n]? = some (.own q e) → i ≠ n := fun {n q e} h z => by
      subst z
      have l : i < ρ.length := by
        have := (List.getElem?_eq_some_iff.mp h).1
        simpa using this
      rw [List.getElem?_set_self l] at h
      cases h
    have z1 := one a2
    have z2 := one a4
    rw [List.getElem?_set_ne z1] at a1 a2
    rw [List.getElem?_set_ne z2] at a3 a4
    exact S.inj j k b p1 p2 d1 d2 a1 a2 a3 a4
/-- the owned object of slot i is changed no more -/
theorem Sta.freeze (S : Sta c M σ H ρ) {i : Nat} {a : Addr} {d : D} (hi : σ[i]? = some (some (.ref a))) (hr : ρ[i]? = some (.own false d)) :
    Ev M H (fun b => M b ∧ b ≠ a) H ∧ Sta c (fun b => M b ∧ b ≠ a) σ H (ρ.set i (.dat d)) ∧ Dat K (fun b => M b ∧ b ≠ a) H (.ref a) d := by
  have hc := S.cell i _ _ hi hr
  obtain ⟨na, o, ho, hd⟩ : ¬ c.M0 a ∧ Own K M H a d := by
    cases hc with | own _ q w => exact ⟨by simpa using q, w⟩
  have L : ∀ b, (M b ∧ b ≠ a) → M b := fun b h => h.1
  have E : Ev M H (fun b => M b ∧ b ≠ a) H := Ev.less L
  have Q : Dat K (fun b => M b ∧ b ≠ a) H (.ref a) d := (hd.less L).dat (fun z => z.2 rfl) ho
  refine ⟨E, ⟨S.pm, fun b h => ⟨S.sub b h, fun z => na (by rw [← z]; exact h)⟩, fun b h n => S.new b h.1 n, fun b h => S.kind b h.1, S.base, by rw [List.length_set]; exact S.len, fun j x y h1 h2 => ?_, fun j k b p1 p2 d1 d2 a1 a2 a3 a4 => ?_⟩, Q⟩
  · by_cases z : j = i
    · subst z
      rw [hi] at h1; cases h1
      rw [List.getElem?_set_self (by
        obtain ⟨l, _⟩ := List.getElem?_eq_some_iff.mp hr
        exact l)] at h2
      cases h2
      exact .dat Q
    · rw [List.getElem?_set_ne (Ne.symm z)] at h2
      cases hcj : S.cell j x y h1 h2 with
      | no => exact .no _
      | dat q => exact .dat (q.less L)
      | own m q w =>
        rename_i p' a' d''
        have ne : a' ≠ a := fun e => z (S.inj j i a p' false d'' d (by rw [← e]; exact h1) h2 hi hr)
        exact .own ⟨m, ne⟩ q (w.elim fun o r => ⟨o, r.1, r.2.less L⟩)
  · have one : ∀ {n : Nat} {q : Bool} {e : D}, (ρ.set i (.dat d))[n]? = some (.own q e) → i ≠ n := fun {n q e} h z => by
      subst z
      have l : i < ρ.length := by
        have := (List.getElem?_eq_some_iff.mp h).1
        simpa using this
      rw [List.getElem?_set_self l] at h
      cases h
    have z1 := one a2
    have z2 := one a4
    rw [List.getElem?_set_ne z1] at a2
    rw [List.getElem?_set_ne z2] at a4
    exact S.inj j k b p1 p2 d1 d2 a1 a2 a3 a4
theorem Sta.dat (S : Sta c M σ H ρ) {i : Nat} {d : D} (h : ρ[i]? = some (.dat d)) : ∃ v, σ[i]? = some (some v) ∧ Dat K M H v d := by
  have l : i < σ.length := by rw [← S.len]; exact (List.getElem?_eq_some_iff.mp h).1
  have e : σ[i]? = some σ[i] := List.getElem?_eq_getElem l
  generalize σ[i] = x at e
  cases S.cell i x _ e h with
  | dat q => exact ⟨_, e, q⟩
theorem Sta.own (S : Sta c M σ H ρ) {i : Nat} {p : Bool} {d : D} (h : ρ[i]? = some (.own p d)) : ∃ a, σ[i]? = some (some (.ref a)) ∧ M a ∧ (if p = true then c.P a else ¬ c.M0 a) ∧ Own K M H a d := by
  have l : i < σ.length := by rw [← S.len]; exact (List.getElem?_eq_some_iff.mp h).1
  have e : σ[i]? = some σ[i] := List.getElem?_eq_getElem l
  generalize σ[i] = x at e
  cases S.cell i x _ e h with
  | own m q w => exact ⟨_, e, m, q, w⟩
end
def Held (σ : L2.St) (ρ : Cs) (a : Addr) : Prop := ∃ (i : Nat) (p : Bool) (d : D), σ[i]? = some (some (V.ref a)) ∧ ρ[i]? = some (Cell.own p d)
structure Es (σ : L2.St) (M : Addr → Prop) (H : Hp) (ρ : Cs) (σ' : L2.St) (M' : Addr → Prop) (H' : Hp) (ρ' : Cs) : Prop where
  ev : Ev M H M' H'
  kp : ∀ b o, ¬ Held σ ρ b → H b = some o → H' b = some o
  hs : ∀ b o, H b = some o → Held σ' ρ' b → Held σ ρ b
  mc : ∀ b, M b → ¬ Held σ ρ b → M' b
  dm : ∀ b, H' b = none → H b = none
section
variable {σ σ1 σ2 : L2.St} {M M1 M2 : Addr → Prop} {H H1 H2 : Hp} {ρ ρ1 ρ2 : Cs}
theorem Es.refl : Es σ M H ρ σ M H ρ := ⟨.refl, fun _ _ _ h => h, fun _ _ _ h => h, fun _ h _ => h, fun _ h => h⟩
theorem Es.trans (a : Es σ M H ρ σ1 M1 H1 ρ1) (b : Es σ1 M1 H1 ρ1 σ2 M2 H2 ρ2) (k : Kind M H) : Es σ M H ρ σ2 M2 H2 ρ2 := by
  have hs : ∀ c o, H c = some o → ¬ Held σ ρ c → ¬ Held σ1 ρ1 c := fun c o h n z => n (a.hs c o h z)
  refine ⟨a.ev.trans b.ev, fun c o n h => b.kp c o (hs c o h n) (a.kp c o n h), fun c o h z => ?_, fun c h n => ?_, fun c h => a.dm c (b.dm c h)⟩
  · by_cases n : Held σ ρ c
    · exact n
    · exact (n (a.hs c o h (b.hs c o (a.kp c o n h) z))).elim
  · obtain ⟨o, e, _⟩ := k c h
    exact b.mc c (a.mc c h n) (hs c o e n)
theorem Es.same (s : Same H H1) : Es σ M H ρ σ M H1 ρ := ⟨.same s, fun b o _ h => s b o h, fun _ _ _ h => h, fun _ h _ => h, fun _ h => s.free h⟩
end
theorem held_freeze {σ : L2.St} {ρ : Cs} {i : Nat} {d : D} (b : Addr) (h : Held σ (ρ.set i (.dat d)) b) : Held σ ρ b := by
  obtain ⟨j, p, e, h1, h2⟩ := h
  by_cases z : i = j
  · subst z
    have l : i < ρ.length := by
      have := (List.getElem?_eq_some_iff.mp h2).1
      simpa using this
    rw [List.getElem?_set_self l] at h2
    cases h2
  · rw [List.getElem?_set_ne z] at h2
    exact ⟨j, p, e, h1, h2⟩
theorem held_mut {σ : L2.St} {ρ : Cs} {i : Nat} {p : Bool} {d d' : D} (hr : ρ[i]? = some (.own p d)) (b : Addr) (h : Held σ (ρ.set i (.own p d')) b) : Held σ ρ b := by
  obtain ⟨j, q, e, h1, h2⟩ := h
  by_cases z : i = j
  · subst z
    exact ⟨i, p, d, h1, hr⟩
  · rw [List.getElem?_set_ne z] at h2
    exact ⟨j, q, e, h1, h2⟩
theorem Sta.freezeE {K : PySem.W.Frag} {c : Ctx K} {M : Addr → Prop} {σ : L2.St} {H : Hp} {ρ : Cs} (S : Sta c M σ H ρ) {i : Nat} {a : Addr} {d : D} (hi : σ[i]? = some (some (.ref a))) (hr : ρ[i]? = some (.own false d)) :
    Es σ M H ρ σ (fun b => M b ∧ b ≠ a) H (ρ.set i (.dat d)) ∧ Sta c (fun b => M b ∧ b ≠ a) σ H (ρ.set i (.dat d)) ∧ Dat K (fun b => M b ∧ b ≠ a) H (.ref a) d := by
  obtain ⟨E, S', h⟩ := S.freeze hi hr
  exact ⟨⟨E, fun _ _ _ h => h, fun b _ _ => held_freeze b, fun b h n => ⟨h, fun z => n ⟨i, false, d, by rw [z]; exact hi, hr⟩⟩, fun _ h => h⟩, S', h⟩
theorem Sta.mutE {K : PySem.W.Frag} {c : Ctx K} {M : Addr → Prop} {σ : L2.St} {H H' : Hp} {ρ : Cs} (S : Sta c M σ H ρ) {i : Nat} {a : Addr} {p : Bool} {d d' : D} (hi : σ[i]? = some (some (.ref a))) (hr : ρ[i]? = some (.own p d)) (ho : ∀ b o, b ≠ a → H b = some o → H' b = some o)
    (hn : Own K M H' a d') : Es σ M H ρ σ M H' (ρ.set i (.own p d')) ∧ Sta c M σ H' (ρ.set i (.own p d')) := by
  obtain ⟨E, S'⟩ := S.mut hi hr ho hn
  refine ⟨⟨E, fun b o n h => ho b o (fun z => n ⟨i, p, d, by rw [z]; exact hi, hr⟩) h, fun b _ _ => held_mut hr b, fun _ h _ => h, fun b h => ?_⟩, S'⟩
  by_cases z : b = a
  · subst z
    obtain ⟨u, q, _⟩ := hn
    rw [q] at h; cases h
  · cases q : H b with
    | none => rfl
    | some o => rw [ho b o z q] at h; cases h
/-- an object that no slot holds yet -/
theorem Sta.hold {K : PySem.W.Frag} {c : Ctx K} {M : Addr → Prop} {σ : L2.St} {H H' : Hp} {ρ : Cs} (S : Sta c M σ H ρ) {a : Addr} {o : HO} (hf : H a = none) (e : Same H H') (ho : H' a = some o) (hm : MutK o) :
    Es σ M H ρ σ (fun b => M b ∨ b = a) H' ρ ∧ Sta c (fun b => M b ∨ b = a) σ H' ρ ∧ ¬ Held σ ρ a := by
  have nM : ¬ M a := fun z => by
    obtain ⟨u, q, _⟩ := S.kind a z
    rw [hf] at q; cases q
  have E : Ev M H (fun b => M b ∨ b = a) H' := ⟨fun b h => h.elim .inl fun z => .inr (by rw [z]; exact hf), fun b u _ h => e _ _ h⟩
  have h0 : c.H0 a = none := by
    cases q : c.H0 a with
    | none => rfl
    | some u =>
      by_cases z : c.P a
      · exact absurd (S.sub a (S.pm a z)) nM
      · rw [S.base a u z q] at hf; cases hf
  refine ⟨⟨E, fun b u _ h => e _ _ h, fun _ _ _ h => h, fun b h _ => .inl h, fun _ h => e.free h⟩, ⟨S.pm, fun b h => .inl (S.sub b h), fun b h n => h.elim (fun z => S.new b z n) (fun z => by rw [z]; exact h0), fun b h => ?_, fun b u n h => e _ _ (S.base b u n h), S.len, fun j x y h1 h2 => ?_, S.inj⟩, ?_⟩
  · rcases h with h | h
    · obtain ⟨u, q, m⟩ := S.kind b h
      exact ⟨u, e _ _ q, m⟩
    · rw [h]; exact ⟨o, ho, hm⟩
  · cases S.cell j x y h1 h2 with
    | no => exact .no _
    | dat q => exact .dat (q.ev S.kind E)
    | own m p q => exact .own (.inl m) p (q.elim fun u w => ⟨u, e _ _ w.1, w.2.ev S.kind E⟩)
  · rintro ⟨j, p, d, h1, h2⟩
    cases S.cell j _ _ h1 h2 with
    | own m _ _ => exact nM m
/-- .. comes to slot i -/
theorem Sta.take {K : PySem.W.Frag} {c : Ctx K} {M : Addr → Prop} {σ : L2.St} {H : Hp} {ρ : Cs} (S : Sta c M σ H ρ) {a : Addr} {d : D} (i : Nat) (hM : M a) (h0 : c.H0 a = none) (n0 : ¬ c.M0 a) (ho : Own K M H a d) (hh : ¬ Held σ ρ a) :
    Sta c M (σ.set i (some (.ref a))) H (ρ.set i (.own false d)) := by
  refine ⟨S.pm, S.sub, S.new, S.kind, S.base, by rw [List.length_set, List.length_set]; exact S.len, fun j x y h1 h2 => ?_, fun j k b p1 p2 d1 d2 a1 a2 a3 a4 => ?_⟩
  · by_cases z : i = j
    · subst z
      have l : i < ρ.length := by
        have := (List.getElem?_eq_some_iff.mp h2).1
        simpa using this
      rw [List.getElem?_set_self (by rw [← S.len]; exact l)] at h1
      rw [List.getElem?_set_self l] at h2
      cases h1; cases h2
      exact .own hM (by simpa using n0) ho
    · rw [List.getElem?_set_ne z] at h1 h2
      exact S.cell j x y h1 h2
  · by_cases z1 : i = j
    · by_cases z2 : i = k
      · rw [← z1, ← z2]
      · subst z1
        have l : i < ρ.length := by
          have := (List.getElem?_eq_some_iff.mp a2).1
          simpa using this
        rw [List.getElem?_set_self (by rw [← S.len]; exact l)] at a1
        cases a1
        rw [List.getElem?_set_ne z2] at a3 a4
        exact (hh ⟨k, p2, d2, a3, a4⟩).elim
    · by_cases z2 : i = k
      · subst z2
        have l : i < ρ.length := by
          have := (List.getElem?_eq_some_iff.mp a4).1
          simpa using this
        rw [List.getElem?_set_self (by rw [← S.len]; exact l)] at a3
        cases a3
        rw [List.getElem?_set_ne z1] at a1 a2
        exact (hh ⟨j, p1, d1, a1, a2⟩).elim
      · rw [List.getElem?_set_ne z1] at a1 a2
        rw [List.getElem?_set_ne z2] at a3 a4
        exact S.inj j k b p1 p2 d1 d2 a1 a2 a3 a4
/-- what is free at the entry -/
theorem Sta.free0 {K : PySem.W.Frag} {c : Ctx K} {M : Addr → Prop} {σ : L2.St} {H : Hp} {ρ : Cs} (S : Sta c M σ H ρ) {a : Addr} (hf : H a = none) : c.H0 a = none ∧ ¬ c.M0 a := by
  have nM : ¬ M a := fun z => by
    obtain ⟨u, q, _⟩ := S.kind a z
    rw [hf] at q; cases q
  refine ⟨?_, fun z => nM (S.sub a z)⟩
  cases q : c.H0 a with
  | none => rfl
  | some u =>
    by_cases z : c.P a
    · exact absurd (S.sub a (S.pm a z)) nM
    · rw [S.base a u z q] at hf; cases hf
/-- an object that no slot holds is given up -/
theorem Sta.unhold {K : PySem.W.Frag} {c : Ctx K} {M : Addr → Prop} {σ : L2.St} {H : Hp} {ρ : Cs} (S : Sta c M σ H ρ) {a : Addr} (n0 : ¬ c.M0 a) (nh : ¬ Held σ ρ a) : Sta c (fun b => M b ∧ b ≠ a) σ H ρ := by
  have L : ∀ b, (M b ∧ b ≠ a) → M b := fun b h => h.1
  refine ⟨S.pm, fun b h => ⟨S.sub b h, fun z => n0 (by rw [← z]; exact h)⟩, fun b h n => S.new b h.1 n, fun b h => S.kind b h.1, S.base, S.len, fun j x y h1 h2 => ?_, S.inj⟩
  cases S.cell j x y h1 h2 with
  | no => exact .no _
  | dat q => exact .dat (q.less L)
  | own m q w =>
    rename_i p' a' d''
    exact .own ⟨m, fun e => nh ⟨j, p', d'', by rw [← e]; exact h1, h2⟩⟩ q (w.elim fun o r => ⟨o, r.1, r.2.less L⟩)
def REv {K : PySem.W.Frag} (c : Ctx K) (t : TE) (m : Mo D) : Prop := ∀ M σ H ρ, Sta c M σ H ρ → ∀ d ρ', m ρ = some (d, ρ') → ∀ Q : VK, (∀ M' v H', Es σ M H ρ σ M' H' ρ' → Sta c M' σ H' ρ' → Dat K M' H' v d → Q v H') → t σ H Q
def RTt {K : PySem.W.Frag} (c : Ctx K) (t : TT) (m : Mo Bool) : Prop := ∀ M σ H ρ, Sta c M σ H ρ → ∀ b ρ', m ρ = some (b, ρ') → ∀ Q : Bool → Hp → Prop, (∀ M' H', Es σ M H ρ σ M' H' ρ' → Sta c M' σ H' ρ' → Q b H') → t σ H Q
def RAv {K : PySem.W.Frag} (c : Ctx K) (t : TA) (m : Mo (List D)) : Prop := ∀ M σ H ρ, Sta c M σ H ρ → ∀ ds ρ', m ρ = some (ds, ρ') → ∀ Q : List V → Hp → Prop, (∀ M' vs H', Es σ M H ρ σ M' H' ρ' → Sta c M' σ H' ρ' → DatAll K M' H' vs ds → Q vs H') → t σ H Q
/-- a new object, which no slot holds yet -/
structure Nw {K : PySem.W.Frag} (c : Ctx K) (M : Addr → Prop) (σ : L2.St) (H : Hp) (ρ : Cs) (a : Addr) (d : D) : Prop where
  m : M a
  nh : ¬ Held σ ρ a
  h0 : c.H0 a = none
  n0 : ¬ c.M0 a
  o : Own K M H a d
def RNw {K : PySem.W.Frag} (c : Ctx K) (t : TE) (m : Mo D) : Prop := ∀ M σ H ρ, Sta c M σ H ρ → ∀ d ρ', m ρ = some (d, ρ') → ∀ Q : VK,
  (∀ M' a H', H a = none → Es σ M H ρ σ M' H' ρ' → Sta c M' σ H' ρ' → Nw c M' σ H' ρ' a d → Q (.ref a) H') → t σ H Q
/-- it stays while other things are reckoned -/
theorem Nw.es {K : PySem.W.Frag} {c : Ctx K} {M M' : Addr → Prop} {σ σ' : L2.St} {H H' : Hp} {ρ ρ' : Cs} {a : Addr} {d : D} (n : Nw c M σ H ρ a d) (k : Kind M H) (e : Es σ M H ρ σ' M' H' ρ') : Nw c M' σ' H' ρ' a d := by
  obtain ⟨o, ho, hc⟩ := n.o
  exact ⟨e.mc a n.m n.nh, fun z => n.nh (e.hs a o ho z), n.h0, n.n0, o, e.kp a o n.nh ho, hc.ev k e.ev⟩
theorem Sta.nw {K : PySem.W.Frag} {c : Ctx K} {M : Addr → Prop} {σ : L2.St} {H H' : Hp} {ρ : Cs} (S : Sta c M σ H ρ) {a : Addr} {o : HO} {d : D} (hf : H a = none) (e : Same H H') (ho : H' a = some o) (hd : Cont K M H o d) :
    Es σ M H ρ σ (fun b => M b ∨ b = a) H' ρ ∧ Sta c (fun b => M b ∨ b = a) σ H' ρ ∧ Nw c (fun b => M b ∨ b = a) σ H' ρ a d := by
  obtain ⟨E, S', n⟩ := S.hold hf e ho hd.mut
  exact ⟨E, S', .inr rfl, n, (S.free0 hf).1, (S.free0 hf).2, o, ho, hd.ev S.kind E.ev⟩
theorem Sta.takeN {K : PySem.W.Frag} {c : Ctx K} {M : Addr → Prop} {σ : L2.St} {H : Hp} {ρ : Cs} (S : Sta c M σ H ρ) {a : Addr} {d : D} (n : Nw c M σ H ρ a d) (i : Nat) : Sta c M (σ.set i (some (.ref a))) H (ρ.set i (.own false d)) := S.take i n.m n.h0 n.n0 n.o n.nh
/-- given up: it is data -/
theorem Nw.give {K : PySem.W.Frag} {c : Ctx K} {M : Addr → Prop} {σ : L2.St} {H : Hp} {ρ : Cs} {a : Addr} {d : D} (n : Nw c M σ H ρ a d) (S : Sta c M σ H ρ) :
    Ev M H (fun b => M b ∧ b ≠ a) H ∧ Sta c (fun b => M b ∧ b ≠ a) σ H ρ ∧ Dat K (fun b => M b ∧ b ≠ a) H (.ref a) d := by
  obtain ⟨o, ho, hc⟩ := n.o
  exact ⟨Ev.less fun b h => h.1, S.unhold n.n0 n.nh, (hc.less fun b h => h.1).dat (fun z => z.2 rfl) ho⟩
theorem RNw.ev {K : PySem.W.Frag} {c : Ctx K} {t : TE} {m : Mo D} (h : RNw c t m) : REv c t m := fun M σ H ρ S d ρ' e Q q => h M σ H ρ S d ρ' e Q fun M' a H' f E S1 n => by
  obtain ⟨E2, S2, D2⟩ := n.give S1
  refine q _ (.ref a) H' ⟨E.ev.trans E2, E.kp, E.hs, fun b h1 h2 => ⟨E.mc b h1 h2, fun z => ?_⟩, E.dm⟩ S2 D2
  subst z
  obtain ⟨o, w, _⟩ := S.kind b h1
  rw [f] at w; cases w
inductive Fl where
  | nx | rt (d : D) | rn (d : D) | bk | ct
def Post {K : PySem.W.Frag} (c : Ctx K) (M : Addr → Prop) (H : Hp) (D : Ends) : Fl → Cs → Prop
  | .nx, ρ' => ∀ M' σ' H', Ev M H M' H' → Sta c M' σ' H' ρ' → D.nx σ' H'
  | .rt d, ρ' => ∀ M' σ' v H', Ev M H M' H' → Sta c M' σ' H' ρ' → Dat K M' H' v d → D.rt v H'
  | .rn d, ρ' => ∀ M' σ' a H', Ev M H M' H' → Sta c M' σ' H' ρ' → Nw c M' σ' H' ρ' a d → D.rt (.ref a) H'
  | .bk, ρ' => ∀ M' σ' H', Ev M H M' H' → Sta c M' σ' H' ρ' → D.bk σ' H'
  | .ct, ρ' => ∀ M' σ' H', Ev M H M' H' → Sta c M' σ' H' ρ' → D.ct σ' H'
def RSt {K : PySem.W.Frag} (c : Ctx K) (t : TS) (m : Mo Fl) : Prop := ∀ M σ H ρ, Sta c M σ H ρ → ∀ f ρ', m ρ = some (f, ρ') → ∀ D : Ends, Post c M H D f ρ' → t D σ H
/-- a target takes a value -/
def RTg {K : PySem.W.Frag} (c : Ctx K) (g : TG) (m : D → Mo Unit) : Prop := ∀ M σ H ρ, Sta c M σ H ρ → ∀ v d, Dat K M H v d → ∀ u ρ', m d ρ = some (u, ρ') → ∀ Q : L2.St → Hp → Prop, (∀ M' σ' H', Es σ M H ρ σ' M' H' ρ' → Sta c M' σ' H' ρ' → Q σ' H') → g v σ H Q
def RTgs {K : PySem.W.Frag} (c : Ctx K) (g : TGs) (m : List D → Mo Unit) : Prop := ∀ M σ H ρ, Sta c M σ H ρ → ∀ vs ds, DatAll K M H vs ds → ∀ u ρ', m ds ρ = some (u, ρ') → ∀ Q : L2.St → Hp → Prop, (∀ M' σ' H', Es σ M H ρ σ' M' H' ρ' → Sta c M' σ' H' ρ' → Q σ' H') → g vs σ H Q
theorem Post.ev {K : PySem.W.Frag} {c : Ctx K} {M M' : Addr → Prop} {H H' : Hp} {D : Ends} {f : Fl} {ρ : Cs} (E : Ev M H M' H') (p : Post c M H D f ρ) : Post c M' H' D f ρ := by
  cases f with
  | nx => exact fun M' σ' H' e s => p M' σ' H' (E.trans e) s
  | rt d => exact fun M' σ' v H' e s h => p M' σ' v H' (E.trans e) s h
  | rn d => exact fun M' σ' a H' e s => p M' σ' a H' (E.trans e) s
  | bk => exact fun M' σ' H' e s => p M' σ' H' (E.trans e) s
  | ct => exact fun M' σ' H' e s => p M' σ' H' (E.trans e) s
structure DE (X : Cx) {K : PySem.W.Frag} (c : Ctx K) (e : Expr) (t : TE) (m : Mo D) : Prop where
  p : PE X e t
  r : REv c t m
structure DN (X : Cx) {K : PySem.W.Frag} (c : Ctx K) (e : Expr) (t : TE) (m : Mo D) : Prop where
  p : PE X e t
  r : RNw c t m
structure DT (X : Cx) {K : PySem.W.Frag} (c : Ctx K) (e : Expr) (t : TT) (m : Mo Bool) : Prop where
  p : PT X e t
  r : RTt c t m
structure DW (X : Cx) {K : PySem.W.Frag} (c : Ctx K) (e : Expr) (t : TT) (m : Mo Bool) : Prop where
  p : PW X e t
  r : RTt c t m
structure DA (X : Cx) {K : PySem.W.Frag} (c : Ctx K) (es : List Expr) (t : TA) (m : Mo (List D)) : Prop where
  p : PA X es t
  r : RAv c t m
structure DS (X : Cx) {K : PySem.W.Frag} (c : Ctx K) (s : Stmt) (t : TS) (m : Mo Fl) : Prop where
  p : PS X s t
  r : RSt c t m
structure DB (X : Cx) {K : PySem.W.Frag} (c : Ctx K) (s : List Stmt) (t : TS) (m : Mo Fl) : Prop where
  p : PSs X s t
  r : RSt c t m
structure DG (X : Cx) {K : PySem.W.Frag} (c : Ctx K) (e : Expr) (t : TG) (m : D → Mo Unit) : Prop where
  p : PG X e t
  r : RTg c t m
structure DGs (X : Cx) {K : PySem.W.Frag} (c : Ctx K) (es : List Expr) (t : TGs) (m : List D → Mo Unit) : Prop where
  p : PGs X es t
  r : RTgs c t m
theorem DN.e {X : Cx} {K : PySem.W.Frag} {c : Ctx K} {e : Expr} {t : TE} {m : Mo D} (h : DN X c e t m) : DE X c e t m := ⟨h.p, h.r.ev⟩
end DL
set_option autoImplicit false
namespace DL
open PySem PySem.Spec PyProof.Rows L2
mutual
def toP : D → PyData
  | .non => .none | .bl b => .bool b | .int i => .int i | .str x => .str x
  | .tup ds => .tuple (toPs ds) | .lst ds => .list (toPs ds)
  | .dic _ _ | .dit _ _ | .ins _ _ _ | .cls _ | .ty _ | .scr _ => .none
def toPs : List D → List PyData
  | [] => []
  | d :: r => toP d :: toPs r
end
mutual
def plain : D → Bool
  | .non | .bl _ | .int _ | .str _ => true
  | .tup ds | .lst ds => plains ds
  | .dic _ _ | .dit _ _ | .ins _ _ _ | .cls _ | .ty _ | .scr _ => false
def plains : List D → Bool
  | [] => true
  | d :: r => plain d && plains r
end
mutual
theorem noDict : ∀ d : D, plain d = true → (toP d).hasDict = false
  | .non, _ | .bl _, _ | .int _, _ | .str _, _ => by simp [toP, PyData.hasDict]
  | .tup ds, h | .lst ds, h => by simp only [toP, PyData.hasDict]; exact noDicts ds (by simpa only [plain] using h)
  | .dic _ _, h | .dit _ _, h | .ins _ _ _, h | .cls _, h | .ty _, h | .scr _, h => by simp [plain] at h
theorem noDicts : ∀ ds : List D, plains ds = true → PyData.hasDictAll (toPs ds) = false
  | [], _ => by simp [toPs, PyData.hasDictAll]
  | d :: r, h => by
    simp only [plains, Bool.and_eq_true] at h
    simp only [toPs, PyData.hasDictAll, noDict d h.1, noDicts r h.2]
    rfl
end
section
variable {X : Cx} {pins : List (Addr × Obj)} {σ : L2.St} {M : Addr → Prop} {H : Hp} {s : Shared}
mutual
theorem Dat.reads (I : Inv X pins σ H s) : ∀ (d : D) (v : V) (u : Value), plain d = true → Dat X.K M H v d → RelV v u → ∃ as, Reads s.heap u (toP d) as
  | .non, _, _, _, .non, r => by cases r; exact ⟨_, by simp only [toP]; exact Reads.none⟩
  | .bl b, _, _, _, .bl _, r => by cases r; exact ⟨_, by simp only [toP]; exact Reads.bool b⟩
  | .int i, _, _, _, .int _, r => by obtain ⟨t, rfl⟩ := r; exact ⟨_, by simp only [toP]; exact Reads.int i t⟩
  | .str x, _, _, _, .str _, r => by obtain ⟨t, rfl⟩ := r; exact ⟨_, by simp only [toP]; exact Reads.str x t⟩
  | .lst ds, _, _, z, .lst _ h a, r => by
    cases r
    obtain ⟨its, rv, ⟨o, n, ho, hc, _, hd⟩, _⟩ := I.list (SqL.of h)
    obtain ⟨as, hr⟩ := Dat.readsAll I ds _ its (by simpa only [plain] using z) a rv
    exact ⟨_, by simp only [toP]; exact Reads.list ho hc hd hr⟩
  | .tup ds, _, _, z, .tup h a, r => by
    cases r
    obtain ⟨its, rv, ⟨o, ho, hc, n, hd⟩, _⟩ := I.tuple h
    obtain ⟨as, hr⟩ := Dat.readsAll I ds _ its (by simpa only [plain] using z) a rv
    exact ⟨_, by simp only [toP]; exact Reads.tuple ho hc hd hr⟩
  | .dic _ _, _, _, z, _, _ | .dit _ _, _, _, z, _, _ | .ins _ _ _, _, _, z, _, _ | .cls _, _, _, z, _, _ | .ty _, _, _, z, _, _ | .scr _, _, _, z, _, _ => by simp [plain] at z
theorem Dat.readsAll (I : Inv X pins σ H s) : ∀ (ds : List D) (vs : List V) (us : List Value), plains ds = true → DatAll X.K M H vs ds → Vals vs us → ∃ as, ReadsAll s.heap us (toPs ds) as
  | [], _, _, _, .nil, r => by cases r; exact ⟨_, by simp only [toPs]; exact ReadsAll.nil⟩
  | d :: ds, _, _, z, .cons h1 h2, r => by
    have z' : plain d = true ∧ plains ds = true := by simpa [plains] using z
    cases r with
    | cons r1 r2 =>
      obtain ⟨as, q1⟩ := Dat.reads I d _ _ z'.1 h1 r1
      obtain ⟨bs, q2⟩ := Dat.readsAll I ds _ _ z'.2 h2 r2
      exact ⟨_, by simp only [toPs]; exact ReadsAll.cons q1 q2⟩
end
end
def rD (K : PySem.W.Frag) (g : D → D → Option D) : R2 := fun x y H Q => ∃ M d e r, Kind M H ∧ Dat K M H x d ∧ Dat K M H y e ∧ g d e = some r ∧ ∀ u H', Same H H' → Dat K M H' u r → Q u H'
/-- .. that give a new object -/
def rN (K : PySem.W.Frag) (g : D → D → Option D) : R2 := fun x y H Q => ∃ M d e r, Kind M H ∧ Dat K M H x d ∧ Dat K M H y e ∧ g d e = some r ∧ ∀ a H' o, H a = none → Same H H' → H' a = some o → Cont K M H o r → Q (.ref a) H'
def rU1 (K : PySem.W.Frag) (g : D → Option D) : V → Hp → VK → Prop := fun x H Q => ∃ M d r, Kind M H ∧ Dat K M H x d ∧ g d = some r ∧ ∀ u H', Same H H' → Dat K M H' u r → Q u H'
/-- calls -/
def rC (K : PySem.W.Frag) (g : List D → Option D) : List V → Hp → VK → Prop := fun xs H Q => ∃ M ds r, Kind M H ∧ DatAll K M H xs ds ∧ g ds = some r ∧ ∀ u H', Same H H' → Dat K M H' u r → Q u H'
def rCN (K : PySem.W.Frag) (g : List D → Option D) : List V → Hp → VK → Prop := fun xs H Q => ∃ M ds r, Kind M H ∧ DatAll K M H xs ds ∧ g ds = some r ∧ ∀ a H' o, H a = none → Same H H' → H' a = some o → Cont K M H o r → Q (.ref a) H'
/-- slices -/
def rS (K : PySem.W.Frag) (g : D → Option Int → Option Int → Option D) : V → Option Int → Option Int → Hp → VK → Prop := fun x lo hi H Q => ∃ M d r, Kind M H ∧ Dat K M H x d ∧ g d lo hi = some r ∧ ∀ u H', Same H H' → Dat K M H' u r → Q u H'
theorem Kind.fresh {M : Addr → Prop} {H : Hp} (k : Kind M H) {a : Addr} (h : H a = none) : ¬ M a := fun z => by
  obtain ⟨u, q, _⟩ := k a z
  rw [h] at q; cases q
/-- a new tuple, a new list -/
theorem dat_tup {K : PySem.W.Frag} {M : Addr → Prop} {H : Hp} {p : Addr} {xs : List V} {ds : List D} (hp : H p = none) (h : DatAll K M H xs ds) : Same H (upd H p (.tup xs)) ∧ Dat K M (upd H p (.tup xs)) (.ref p) (.tup ds) :=
  ⟨same_new hp, .tup (.inl (.inl upd_same)) (h.same (same_new hp))⟩
theorem dat_lst {K : PySem.W.Frag} {M : Addr → Prop} {H : Hp} {p : Addr} {xs : List V} {ds : List D} (k : Kind M H) (hp : H p = none) (h : DatAll K M H xs ds) : Same H (upd H p (.lst xs)) ∧ Dat K M (upd H p (.lst xs)) (.ref p) (.lst ds) :=
  ⟨same_new hp, .lst (k.fresh hp) upd_same (h.same (same_new hp))⟩
def dAdd : D → D → Option D
  | .int i, .int j => some (.int (i + j))
  | .str x, .str y => if x.length + y.length ≤ sizeLine then some (.str (x ++ y)) else none
  | .tup a, .tup b => if a.length + b.length ≤ sizeLine then some (.tup (a ++ b)) else none
  | .lst a, .lst b => if a.length + b.length ≤ sizeLine then some (.lst (a ++ b)) else none
  | _, _ => none
def dCat : D → D → Option D
  | .lst a, .lst b => if a.length + b.length ≤ sizeLine then some (.lst (a ++ b)) else none
  | _, _ => none
def dSub : D → D → Option D
  | .int i, .int j => some (.int (i - j))
  | _, _ => none
def dMul : D → D → Option D
  | .int i, .int j => if Builtin.Int.intBits i + Builtin.Int.intBits j ≤ 100000000 then some (.int (i * j)) else none
  | .lst a, .int j => if -(2 ^ 63) ≤ j ∧ j < 2 ^ 63 ∧ a.length * j.toNat ≤ sizeLine then some (.lst (List.replicate j.toNat a).flatten) else none
  | _, _ => none
theorem DatAll.rep {K : PySem.W.Frag} {M : Addr → Prop} {H : Hp} {vs : List V} {ds : List D} (h : DatAll K M H vs ds) : ∀ n : Nat, DatAll K M H (List.replicate n vs).flatten (List.replicate n ds).flatten
  | 0 => .nil
  | n + 1 => by
    rw [List.replicate_succ, List.replicate_succ, List.flatten_cons, List.flatten_cons]
    exact h.append (DatAll.rep h n)
def dDiv : D → D → Option D
  | .int i, .int j => if 0 < j ∧ j.natAbs.log2 < 9000 then some (.int (i / j)) else none
  | _, _ => none
def dMod : D → D → Option D
  | .int i, .int j => if 0 < j then some (.int (i % j)) else none
  | _, _ => none
def dPow : D → D → Option D
  | .int i, .int j => if 0 ≤ j ∧ j ≤ 1000000 ∧ i.natAbs < 2 ^ 64 then some (.int (i ^ j.toNat)) else none
  | _, _ => none
def dNeg : D → Option D
  | .int i => some (.int (-i))
  | _ => none
section
variable {X : Cx}
theorem if_some {α : Type} {c : Prop} [Decidable c] {a b : α} (h : (if c then some a else none) = some b) : c ∧ a = b := by
  split at h
  · exact ⟨by assumption, Option.some.inj h⟩
  · cases h
theorem op_ADD : OpR X (binaryOp .Add) (rD X.K dAdd) := by
  intro pins s σ H x y v u Q I rx ry h
  obtain ⟨M, d, e, r, k, hd, he, hg, q⟩ := h
  cases d <;> cases e <;> try (simp [dAdd] at hg; done)
  case int.int i j =>
    cases hd; cases he
    cases hg
    exact op_add pins s σ H _ _ v u Q I rx ry ⟨i, j, rfl, rfl, q _ H (.refl H) (.int _)⟩
  case str.str a b =>
    cases hd; cases he
    obtain ⟨z, rfl⟩ := if_some hg
    exact op_add_str pins s σ H _ _ v u Q I rx ry ⟨a, b, rfl, rfl, z, q _ H (.refl H) (.str _)⟩
  case tup.tup a b =>
    obtain ⟨z, rfl⟩ := if_some hg
    cases hd with
    | tup h1 a1 =>
      cases he with
      | tup h2 a2 =>
        rw [← a1.length, ← a2.length] at z
        refine op_catA pins s σ H _ _ v u Q I rx ry ⟨_, _, _, _, rfl, rfl, h1, h2, z, fun e => ?_, fun _ e => ?_, fun _ _ p hp => ?_⟩
        · subst e; cases a1; exact q _ H (.refl H) (.tup h2 a2)
        · subst e; cases a2; rw [List.append_nil] at q; exact q _ H (.refl H) (.tup h1 a1)
        · exact q _ _ (dat_tup hp (a1.append a2)).1 (dat_tup hp (a1.append a2)).2
  case lst.lst a b =>
    obtain ⟨z, rfl⟩ := if_some hg
    cases hd with
    | lst n1 h1 a1 =>
      cases he with
      | lst n2 h2 a2 =>
        rw [← a1.length, ← a2.length] at z
        refine op_cat pins s σ H _ _ v u Q I rx ry ⟨_, _, _, _, rfl, rfl, h1, h2, z, fun p hp => ?_⟩
        exact q _ _ (dat_lst k hp (a1.append a2)).1 (dat_lst k hp (a1.append a2)).2
theorem op_CAT : OpR X (binaryOp .Add) (rN X.K dCat) := by
  intro pins s σ H x y v u Q I rx ry h
  obtain ⟨M, d, e, r, k, hd, he, hg, q⟩ := h
  cases d <;> cases e <;> try (simp [dCat] at hg; done)
  case lst.lst a b =>
    obtain ⟨z, rfl⟩ := if_some hg
    cases hd with
    | lst n1 h1 a1 =>
      cases he with
      | lst n2 h2 a2 =>
        rw [← a1.length, ← a2.length] at z
        refine op_cat pins s σ H _ _ v u Q I rx ry ⟨_, _, _, _, rfl, rfl, h1, h2, z, fun p hp => ?_⟩
        exact q p _ _ hp (same_new hp) upd_same (.lst (a1.append a2))
theorem op_SUB : OpR X (binaryOp .Sub) (rD X.K dSub) := by
  intro pins s σ H x y v u Q I rx ry h
  obtain ⟨M, d, e, r, k, hd, he, hg, q⟩ := h
  cases d <;> cases e <;> try (simp [dSub] at hg; done)
  cases hd; cases he; cases hg
  exact op_sub pins s σ H _ _ v u Q I rx ry ⟨_, _, rfl, rfl, q _ H (.refl H) (.int _)⟩
theorem op_MUL : OpR X (binaryOp .Mult) (rD X.K dMul) := by
  intro pins s σ H x y v u Q I rx ry h
  obtain ⟨M, d, e, r, k, hd, he, hg, q⟩ := h
  cases d <;> cases e <;> try (simp [dMul] at hg; done)
  case int.int =>
    cases hd; cases he
    obtain ⟨z, rfl⟩ := if_some hg
    exact op_mulKb pins s σ H _ _ v u Q I rx ry ⟨_, _, rfl, rfl, z, q _ H (.refl H) (.int _)⟩
  case lst.int =>
    cases he
    obtain ⟨⟨z1, z2, z3⟩, rfl⟩ := if_some hg
    cases hd with
    | lst n h1 a1 =>
      rw [← a1.length] at z3
      refine op_rep pins s σ H _ _ v u Q I rx ry ⟨_, _, _, rfl, rfl, h1, z1, z2, z3, fun p hp => ?_⟩
      exact q _ _ (dat_lst k hp (a1.rep _)).1 (dat_lst k hp (a1.rep _)).2
theorem op_DIV : OpR X (binaryOp .FloorDiv) (rD X.K dDiv) := by
  intro pins s σ H x y v u Q I rx ry h
  obtain ⟨M, d, e, r, k, hd, he, hg, q⟩ := h
  cases d <;> cases e <;> try (simp [dDiv] at hg; done)
  cases hd; cases he
  obtain ⟨z, rfl⟩ := if_some hg
  exact op_fdivW pins s σ H _ _ v u Q I rx ry ⟨_, _, rfl, rfl, z, q _ H (.refl H) (.int _)⟩
theorem op_MOD : OpR X (binaryOp .Mod) (rD X.K dMod) := by
  intro pins s σ H x y v u Q I rx ry h
  obtain ⟨M, d, e, r, k, hd, he, hg, q⟩ := h
  cases d <;> cases e <;> try (simp [dMod] at hg; done)
  cases hd; cases he
  obtain ⟨z, rfl⟩ := if_some hg
  exact op_mod pins s σ H _ _ v u Q I rx ry ⟨_, _, rfl, rfl, z, q _ H (.refl H) (.int _)⟩
theorem op_POW : OpR X (binaryOp .Pow) (rD X.K dPow) := by
  intro pins s σ H x y v u Q I rx ry h
  obtain ⟨M, d, e, r, k, hd, he, hg, q⟩ := h
  cases d <;> cases e <;> try (simp [dPow] at hg; done)
  cases hd; cases he
  obtain ⟨z, rfl⟩ := if_some hg
  exact op_pow pins s σ H _ _ v u Q I rx ry ⟨_, _, rfl, rfl, z, q _ H (.refl H) (.int _)⟩
theorem un_NEG : UnR X (unaryOp .USub) (rU1 X.K dNeg) := by
  intro pins s σ H x v Q I rx h
  obtain ⟨M, d, r, k, hd, hg, q⟩ := h
  cases d <;> try (simp [dNeg] at hg; done)
  cases hd; cases hg
  exact un_neg pins s σ H _ v Q I rx ⟨_, rfl, q _ H (.refl H) (.int _)⟩
end
def dLt : D → D → Option D
  | .int i, .int j => some (.bl (decide (i < j)))
  | .str x, .str y => some (.bl (decide (x.cps.toList < y.cps.toList)))
  | _, _ => none
def dLe : D → D → Option D
  | .int i, .int j => some (.bl (decide (i ≤ j)))
  | _, _ => none
def dGt : D → D → Option D
  | .int i, .int j => some (.bl (decide (j < i)))
  | _, _ => none
def dGe : D → D → Option D
  | .int i, .int j => some (.bl (decide (j ≤ i)))
  | _, _ => none
/-- data that == looks at -/
def eqs (d e : D) : Option Bool :=
  if plain d = true ∧ plain e = true ∧ SeqAt.shaped (toP d) = true ∧ SeqAt.shaped (toP e) = true then some (PyData.eqv (toP d) (toP e)) else none
def dEq : D → D → Option D
  | .int i, .int j => some (.bl (i == j))
  | .str x, .str y => some (.bl (decide (x = y)))
  | .bl x, .bl y => some (.bl (x == y))
  | d, e => (eqs d e).map .bl
def dNe : D → D → Option D
  | .int i, .int j => some (.bl (!(i == j)))
  | .str x, .str y => some (.bl (!decide (x = y)))
  | .bl x, .bl y => some (.bl (!(x == y)))
  | d, e => (eqs d e).map fun b => .bl (!b)
def isNon : D → Bool
  | .non => true
  | _ => false
def dIs : D → D → Option D
  | d, .non => some (.bl (isNon d))
  | _, _ => none
def dIsNot : D → D → Option D
  | d, .non => some (.bl (!isNon d))
  | _, _ => none
theorem isNon_v {K : PySem.W.Frag} {M : Addr → Prop} {H : Hp} {v : V} {d : D} (h : Dat K M H v d) : decide (v = V.non) = isNon d := by
  cases h <;> simp [isNon]
section
variable {X : Cx}
theorem op_LT : OpR X (compareOp .Lt) (rD X.K dLt) := by
  intro pins s σ H x y v u Q I rx ry h
  obtain ⟨M, d, e, r, k, hd, he, hg, q⟩ := h
  cases d <;> cases e <;> try (simp [dLt] at hg; done)
  case int.int =>
    cases hd; cases he; cases hg
    exact op_lt pins s σ H _ _ v u Q I rx ry ⟨_, _, rfl, rfl, q _ H (.refl H) (.bl _)⟩
  case str.str =>
    cases hd; cases he; cases hg
    exact op_lt_str pins s σ H _ _ v u Q I rx ry ⟨_, _, rfl, rfl, q _ H (.refl H) (.bl _)⟩
theorem op_LE : OpR X (compareOp .LtE) (rD X.K dLe) := by
  intro pins s σ H x y v u Q I rx ry h
  obtain ⟨M, d, e, r, k, hd, he, hg, q⟩ := h
  cases d <;> cases e <;> try (simp [dLe] at hg; done)
  cases hd; cases he; cases hg
  exact op_le pins s σ H _ _ v u Q I rx ry ⟨_, _, rfl, rfl, q _ H (.refl H) (.bl _)⟩
theorem op_GT : OpR X (compareOp .Gt) (rD X.K dGt) := by
  intro pins s σ H x y v u Q I rx ry h
  obtain ⟨M, d, e, r, k, hd, he, hg, q⟩ := h
  cases d <;> cases e <;> try (simp [dGt] at hg; done)
  cases hd; cases he; cases hg
  exact op_gt pins s σ H _ _ v u Q I rx ry ⟨_, _, rfl, rfl, q _ H (.refl H) (.bl _)⟩
theorem op_GE : OpR X (compareOp .GtE) (rD X.K dGe) := by
  intro pins s σ H x y v u Q I rx ry h
  obtain ⟨M, d, e, r, k, hd, he, hg, q⟩ := h
  cases d <;> cases e <;> try (simp [dGe] at hg; done)
  cases hd; cases he; cases hg
  exact op_ge pins s σ H _ _ v u Q I rx ry ⟨_, _, rfl, rfl, q _ H (.refl H) (.bl _)⟩
theorem eqs_some {d e : D} {b : Bool} (h : eqs d e = some b) : plain d = true ∧ plain e = true ∧ SeqAt.shaped (toP d) = true ∧ SeqAt.shaped (toP e) = true ∧ PyData.eqv (toP d) (toP e) = b := by
  unfold eqs at h
  obtain ⟨⟨a, b, c, e⟩, f⟩ := if_some h
  exact ⟨a, b, c, e, f⟩
theorem op_EQ (hu : X.A.units + 64 < cLine) : OpR X (compareOp .Eq) (rD X.K dEq) := by
  intro pins s σ H x y v u Q I rx ry h
  obtain ⟨M, d, e, r, k, hd, he, hg, q⟩ := h
  by_cases c : ∃ b, eqs d e = some b ∧ r = .bl b
  · obtain ⟨b, eb, rfl⟩ := c
    obtain ⟨p1, p2, s1, s2, e3⟩ := eqs_some eb
    obtain ⟨as, r1⟩ := hd.reads I _ _ _ p1 rx
    obtain ⟨bs, r2⟩ := he.reads I _ _ _ p2 ry
    refine SeqAt.compareEq_shaped r1 r2 s1 s2 hu ?_
    rw [e3]
    exact ⟨.bl b, H, I, rfl, q _ H (.refl H) (.bl b)⟩
  · have nogen : ∀ z : Option D, z = (eqs d e).map D.bl → z = some r → False := fun z h1 h2 => by
      rw [h2] at h1
      cases w : eqs d e with
      | none => rw [w] at h1; cases h1
      | some b => rw [w] at h1; cases h1; exact c ⟨b, w, rfl⟩
    cases d <;> cases e <;> first
      | (exact (nogen _ rfl hg).elim)
      | (cases hd; cases he; cases hg
         refine op_eq pins s σ H _ _ v u Q I rx ry ⟨rfl, ?_⟩
         first
           | (rw [dec_int]; exact q _ H (.refl H) (.bl _))
           | (rw [dec_bl]; exact q _ H (.refl H) (.bl _))
           | (simp only [V.str.injEq]; exact q _ H (.refl H) (.bl _)))
theorem op_NE (hu : X.A.units + 64 < cLine) : OpR X (compareOp .NotEq) (rD X.K dNe) := by
  intro pins s σ H x y v u Q I rx ry h
  obtain ⟨M, d, e, r, k, hd, he, hg, q⟩ := h
  by_cases c : ∃ b, eqs d e = some b ∧ r = .bl (!b)
  · obtain ⟨b, eb, rfl⟩ := c
    obtain ⟨p1, p2, s1, s2, e3⟩ := eqs_some eb
    obtain ⟨as, r1⟩ := hd.reads I _ _ _ p1 rx
    obtain ⟨bs, r2⟩ := he.reads I _ _ _ p2 ry
    refine SeqAt.compareNe_shaped r1 r2 s1 s2 hu ?_
    rw [e3]
    exact ⟨.bl (!b), H, I, rfl, q _ H (.refl H) (.bl _)⟩
  · have nogen : ∀ z : Option D, z = (eqs d e).map (fun b => D.bl (!b)) → z = some r → False := fun z h1 h2 => by
      rw [h2] at h1
      cases w : eqs d e with
      | none => rw [w] at h1; cases h1
      | some b => rw [w] at h1; cases h1; exact c ⟨b, w, rfl⟩
    cases d <;> cases e <;> first
      | (exact (nogen _ rfl hg).elim)
      | (cases hd; cases he; cases hg
         refine op_ne pins s σ H _ _ v u Q I rx ry ⟨rfl, ?_⟩
         first
           | (rw [dec_int]; exact q _ H (.refl H) (.bl _))
           | (rw [dec_bl]; exact q _ H (.refl H) (.bl _))
           | (simp only [V.str.injEq]; exact q _ H (.refl H) (.bl _)))
theorem op_IS : OpR X (compareOp .Is) (rD X.K dIs) := by
  intro pins s σ H x y v u Q I rx ry h
  obtain ⟨M, d, e, r, k, hd, he, hg, q⟩ := h
  cases e <;> try (simp [dIs] at hg; done)
  cases he
  have hg : some (D.bl (isNon d)) = some r := hg
  cases hg
  refine op_isN pins s σ H _ _ v u Q I rx ry ⟨rfl, ?_⟩
  rw [isNon_v hd]
  exact q _ H (.refl H) (.bl _)
theorem op_ISNOT : OpR X (compareOp .IsNot) (rD X.K dIsNot) := by
  intro pins s σ H x y v u Q I rx ry h
  obtain ⟨M, d, e, r, k, hd, he, hg, q⟩ := h
  cases e <;> try (simp [dIsNot] at hg; done)
  cases he
  have hg : some (D.bl (!isNon d)) = some r := hg
  cases hg
  refine op_notN pins s σ H _ _ v u Q I rx ry ⟨rfl, ?_⟩
  rw [isNon_v hd]
  exact q _ H (.refl H) (.bl _)
end
end DL
set_option autoImplicit false
namespace DL
open PySem PySem.Spec PyProof.Rows L2
def sign1 (x : Str) : Option Nat := match x.cps.toList with
  | [c] => some c
  | _ => none
theorem sign1_eq {x : Str} {c : Nat} (h : sign1 x = some c) : x = ⟨#[c]⟩ := by
  unfold sign1 at h
  split at h
  · rename_i e
    cases h
    obtain ⟨a⟩ := x
    congr 1
    have h2 : a.toList = [c] := e
    rw [← Array.toArray_toList (xs := a), h2]
  · cases h
def dInB : D → D → Option Bool
  | .str x, .str z => (sign1 x).map fun c => decide (c ∈ z.cps.toList)
  | d, .lst ds => if plain d = true ∧ plains ds = true ∧ SeqAt.shaped (toP d) = true ∧ SeqAt.shaped (.list (toPs ds)) = true then some ((toPs ds).any fun e => PyData.eqv e (toP d)) else none
  | d, .tup ds => if plain d = true ∧ plains ds = true ∧ SeqAt.shaped (toP d) = true ∧ SeqAt.shaped (.tuple (toPs ds)) = true then some ((toPs ds).any fun e => PyData.eqv e (toP d)) else none
  | _, _ => none
def dIn (d e : D) : Option D := (dInB d e).map .bl
theorem map_some {α β : Type} {o : Option α} {f : α → β} {r : β} (h : o.map f = some r) : ∃ a, o = some a ∧ f a = r := by
  cases o with
  | none => cases h
  | some a => exact ⟨a, rfl, Option.some.inj h⟩
theorem room_in {A : Around} {xs : List PyData} {d : PyData} (h : SeqAt.shaped d = true) (hu : A.units + 100 < cLine) : A.units + 1 + min (PyData.depthAll xs) d.depth < cLine := by
  have h1 := SeqAt.depth_of_shaped h
  have : min (PyData.depthAll xs) d.depth ≤ 64 := Nat.le_trans (Nat.min_le_right _ _) h1
  omega
section
variable {X : Cx}
theorem op_IN (hu : X.A.units + 100 < cLine) : OpR X (compareOp .In) (rD X.K dIn) := by
  intro pins s σ H x y v u Q I rx ry h
  obtain ⟨M, d, e, r, k, hd, he, hg, q⟩ := h
  obtain ⟨b, hb, rfl⟩ := map_some hg
  by_cases c : ∃ x z, d = .str x ∧ e = .str z
  · obtain ⟨x, z, rfl, rfl⟩ := c
    cases hd; cases he
    obtain ⟨c, hc, rfl⟩ := map_some (show (sign1 x).map _ = some b from hb)
    obtain rfl := sign1_eq hc
    exact op_in_sign pins s σ H _ _ v u Q I rx ry ⟨c, z, rfl, rfl, q _ H (.refl H) (.bl _)⟩
  · cases e with
    | lst ds =>
      have hb' : (if plain d = true ∧ plains ds = true ∧ SeqAt.shaped (toP d) = true ∧ SeqAt.shaped (.list (toPs ds)) = true then some ((toPs ds).any fun e => PyData.eqv e (toP d)) else none) = some b := by
        cases d <;> first | exact hb | (exfalso; exact c ⟨_, _, rfl, rfl⟩)
      obtain ⟨⟨a1, a2, a3, a4⟩, rfl⟩ := if_some hb'
      obtain ⟨as, r1⟩ := hd.reads I _ _ _ a1 rx
      obtain ⟨bs, r2⟩ := he.reads I (.lst ds) _ _ (by simpa only [plain] using a2) ry
      simp only [toP] at r2
      exact SeqAt.in_list_reads r2 r1 (SeqAt.canLay_of_shaped a4) (SeqAt.canLay_of_shaped a3) (room_in a3 hu) ⟨.bl _, H, I, rfl, q _ H (.refl H) (.bl _)⟩
    | tup ds =>
      have hb' : (if plain d = true ∧ plains ds = true ∧ SeqAt.shaped (toP d) = true ∧ SeqAt.shaped (.tuple (toPs ds)) = true then some ((toPs ds).any fun e => PyData.eqv e (toP d)) else none) = some b := by
        cases d <;> first | exact hb | (exfalso; exact c ⟨_, _, rfl, rfl⟩)
      obtain ⟨⟨a1, a2, a3, a4⟩, rfl⟩ := if_some hb'
      obtain ⟨as, r1⟩ := hd.reads I _ _ _ a1 rx
      obtain ⟨bs, r2⟩ := he.reads I (.tup ds) _ _ (by simpa only [plain] using a2) ry
      simp only [toP] at r2
      exact SeqAt.in_tuple_reads r2 r1 (SeqAt.canLay_of_shaped a4) (SeqAt.canLay_of_shaped a3) (room_in a3 hu) ⟨.bl _, H, I, rfl, q _ H (.refl H) (.bl _)⟩
    | str z => cases d <;> first | (exfalso; exact c ⟨_, _, rfl, rfl⟩) | (simp [dInB] at hb)
    | _ => cases d <;> simp [dInB] at hb
end
def dIx : D → D → Option D
  | .tup ds, .int i => atI ds i
  | .lst ds, .int i => atI ds i
  | .scr ns, .int i => (atI ns i).map .int
  | .str z, .int i => if z.length ≤ sizeLine then (atI z.cps.toList i).map fun c => .str ⟨#[c]⟩ else none
  | _, _ => none
theorem atI_dat {K : PySem.W.Frag} {M : Addr → Prop} {H : Hp} {xs : List V} {ds : List D} {i : Int} {d : D} (h : DatAll K M H xs ds) (e : atI ds i = some d) : ∃ v, atI xs i = some v ∧ Dat K M H v d := by
  unfold atI at e ⊢
  rw [h.length]
  cases q : ixN ds.length i with
  | none => rw [q] at e; cases e
  | some j =>
    rw [q] at e
    exact h.getD e
theorem atI_map {α β : Type} (f : α → β) (xs : List α) (i : Int) : atI (xs.map f) i = (atI xs i).map f := by
  unfold atI
  rw [List.length_map]
  cases ixN xs.length i with
  | none => rfl
  | some j => simp
def cutD {α : Type} (xs : List α) (lo hi : Option Int) : List α := (xs.drop (HT.sIx xs.length 0 lo)).take (HT.sIx xs.length xs.length hi - HT.sIx xs.length 0 lo)
theorem cut_dat {K : PySem.W.Frag} {M : Addr → Prop} {H : Hp} {xs : List V} {ds : List D} (lo hi : Option Int) (h : DatAll K M H xs ds) : DatAll K M H (cutV xs lo hi) (cutD ds lo hi) := by
  unfold cutV cutD
  rw [h.length]
  exact (h.drop _).take _
theorem cut_map {β : Type} (f : β → V) (xs : List β) (lo hi : Option Int) : cutV (xs.map f) lo hi = (cutD xs lo hi).map f := by
  unfold cutV cutD
  rw [List.length_map, ← List.map_drop, ← List.map_take]
/-- the whole of it -/
theorem cut_whole {α : Type} {xs : List α} {lo hi : Option Int} (h : HT.sIx xs.length 0 lo = 0 ∧ HT.sIx xs.length xs.length hi = xs.length) : cutD xs lo hi = xs := by
  unfold cutD
  rw [h.1, h.2, Nat.sub_zero, List.drop_zero, List.take_length]
def dSl : D → Option Int → Option Int → Option D
  | .tup ds, lo, hi => some (.tup (cutD ds lo hi))
  | .lst ds, lo, hi => some (.lst (cutD ds lo hi))
  | .scr ns, lo, hi => some (.lst ((cutD ns lo hi).map .int))
  | .str z, lo, hi => if z.length ≤ sizeLine then some (.str (cutS z lo hi)) else none
  | _, _, _ => none
section
variable {X : Cx}
theorem ix_ALL : IxR X (rD X.K dIx) := by
  intro value slice pins s σ H x y v u Q I rx ry h hs
  obtain ⟨M, d, e, r, k, hd, he, hg, q⟩ := h
  cases d <;> cases e <;> try (simp [dIx] at hg; done)
  case tup.int ds i =>
    cases he
    cases hd with
    | tup h1 a1 =>
      obtain ⟨w, e1, w1⟩ := atI_dat a1 hg
      exact ix_tup value slice pins s σ H _ _ v u Q I rx ry ⟨_, _, i, w, rfl, rfl, h1, e1, q _ H (.refl H) w1⟩ hs
  case lst.int ds i =>
    cases he
    cases hd with
    | lst n h1 a1 =>
      obtain ⟨w, e1, w1⟩ := atI_dat a1 hg
      exact ix_list value slice pins s σ H _ _ v u Q I rx ry ⟨_, _, i, w, rfl, rfl, SqL.of h1, e1, q _ H (.refl H) w1⟩ hs
  case scr.int ns i =>
    cases he
    cases hd with
    | scr h1 =>
      obtain ⟨n, e1, rfl⟩ := map_some hg
      exact ix_list value slice pins s σ H _ _ v u Q I rx ry ⟨_, _, i, .int n, rfl, rfl, fz_sub h1, by rw [atI_map, e1]; rfl, q _ H (.refl H) (.int n)⟩ hs
  case str.int z i =>
    cases he; cases hd
    have hg : (if z.length ≤ sizeLine then (atI z.cps.toList i).map fun c => D.str ⟨#[c]⟩ else none) = some r := hg
    split at hg
    · rename_i hz
      obtain ⟨c, e1, rfl⟩ := map_some hg
      exact ix_str value slice pins s σ H _ _ v u Q I rx ry ⟨z, i, c, rfl, rfl, hz, e1, q _ H (.refl H) (.str _)⟩ hs
    · cases hg
theorem sl_ALL : SlR X (rS X.K dSl) := by
  intro pins s σ H x v vl vu lo hi sl Q I rx hs pl pu h
  obtain ⟨M, d, r, k, hd, hg, q⟩ := h
  cases d <;> try (simp [dSl] at hg; done)
  case tup ds =>
    cases hg
    cases hd with
    | tup h1 a1 =>
      refine sl_tupA pins s σ H _ v vl vu lo hi sl Q I rx hs pl pu ⟨_, _, rfl, h1, fun w => ?_, fun _ p hp => ?_⟩
      · rw [a1.length] at w
        refine q _ H (.refl H) ?_
        rw [cut_whole w]
        exact .tup h1 a1
      · exact q _ _ (dat_tup hp (cut_dat lo hi a1)).1 (dat_tup hp (cut_dat lo hi a1)).2
  case lst ds =>
    cases hg
    cases hd with
    | lst n h1 a1 =>
      refine sl_list pins s σ H _ v vl vu lo hi sl Q I rx hs pl pu ⟨_, _, rfl, SqL.of h1, fun p hp => ?_⟩
      exact q _ _ (dat_lst k hp (cut_dat lo hi a1)).1 (dat_lst k hp (cut_dat lo hi a1)).2
  case scr ns =>
    cases hg
    cases hd with
    | scr h1 =>
      refine sl_list pins s σ H _ v vl vu lo hi sl Q I rx hs pl pu ⟨_, _, rfl, fz_sub h1, fun p hp => ?_⟩
      rw [cut_map]
      have a := dat_lst k hp (DatAll.of_ints (K := X.K) (M := M) (H := H) (cutD ns lo hi))
      exact q _ _ a.1 a.2
  case str z =>
    cases hd
    obtain ⟨hz, rfl⟩ := if_some hg
    exact sl_str pins s σ H _ v vl vu lo hi sl Q I rx hs pl pu ⟨z, rfl, hz, q _ H (.refl H) (.str _)⟩
end
def dLen : List D → Option D
  | [.tup ds] => some (.int ds.length)
  | [.lst ds] => some (.int ds.length)
  | [.scr ns] => some (.int ns.length)
  | [.str z] => if z.length ≤ sizeLine then some (.int z.length) else none
  | _ => none
def dAbs : List D → Option D
  | [.int i] => some (.int (if i < 0 then -i else i))
  | _ => none
def dMax : List D → Option D
  | [.int i, .int j] => some (.int (if j > i then j else i))
  | _ => none
def dMin : List D → Option D
  | [.int i, .int j] => some (.int (if j < i then j else i))
  | _ => none
def dInt : List D → Option D
  | [.int i] => some (.int i)
  | [.bl k] => some (.int (if k then 1 else 0))
  | [.str a] => if a.length ≤ 640 then (PySem.intText? a).map .int else none
  | _ => none
def dTuple : List D → Option D
  | [.lst ds] => some (.tup ds)
  | [.tup ds] => some (.tup ds)
  | _ => none
def dList : List D → Option D
  | [.lst ds] => some (.lst ds)
  | [.tup ds] => some (.lst ds)
  | _ => none
def dDivmod : List D → Option D
  | [.int i, .int j] => if 0 < j ∧ j.natAbs.log2 < 9000 then some (.tup [.int (i / j), .int (i % j)]) else none
  | _ => none
def dGcd : List D → Option D
  | [.int a, .int b] => some (.int ((Nat.gcd a.natAbs b.natAbs : Nat) : Int))
  | _ => none
def bls? : List D → Option (List Bool)
  | [] => some []
  | .bl b :: r => (bls? r).map (b :: ·)
  | _ => none
def dAll : List D → Option D
  | [.lst ds] => (bls? ds).map fun bs => .bl (bs.all id)
  | _ => none
def dRepr : List D → Option D
  | [.lst ds] => if plains ds = true ∧ PyData.showableAll (toPs ds) = true ∧ (toP (.lst ds)).depth ≤ 60 ∧ (toP (.lst ds)).shown.length ≤ sizeLine then some (.str (toP (.lst ds)).shown) else none
  | [.tup ds] => if plains ds = true ∧ PyData.showableAll (toPs ds) = true ∧ (toP (.tup ds)).depth ≤ 60 ∧ (toP (.tup ds)).shown.length ≤ sizeLine then some (.str (toP (.tup ds)).shown) else none
  | [.int i] => if i.natAbs.log2 < 1920 then some (.str (toString i)) else none
  | _ => none
theorem bls_eq : ∀ {ds : List D} {bs : List Bool}, bls? ds = some bs → ds = bs.map D.bl
  | [], _, h => by cases h; rfl
  | .bl b :: r, _, h => by
    obtain ⟨t, e, rfl⟩ := map_some (show (bls? r).map _ = _ from h)
    rw [bls_eq e]; rfl
  | .non :: _, _, h | .int _ :: _, _, h | .str _ :: _, _, h | .tup _ :: _, _, h | .lst _ :: _, _, h | .dic _ _ :: _, _, h | .dit _ _ :: _, _, h | .ins _ _ _ :: _, _, h | .cls _ :: _, _, h | .ty _ :: _, _, h | .scr _ :: _, _, h => by simp [bls?] at h
section
variable {X : Cx}
/-- what the value list of one argument is -/
theorem one_of {K : PySem.W.Frag} {M : Addr → Prop} {H : Hp} {xs : List V} {d : D} (h : DatAll K M H xs [d]) : ∃ v, xs = [v] ∧ Dat K M H v d := by
  cases h with
  | cons a t => cases t; exact ⟨_, rfl, a⟩
theorem two_of {K : PySem.W.Frag} {M : Addr → Prop} {H : Hp} {xs : List V} {d e : D} (h : DatAll K M H xs [d, e]) : ∃ v w, xs = [v, w] ∧ Dat K M H v d ∧ Dat K M H w e := by
  cases h with
  | cons a t => cases t with | cons b t => cases t; exact ⟨_, _, rfl, a, b⟩
theorem dat_ii {K : PySem.W.Frag} {M : Addr → Prop} {H : Hp} (i j : Int) : DatAll K M H [.int i, .int j] [.int i, .int j] := .cons (.int i) (.cons (.int j) .nil)
theorem dat_ii_put {K : PySem.W.Frag} {M : Addr → Prop} {H : Hp} {i j : Int} {p : Addr} {Q : VK} (hp : H p = none) (q : ∀ u H', Same H H' → Dat K M H' u (.tup [.int i, .int j]) → Q u H') : Q (.ref p) (upd H p (.tup [.int i, .int j])) :=
  q _ _ (dat_tup hp (dat_ii (K := K) (M := M) i j)).1 (dat_tup hp (dat_ii i j)).2
theorem call_LEN : CallR X (.builtin "len") (rC X.K dLen) := by
  intro pins s σ H xs us Q I r h
  obtain ⟨M, ds, z, k, hd, hg, q⟩ := h
  unfold dLen at hg
  split at hg <;> try (cases hg; done)
  · cases hg
    obtain ⟨v, rfl, hv⟩ := one_of hd
    cases hv with
    | tup h1 a1 => exact call_len pins s σ H _ us Q I r ⟨_, _, rfl, .inr ⟨_, h1, rfl⟩, by rw [a1.length]; exact q _ H (.refl H) (.int _)⟩
  · cases hg
    obtain ⟨v, rfl, hv⟩ := one_of hd
    cases hv with
    | lst n h1 a1 => exact call_len pins s σ H _ us Q I r ⟨_, _, rfl, .inl ⟨_, SqL.of h1, rfl⟩, by rw [a1.length]; exact q _ H (.refl H) (.int _)⟩
  · cases hg
    obtain ⟨v, rfl, hv⟩ := one_of hd
    cases hv with
    | scr h1 => exact call_len pins s σ H _ us Q I r ⟨_, _, rfl, .inl ⟨_, fz_sub h1, rfl⟩, by rw [List.length_map]; exact q _ H (.refl H) (.int _)⟩
  · obtain ⟨hz, rfl⟩ := if_some hg
    obtain ⟨v, rfl, hv⟩ := one_of hd
    cases hv
    exact call_len pins s σ H _ us Q I r ⟨_, _, rfl, ⟨hz, rfl⟩, q _ H (.refl H) (.int _)⟩
theorem call_ABS : CallR X (.builtin "abs") (rC X.K dAbs) := by
  intro pins s σ H xs us Q I r h
  obtain ⟨M, ds, z, k, hd, hg, q⟩ := h
  unfold dAbs at hg
  split at hg <;> try (cases hg; done)
  cases hg
  obtain ⟨v, rfl, hv⟩ := one_of hd
  cases hv
  exact call_abs pins s σ H _ us Q I r ⟨_, rfl, q _ H (.refl H) (.int _)⟩
theorem call_MAX (hc : X.calm = true) : CallR X (.builtin "max") (rC X.K dMax) := by
  intro pins s σ H xs us Q I r h
  obtain ⟨M, ds, z, k, hd, hg, q⟩ := h
  unfold dMax at hg
  split at hg <;> try (cases hg; done)
  cases hg
  obtain ⟨v, w, rfl, hv, hw⟩ := two_of hd
  cases hv; cases hw
  exact call_max2 hc pins s σ H _ us Q I r ⟨_, _, rfl, q _ H (.refl H) (.int _)⟩
theorem call_MIN (hc : X.calm = true) : CallR X (.builtin "min") (rC X.K dMin) := by
  intro pins s σ H xs us Q I r h
  obtain ⟨M, ds, z, k, hd, hg, q⟩ := h
  unfold dMin at hg
  split at hg <;> try (cases hg; done)
  cases hg
  obtain ⟨v, w, rfl, hv, hw⟩ := two_of hd
  cases hv; cases hw
  exact call_min2 hc pins s σ H _ us Q I r ⟨_, _, rfl, q _ H (.refl H) (.int _)⟩
theorem call_INT : CallR X (.type "int") (rC X.K dInt) := by
  intro pins s σ H xs us Q I r h
  obtain ⟨M, ds, z, k, hd, hg, q⟩ := h
  unfold dInt at hg
  split at hg <;> try (cases hg; done)
  · cases hg
    obtain ⟨v, rfl, hv⟩ := one_of hd
    cases hv
    exact call_int1 pins s σ H _ us Q I r (.inl ⟨_, rfl, q _ H (.refl H) (.int _)⟩)
  · cases hg
    obtain ⟨v, rfl, hv⟩ := one_of hd
    cases hv
    exact call_int1 pins s σ H _ us Q I r (.inr ⟨_, rfl, q _ H (.refl H) (.int _)⟩)
  · split at hg
    · obtain ⟨v, rfl, hv⟩ := one_of hd
      cases hv
      obtain ⟨n, e, rfl⟩ := map_some hg
      exact call_int_str pins s σ H _ us Q I r ⟨_, n, rfl, e, by assumption, q _ H (.refl H) (.int _)⟩
    · cases hg
theorem call_TUPLE : CallR X (.type "tuple") (rC X.K dTuple) := by
  intro pins s σ H xs us Q I r h
  obtain ⟨M, ds, z, k, hd, hg, q⟩ := h
  unfold dTuple at hg
  split at hg <;> try (cases hg; done)
  · cases hg
    obtain ⟨v, rfl, hv⟩ := one_of hd
    cases hv with
    | lst n h1 a1 => exact call_tuple_of pins s σ H _ us Q I r ⟨_, _, rfl, .inl ⟨SqL.of h1, fun l hl => q _ _ (dat_tup hl a1).1 (dat_tup hl a1).2⟩⟩
  · cases hg
    obtain ⟨v, rfl, hv⟩ := one_of hd
    cases hv with
    | tup h1 a1 => exact call_tuple_of pins s σ H _ us Q I r ⟨_, _, rfl, .inr ⟨h1, q _ H (.refl H) (.tup h1 a1)⟩⟩
theorem call_LIST : CallR X (.type "list") (rCN X.K dList) := by
  intro pins s σ H xs us Q I r h
  obtain ⟨M, ds, z, k, hd, hg, q⟩ := h
  unfold dList at hg
  split at hg <;> try (cases hg; done)
  · cases hg
    obtain ⟨v, rfl, hv⟩ := one_of hd
    cases hv with
    | lst n h1 a1 => exact call_list_of pins s σ H _ us Q I r ⟨_, _, rfl, .inl (SqL.of h1), fun l hl => q l _ _ hl (same_new hl) upd_same (.lst a1)⟩
  · cases hg
    obtain ⟨v, rfl, hv⟩ := one_of hd
    cases hv with
    | tup h1 a1 => exact call_list_of pins s σ H _ us Q I r ⟨_, _, rfl, .inr h1, fun l hl => q l _ _ hl (same_new hl) upd_same (.lst a1)⟩
theorem call_DIVMOD : CallR X (.builtin "divmod") (rC X.K dDivmod) := by
  intro pins s σ H xs us Q I r h
  obtain ⟨M, ds, z, k, hd, hg, q⟩ := h
  unfold dDivmod at hg
  split at hg <;> try (cases hg; done)
  obtain ⟨hz, rfl⟩ := if_some hg
  obtain ⟨v, w, rfl, hv, hw⟩ := two_of hd
  cases hv; cases hw
  refine call_divmodW pins s σ H _ us Q I r ⟨_, _, rfl, ⟨hz.1, PyProof.noPylong_of_log2 hz.2⟩, fun p hp => ?_⟩
  exact dat_ii_put hp q
theorem call_GCD : CallR X (.builtin "math.gcd") (rC X.K dGcd) := by
  intro pins s σ H xs us Q I r h
  obtain ⟨M, ds, z, k, hd, hg, q⟩ := h
  unfold dGcd at hg
  split at hg <;> try (cases hg; done)
  cases hg
  obtain ⟨v, w, rfl, hv, hw⟩ := two_of hd
  cases hv; cases hw
  exact cr_gcd pins s σ H _ us Q I r ⟨_, _, rfl, q _ H (.refl H) (.int _)⟩
theorem call_ALL (hc : X.calm = true) : CallR X (.builtin "all") (rC X.K dAll) := by
  intro pins s σ H xs us Q I r h
  obtain ⟨M, ds, z, k, hd, hg, q⟩ := h
  unfold dAll at hg
  split at hg <;> try (cases hg; done)
  obtain ⟨bs, e, rfl⟩ := map_some hg
  obtain ⟨v, rfl, hv⟩ := one_of hd
  cases hv with
  | lst n h1 a1 =>
    rw [bls_eq e] at a1
    rw [a1.bls] at h1
    exact cr_all hc pins s σ H _ us Q I r ⟨_, bs, rfl, SqL.of h1, q _ H (.refl H) (.bl _)⟩
theorem call_REPR (hg : X.A.guards = some []) (hu : X.A.units + 64 < cLine) : CallR X (.builtin "repr") (rC X.K dRepr) := by
  intro pins s σ H xs us Q I r h
  obtain ⟨M, ds, z, k, hd, hg', q⟩ := h
  have core : ∀ (d : D) (a : Addr) (u : Value), Dat X.K M H (.ref a) d → RelV (.ref a) u → plain d = true → (toP d).showable = true → (toP d).depth ≤ 60 → (toP d).shown.length ≤ sizeLine → Q (.str (toP d).shown) H → us = [u] → wpAny (model X.prog X.w) X.A (call (.builtin "repr") us) (EP X pins σ Q) X.xe s := by
    intro d a u hv ru hp hs hdp hl hq e
    subst e
    obtain ⟨as, hr⟩ := hv.reads I _ _ _ hp ru
    cases ru
    refine repr_of_reads' (h₀ := s.heap) hr hs (PyData.noDict_hsm (noDict d hp)) hg (by omega) (fun b o e => e) (fun h' u tk k => ?_) hl
    exact ⟨.str (toP d).shown, H, I.kept (t' := tk) k, ⟨u, rfl⟩, hq⟩
  unfold dRepr at hg'
  split at hg' <;> try (cases hg'; done)
  · obtain ⟨⟨a1, a2, a3, a4⟩, rfl⟩ := if_some hg'
    obtain ⟨v, rfl, hv⟩ := one_of hd
    obtain ⟨u, rfl, ru⟩ := vals1 r
    obtain ⟨a, rfl⟩ : ∃ a, v = .ref a := by cases hv <;> exact ⟨_, rfl⟩
    exact core _ a u hv ru (by simpa only [plain] using a1) (by simp only [toP, PyData.showable]; exact a2) a3 a4 (q _ H (.refl H) (.str _)) rfl
  · obtain ⟨⟨a1, a2, a3, a4⟩, rfl⟩ := if_some hg'
    obtain ⟨v, rfl, hv⟩ := one_of hd
    obtain ⟨u, rfl, ru⟩ := vals1 r
    obtain ⟨a, rfl⟩ : ∃ a, v = .ref a := by cases hv <;> exact ⟨_, rfl⟩
    exact core _ a u hv ru (by simpa only [plain] using a1) (by simp only [toP, PyData.showable]; exact a2) a3 a4 (q _ H (.refl H) (.str _)) rfl
  · obtain ⟨hz, rfl⟩ := if_some hg'
    obtain ⟨v, rfl, hv⟩ := one_of hd
    cases hv
    exact SkE.call_repr_int pins s σ H _ us Q I r ⟨_, rfl, hz, q _ H (.refl H) (.str _)⟩
end
def tyName : D → Option String
  | .non => some "NoneType" | .bl _ => some "bool" | .int _ => some "int" | .str _ => some "str" | .tup _ => some "tuple"
  | .lst _ | .scr _ => some "list" | .dic _ _ => some "dict" | .dit _ _ | .ins _ _ _ | .cls _ | .ty _ => none
def tyNames : List String := ["NoneType", "bool", "int", "str", "tuple", "list", "dict"]
def isTy (n T : String) : Bool := n == T || (n == "bool" && T == "int")
def dIsT : List D → Option D
  | [d, .ty T] => if T ∈ tyNames then (tyName d).map fun n => .bl (isTy n T) else none
  | _ => none
theorem kit_all : ∀ n ∈ tyNames, ∀ T ∈ tyNames, kitB n T = some (isTy n T) := by decide +kernel
theorem tyName_mem {d : D} {n : String} (h : tyName d = some n) : n ∈ tyNames := by
  cases d <;> simp only [tyName, Option.some.injEq, reduceCtorEq] at h <;> subst h <;> decide
theorem tyX_of {K : PySem.W.Frag} {M : Addr → Prop} {H : Hp} {v : V} {d : D} {n : String} (h : Dat K M H v d) (e : tyName d = some n) : TyX K H v (.type n) := by
  cases h with
  | non => cases e; exact .base .non
  | bl b => cases e; exact .base (.bl b)
  | int b => cases e; exact .base (.int b)
  | str b => cases e; exact .base (.str b)
  | tup h a =>
    cases e
    rcases h with (h | ⟨o, h⟩) | ⟨o, its, n, h, c, _⟩
    · exact .base (.tup h)
    · exact .fTuple h
    · exact .kTuple h c
  | lst n h a => cases e; exact .base (.lst h)
  | dic n h q a =>
    cases e
    rcases h with h | ⟨o, h⟩
    · exact .base (.dK h)
    · exact .fDict h
  | dit n h q a => cases e
  | ins n h q a => cases e
  | cls a => cases e
  | ty a => cases e
  | scr h =>
    cases e
    rcases h with (h | ⟨o, h⟩) | ⟨o, its, n, h, c, _⟩
    · obtain ⟨_, _, z, _⟩ := fz_some h
      cases z
    · obtain ⟨ob, u, z, w⟩ := fz_some h
      cases z
      exact .base (.frz w)
    · exact .kList h c
section
variable {X : Cx}
/-- isinstance(x, T) -/
theorem call_ISIT : CallR X (.builtin "isinstance") (rC X.K dIsT) := by
  intro pins s σ H xs us Q I r h
  obtain ⟨M, ds, z, k, hd, hg, q⟩ := h
  unfold dIsT at hg
  split at hg
  · rename_i d T
    split at hg
    · rename_i hT
      obtain ⟨n, hn, rfl⟩ := map_some hg
      obtain ⟨v, w, rfl, hv, hw⟩ := two_of hd
      cases hw
      exact call_isi pins s σ H _ us Q I r ⟨v, .ty T, _, _, _, rfl, .ty T, tyX_of hv hn, kit_ty (kit_all n (tyName_mem hn) T hT), q _ H (.refl H) (.bl _)⟩
    · cases hg
  · cases hg
end
end DL
set_option autoImplicit false
namespace DL
open PySem PySem.Spec PyProof.Rows L2
def mC {α : Type} (a : α) : Mo α := fun ρ => some (a, ρ)
def mBd {α β : Type} (m : Mo α) (f : α → Mo β) : Mo β := fun ρ => match m ρ with
  | some (a, ρ') => f a ρ'
  | none => none
def mL {α : Type} (o : Option α) : Mo α := fun ρ => match o with
  | some a => some (a, ρ)
  | none => none
def mVar (i : Nat) : Mo D := fun ρ => match ρ[i]? with
  | some (.dat d) => some (d, ρ)
  | some (.own false d) => some (d, ρ.set i (.dat d))
  | _ => none
def mOp (g : D → D → Option D) (a b : Mo D) : Mo D := mBd a fun x => mBd b fun y => mL (g x y)
def mUn (g : D → Option D) (a : Mo D) : Mo D := mBd a fun x => mL (g x)
def bl? : D → Option Bool
  | .bl b => some b
  | _ => none
/-- a bool, as a test -/
def mTst (a : Mo D) : Mo Bool := mBd a fun x => mL (bl? x)
def mAndV (a b : Mo D) : Mo D := mBd (mTst a) fun x => if x = true then b else mC (.bl false)
def mOrV (a b : Mo D) : Mo D := mBd (mTst a) fun x => if x = true then mC (.bl true) else b
def mNotV (a : Mo D) : Mo D := mBd (mTst a) fun x => mC (.bl (!x))
def mAnd (a b : Mo Bool) : Mo Bool := mBd a fun x => if x = true then b else mC false
def mOr (a b : Mo Bool) : Mo Bool := mBd a fun x => if x = true then mC true else b
def mNot (a : Mo Bool) : Mo Bool := mBd a fun x => mC (!x)
def mIf (t : Mo Bool) (a b : Mo D) : Mo D := mBd t fun x => if x = true then a else b
def mChain (g h : D → D → Option D) (a b c : Mo D) : Mo D := mBd a fun x => mBd b fun y => mBd (mL (g x y)) fun z => mBd (mL (bl? z)) fun k => if k = true then mBd c fun w => mL (h y w) else mC z
def aNil : Mo (List D) := mC []
def aCons (a : Mo D) (r : Mo (List D)) : Mo (List D) := mBd a fun x => mBd r fun xs => mC (x :: xs)
def mTup (a : Mo (List D)) : Mo D := mBd a fun xs => mL (if xs.length ≤ sizeLine then some (.tup xs) else none)
def mLst (a : Mo (List D)) : Mo D := mBd a fun xs => mL (if xs.length ≤ sizeLine then some (.lst xs) else none)
def mFn (g : List D → Option D) (a : Mo (List D)) : Mo D := mBd a fun xs => mL (g xs)
def int? : D → Option Int
  | .int i => some i
  | _ => none
def mNo : Mo (Option Int) := mC none
def mPart (a : Mo D) : Mo (Option Int) := mBd a fun x => mBd (mL (int? x)) fun i => mC (some i)
def mSl (g : D → Option Int → Option Int → Option D) (a : Mo D) (l h : Mo (Option Int)) : Mo D := mBd a fun x => mBd l fun i => mBd h fun j => mL (g x i j)
theorem mBd_some {α β : Type} {m : Mo α} {f : α → Mo β} {ρ ρ' : Cs} {b : β} (h : mBd m f ρ = some (b, ρ')) : ∃ a ρ1, m ρ = some (a, ρ1) ∧ f a ρ1 = some (b, ρ') := by
  unfold mBd at h
  split at h
  · exact ⟨_, _, by assumption, h⟩
  · cases h
theorem mL_some {α : Type} {o : Option α} {ρ ρ' : Cs} {a : α} (h : mL o ρ = some (a, ρ')) : o = some a ∧ ρ' = ρ := by
  unfold mL at h
  split at h
  · cases h; exact ⟨rfl, rfl⟩
  · cases h
theorem mC_some {α : Type} {x : α} {ρ ρ' : Cs} {a : α} (h : mC x ρ = some (a, ρ')) : a = x ∧ ρ' = ρ := by
  unfold mC at h
  cases h; exact ⟨rfl, rfl⟩
def ROv {K : PySem.W.Frag} (c : Ctx K) (t : TO) (m : Mo (Option Int)) : Prop := ∀ M σ H ρ, Sta c M σ H ρ → ∀ o ρ', m ρ = some (o, ρ') → ∀ Q : Option Int → Hp → Prop, (∀ M' H', Es σ M H ρ σ M' H' ρ' → Sta c M' σ H' ρ' → Q o H') → t σ H Q
structure DO' (X : Cx) {K : PySem.W.Frag} (c : Ctx K) (e : Option Expr) (t : TO) (m : Mo (Option Int)) : Prop where
  p : PO X e t
  r : ROv c t m
section
variable {K : PySem.W.Frag} {c : Ctx K} {ta tb tc : TE} {ma mb mc : Mo D} {t t' : TT} {m m' : Mo Bool} {tl : TA} {ml : Mo (List D)}
theorem r_const {v : V} {d : D} (h : ∀ M H, Dat K M H v d) : REv c (tC v) (mC d) := by
  intro M σ H ρ S e ρ' hm Q q
  obtain ⟨rfl, rfl⟩ := mC_some hm
  exact q M v H .refl S (h M H)
theorem r_var (i : Nat) : REv c (tVar i) (mVar i) := by
  intro M σ H ρ S d ρ' hm Q q
  unfold mVar at hm
  split at hm
  · rename_i e
    cases hm
    obtain ⟨v, hv, hd⟩ := S.dat e
    exact ⟨v, hv, q M v H .refl S hd⟩
  · rename_i e
    cases hm
    obtain ⟨a, ha, _, _, _⟩ := S.own e
    obtain ⟨E, S', hd⟩ := S.freezeE ha e
    exact ⟨_, ha, q _ _ H E S' hd⟩
  · cases hm
theorem r_op {g : D → D → Option D} (ha : REv c ta ma) (hb : REv c tb mb) : REv c (tOp (rD K g) ta tb) (mOp g ma mb) := by
  intro M σ H ρ S d ρ' hm Q q
  obtain ⟨x, ρ1, h1, hm⟩ := mBd_some hm
  obtain ⟨y, ρ2, h2, hm⟩ := mBd_some hm
  obtain ⟨hg, rfl⟩ := mL_some hm
  refine ha M σ H ρ S x ρ1 h1 _ fun M1 v H1 E1 S1 d1 => hb M1 σ H1 ρ1 S1 y _ h2 _ fun M2 w H2 E2 S2 d2 => ?_
  exact ⟨M2, x, y, d, S2.kind, d1.ev S1.kind E2.ev, d2, hg, fun u H3 s h => q M2 u H3 ((E1.trans E2 S.kind).trans (.same s) S.kind) (S2.same s) h⟩
theorem r_new {M M1 : Addr → Prop} {σ : L2.St} {H H1 H2 : Hp} {ρ ρ1 : Cs} {a : Addr} {o : HO} {d : D} {Q : VK} (S : Sta c M σ H ρ) (E : Es σ M H ρ σ M1 H1 ρ1) (S1 : Sta c M1 σ H1 ρ1) (n : H1 a = none) (s : Same H1 H2) (ho : H2 a = some o) (h : Cont K M1 H1 o d)
    (q : ∀ M' a H', H a = none → Es σ M H ρ σ M' H' ρ1 → Sta c M' σ H' ρ1 → Nw c M' σ H' ρ1 a d → Q (.ref a) H') : Q (.ref a) H2 := by
  obtain ⟨E2, S2, N⟩ := S1.nw n s ho h
  exact q _ a H2 (E.dm a n) (E.trans E2 S.kind) S2 N
theorem r_opN {g : D → D → Option D} (ha : REv c ta ma) (hb : REv c tb mb) : RNw c (tOp (rN K g) ta tb) (mOp g ma mb) := by
  intro M σ H ρ S d ρ' hm Q q
  obtain ⟨x, ρ1, h1, hm⟩ := mBd_some hm
  obtain ⟨y, ρ2, h2, hm⟩ := mBd_some hm
  obtain ⟨hg, rfl⟩ := mL_some hm
  refine ha M σ H ρ S x ρ1 h1 _ fun M1 v H1 E1 S1 d1 => hb M1 σ H1 ρ1 S1 y _ h2 _ fun M2 w H2 E2 S2 d2 => ?_
  exact ⟨M2, x, y, d, S2.kind, d1.ev S1.kind E2.ev, d2, hg, fun a H3 o n s ho h => r_new S (E1.trans E2 S.kind) S2 n s ho h q⟩
theorem r_un {g : D → Option D} (ha : REv c ta ma) : REv c (tUn (rU1 K g) ta) (mUn g ma) := by
  intro M σ H ρ S d ρ' hm Q q
  obtain ⟨x, ρ1, h1, hm⟩ := mBd_some hm
  obtain ⟨hg, rfl⟩ := mL_some hm
  refine ha M σ H ρ S x _ h1 _ fun M1 v H1 E1 S1 d1 => ?_
  exact ⟨M1, x, d, S1.kind, d1, hg, fun u H3 s h => q M1 u H3 (E1.trans (.same s) S.kind) (S1.same s) h⟩
theorem bl_of {K : PySem.W.Frag} {M : Addr → Prop} {H : Hp} {v : V} {d : D} {b : Bool} (h : Dat K M H v d) (e : bl? d = some b) : v = .bl b := by
  cases h <;> simp [bl?] at e
  subst e; rfl
theorem r_tst (ha : REv c ta ma) : RTt c (tB ta) (mTst ma) := by
  intro M σ H ρ S b ρ' hm Q q
  obtain ⟨x, ρ1, h1, hm⟩ := mBd_some hm
  obtain ⟨hg, rfl⟩ := mL_some hm
  exact ha M σ H ρ S x _ h1 _ fun M1 v H1 E1 S1 d1 => ⟨b, bl_of d1 hg, q M1 H1 E1 S1⟩
theorem r_test (ha : REv c ta ma) : RTt c (tTest ta) (mTst ma) := r_tst ha
theorem r_andV (ha : REv c ta ma) (hb : REv c tb mb) : REv c (tAndV ta tb) (mAndV ma mb) := by
  intro M σ H ρ S d ρ' hm Q q
  obtain ⟨x, ρ1, h1, hm⟩ := mBd_some hm
  obtain ⟨z, ρ2, h2, h1⟩ := mBd_some h1
  obtain ⟨hg, rfl⟩ := mL_some h1
  refine ha M σ H ρ S z _ h2 _ fun M1 v H1 E1 S1 d1 => ⟨x, bl_of d1 hg, ?_⟩
  cases x with
  | true => exact hb M1 σ H1 _ S1 d ρ' hm Q fun M2 w H2 E2 S2 d2 => q M2 w H2 (E1.trans E2 S.kind) S2 d2
  | false =>
    obtain ⟨rfl, rfl⟩ := mC_some (show mC (D.bl false) ρ1 = some (d, ρ') from hm)
    exact q M1 _ H1 E1 S1 (.bl _)
theorem r_notV (ha : REv c ta ma) : REv c (tNotV ta) (mNotV ma) := by
  intro M σ H ρ S d ρ' hm Q q
  obtain ⟨x, ρ1, h1, hm⟩ := mBd_some hm
  obtain ⟨z, ρ2, h2, h1⟩ := mBd_some h1
  obtain ⟨hg, rfl⟩ := mL_some h1
  obtain ⟨rfl, rfl⟩ := mC_some hm
  exact ha M σ H ρ S z _ h2 _ fun M1 v H1 E1 S1 d1 => ⟨x, bl_of d1 hg, q M1 _ H1 E1 S1 (.bl _)⟩
theorem r_or (ha : RTt c t m) (hb : RTt c t' m') : RTt c (tOr t t') (mOr m m') := by
  intro M σ H ρ S b ρ' hm Q q
  obtain ⟨x, ρ1, h1, hm⟩ := mBd_some hm
  refine ha M σ H ρ S x ρ1 h1 _ fun M1 H1 E1 S1 => ?_
  cases x with
  | false => exact hb M1 σ H1 ρ1 S1 b ρ' hm Q fun M2 H2 E2 S2 => q M2 H2 (E1.trans E2 S.kind) S2
  | true =>
    obtain ⟨rfl, rfl⟩ := mC_some (show mC true ρ1 = some (b, ρ') from hm)
    exact q M1 H1 E1 S1
theorem r_not (ha : RTt c t m) : RTt c (tNot t) (mNot m) := by
  intro M σ H ρ S b ρ' hm Q q
  obtain ⟨x, ρ1, h1, hm⟩ := mBd_some hm
  obtain ⟨rfl, rfl⟩ := mC_some hm
  exact ha M σ H ρ S x _ h1 _ fun M1 H1 E1 S1 => q M1 H1 E1 S1
theorem r_if (ht : RTt c t m) (ha : REv c ta ma) (hb : REv c tb mb) : REv c (tIf t ta tb) (mIf m ma mb) := by
  intro M σ H ρ S d ρ' hm Q q
  obtain ⟨x, ρ1, h1, hm⟩ := mBd_some hm
  refine ht M σ H ρ S x ρ1 h1 _ fun M1 H1 E1 S1 => ?_
  cases x with
  | true => exact ha M1 σ H1 ρ1 S1 d ρ' hm Q fun M2 w H2 E2 S2 d2 => q M2 w H2 (E1.trans E2 S.kind) S2 d2
  | false => exact hb M1 σ H1 ρ1 S1 d ρ' hm Q fun M2 w H2 E2 S2 d2 => q M2 w H2 (E1.trans E2 S.kind) S2 d2
theorem r_chain {g h : D → D → Option D} (ha : REv c ta ma) (hb : REv c tb mb) (hc : REv c tc mc) : REv c (tChain (rD K g) (rD K h) ta tb tc) (mChain g h ma mb mc) := by
  intro M σ H ρ S d ρ' hm Q q
  obtain ⟨x, ρ1, h1, hm1⟩ := mBd_some hm
  obtain ⟨y, ρ2, h2, hm2⟩ := mBd_some hm1
  obtain ⟨z, ρ3, h3, hm3⟩ := mBd_some hm2
  obtain ⟨hg, e3⟩ := mL_some h3
  subst e3
  obtain ⟨k, ρ4, h4, hm4⟩ := mBd_some hm3
  obtain ⟨hk, e4⟩ := mL_some h4
  subst e4
  refine ha M σ H ρ S x ρ1 h1 _ fun M1 v H1 E1 S1 d1 => hb M1 σ H1 ρ1 S1 y _ h2 _ fun M2 w H2 E2 S2 d2 => ?_
  refine ⟨M2, x, y, z, S2.kind, d1.ev S1.kind E2.ev, d2, hg, fun u H3 s hu => ⟨k, bl_of hu hk, ?_⟩⟩
  cases k with
  | true =>
    rw [if_pos rfl] at hm4
    obtain ⟨w', ρ5, h5, hm5⟩ := mBd_some hm4
    obtain ⟨hh, e5⟩ := mL_some hm5
    subst e5
    show if true = true then _ else _
    rw [if_pos rfl]
    refine hc M2 σ H3 _ (S2.same s) w' _ h5 _ fun M3 x3 H4 E3 S3 d3 => ?_
    exact ⟨M3, y, w', d, S3.kind, (d2.same s).ev (S2.same s).kind E3.ev, d3, hh, fun u H5 s5 h => q M3 u H5 (((E1.trans E2 S.kind).trans (.same s) S.kind).trans (E3.trans (.same s5) (S2.same s).kind) S.kind) (S3.same s5) h⟩
  | false =>
    rw [if_neg (by decide)] at hm4
    obtain ⟨e6, e7⟩ := mC_some hm4
    subst e6 e7
    show if false = true then _ else _
    rw [if_neg (by decide)]
    have eu := bl_of hu hk
    rw [eu] at hu
    exact q M2 _ H3 ((E1.trans E2 S.kind).trans (.same s) S.kind) (S2.same s) hu
theorem r_anil : RAv c tNil aNil := by
  intro M σ H ρ S d ρ' hm Q q
  obtain ⟨rfl, rfl⟩ := mC_some hm
  exact q M [] H .refl S .nil
theorem r_acons (ha : REv c ta ma) (hr : RAv c tl ml) : RAv c (tCons ta tl) (aCons ma ml) := by
  intro M σ H ρ S ds ρ' hm Q q
  obtain ⟨x, ρ1, h1, hm⟩ := mBd_some hm
  obtain ⟨xs, ρ2, h2, hm⟩ := mBd_some hm
  obtain ⟨rfl, rfl⟩ := mC_some hm
  exact ha M σ H ρ S x ρ1 h1 _ fun M1 v H1 E1 S1 d1 => hr M1 σ H1 ρ1 S1 xs _ h2 _ fun M2 vs H2 E2 S2 d2 => q M2 _ H2 (E1.trans E2 S.kind) S2 (.cons (d1.ev S1.kind E2.ev) d2)
theorem r_tup (h : RAv c tl ml) : REv c (tTup tl) (mTup ml) := by
  intro M σ H ρ S d ρ' hm Q q
  obtain ⟨xs, ρ1, h1, hm⟩ := mBd_some hm
  obtain ⟨hg, rfl⟩ := mL_some hm
  obtain ⟨hl, rfl⟩ := if_some hg
  refine h M σ H ρ S xs _ h1 _ fun M1 vs H1 E1 S1 d1 => ⟨by rw [d1.length]; exact hl, fun p hp => ?_⟩
  have a := dat_tup hp d1
  exact q M1 _ _ (E1.trans (.same a.1) S.kind) (S1.same a.1) a.2
theorem r_lst (h : RAv c tl ml) : RNw c (tLst tl) (mLst ml) := by
  intro M σ H ρ S d ρ' hm Q q
  obtain ⟨xs, ρ1, h1, hm⟩ := mBd_some hm
  obtain ⟨hg, rfl⟩ := mL_some hm
  obtain ⟨hl, rfl⟩ := if_some hg
  exact h M σ H ρ S xs _ h1 _ fun M1 vs H1 E1 S1 d1 => ⟨by rw [d1.length]; exact hl, fun p hp => r_new S E1 S1 hp (same_new hp) upd_same (.lst d1) q⟩
theorem r_fn {g : List D → Option D} (h : RAv c tl ml) : REv c (tCB (rC K g) tl) (mFn g ml) := by
  intro M σ H ρ S d ρ' hm Q q
  obtain ⟨xs, ρ1, h1, hm⟩ := mBd_some hm
  obtain ⟨hg, rfl⟩ := mL_some hm
  exact h M σ H ρ S xs _ h1 _ fun M1 vs H1 E1 S1 d1 => ⟨M1, xs, d, S1.kind, d1, hg, fun u H' s h => q M1 u H' (E1.trans (.same s) S.kind) (S1.same s) h⟩
theorem r_fnN {g : List D → Option D} (h : RAv c tl ml) : RNw c (tCB (rCN K g) tl) (mFn g ml) := by
  intro M σ H ρ S d ρ' hm Q q
  obtain ⟨xs, ρ1, h1, hm⟩ := mBd_some hm
  obtain ⟨hg, rfl⟩ := mL_some hm
  exact h M σ H ρ S xs _ h1 _ fun M1 vs H1 E1 S1 d1 => ⟨M1, xs, d, S1.kind, d1, hg, fun a H' o n s ho h => r_new S E1 S1 n s ho h q⟩
theorem r_no : ROv c tNoPart mNo := by
  intro M σ H ρ S d ρ' hm Q q
  obtain ⟨rfl, rfl⟩ := mC_some hm
  exact q M H .refl S
theorem int_of {K : PySem.W.Frag} {M : Addr → Prop} {H : Hp} {v : V} {d : D} {b : Int} (h : Dat K M H v d) (e : int? d = some b) : v = .int b := by
  cases h <;> simp [int?] at e
  subst e; rfl
theorem r_part (ha : REv c ta ma) : ROv c (tPart ta) (mPart ma) := by
  intro M σ H ρ S o ρ' hm Q q
  obtain ⟨x, ρ1, h1, hm1⟩ := mBd_some hm
  obtain ⟨i, ρ2, h2, hm2⟩ := mBd_some hm1
  obtain ⟨hg, e1⟩ := mL_some h2
  obtain ⟨e2, e3⟩ := mC_some hm2
  subst e1 e2 e3
  exact ha M σ H ρ S x _ h1 _ fun M1 v H1 E1 S1 d1 => ⟨i, int_of d1 hg, q M1 H1 E1 S1⟩
theorem r_sl {g : D → Option Int → Option Int → Option D} {tl th : TO} {ml mh : Mo (Option Int)} (ha : REv c ta ma) (hl : ROv c tl ml) (hh : ROv c th mh) : REv c (tSl (rS K g) ta tl th) (mSl g ma ml mh) := by
  intro M σ H ρ S d ρ' hm Q q
  obtain ⟨x, ρ1, h1, hm⟩ := mBd_some hm
  obtain ⟨i, ρ2, h2, hm⟩ := mBd_some hm
  obtain ⟨j, ρ3, h3, hm⟩ := mBd_some hm
  obtain ⟨hg, rfl⟩ := mL_some hm
  refine ha M σ H ρ S x ρ1 h1 _ fun M1 v H1 E1 S1 d1 => hl M1 σ H1 ρ1 S1 i ρ2 h2 _ fun M2 H2 E2 S2 => hh M2 σ H2 ρ2 S2 j _ h3 _ fun M3 H3 E3 S3 => ?_
  exact ⟨M3, x, d, S3.kind, (d1.ev S1.kind E2.ev).ev S2.kind E3.ev, hg, fun u H' s h => q M3 u H' (((E1.trans E2 S.kind).trans E3 S.kind).trans (.same s) S.kind) (S3.same s) h⟩
end
section
variable {X : Cx} {K : PySem.W.Frag} {c : Ctx K} {a b e : Expr} {es : List Expr} {pos : Pos} {ta tb tc : TE} {ma mb mc : Mo D} {t t' : TT} {m m' : Mo Bool} {tl : TA} {ml : Mo (List D)} {rest : List Expr}
theorem dv (i : Nat) {x : Str} {pos : Pos} (hN : X.N[i]? = some x := by rfl) (hv : Vis X.env.scope x := by first | exact Or.inl rfl | exact Or.inr (Or.inl rfl) | exact Or.inr (Or.inr rfl)) (hd : (x == ("__debug__" : Str)) = false := by decide)
    (hcd : (x == ("__classdict__" : Str)) = false := by decide) : DE X c (.Name x pos) (tVar i) (mVar i) := ⟨pv i hN hv hd hcd, r_var i⟩
theorem d_int {i : Int} {j pos} : DE X c (.Constant (.int i) j pos) (tC (.int i)) (mC (.int i)) := ⟨pe_int, r_const fun _ _ => .int i⟩
theorem d_bl {b j pos} : DE X c (.Constant (.bool b) j pos) (tC (.bl b)) (mC (.bl b)) := ⟨pe_bl, r_const fun _ _ => .bl b⟩
theorem d_non {j pos} : DE X c (.Constant .none j pos) (tC .non) (mC .non) := ⟨pe_non, r_const fun _ _ => .non⟩
theorem d_str {x j pos} : DE X c (.Constant (.str x) j pos) (tC (.str x)) (mC (.str x)) := ⟨pe_str, r_const fun _ _ => .str x⟩
theorem d_gi {x : Str} {n : Int} {pos : Pos} (T : L2.Ci X.mg x n) (hg : Gl X x := by rfl) (hd : (x == ("__debug__" : Str)) = false := by decide) : DE X c (.Name x pos) (tC (.int n)) (mC (.int n)) := ⟨pe_glob hg T.g ⟨_, rfl⟩ hd, r_const fun _ _ => .int n⟩
theorem d_gs {x z : Str} {pos : Pos} (T : L2.Cs X.mg x z) (hg : Gl X x := by rfl) (hd : (x == ("__debug__" : Str)) = false := by decide) : DE X c (.Name x pos) (tC (.str z)) (mC (.str z)) := ⟨pe_glob hg T.g ⟨_, rfl⟩ hd, r_const fun _ _ => .str z⟩
/-- a constant of the top by what is known of its value -/
theorem d_gd {x : Str} {v : V} {u : Value} {d : D} {pos : Pos} (hm : X.mg x = some u) (r : RelV v u) (h : ∀ M H, Dat K M H v d) (hg : Gl X x := by rfl) (hd : (x == ("__debug__" : Str)) = false := by decide) : DE X c (.Name x pos) (tC v) (mC d) := ⟨pe_glob hg hm r hd, r_const h⟩
theorem d_ty {x : Str} {n : String} {pos : Pos} (hm : X.mg x = none) (hv : bootBuiltins x = some (.type n)) (hg : Gl X x := by rfl) (hn : x ≠ "__name__" := by decide) (hd : (x == ("__debug__" : Str)) = false := by decide) : DE X c (.Name x pos) (tC (.ty n)) (mC (.ty n)) := ⟨pe_bltn hg hm hv rfl hn hd, r_const fun _ _ => .ty n⟩
theorem d_cls {x : Str} {C : Addr} {pos : Pos} (hm : X.mg x = some (.ref C)) (hg : Gl X x := by rfl) (hd : (x == ("__debug__" : Str)) = false := by decide) : DE X c (.Name x pos) (tC (.ref C)) (mC (.cls C)) := ⟨pe_glob hg hm rfl hd, r_const fun _ _ => .cls C⟩
theorem d_op {op : Operator} {g : D → D → Option D} (ho : OpR X (binaryOp op) (rD X.K g)) (ha : DE X c a ta ma) (hb : DE X c b tb mb) (hK : X.K = K := by rfl) : DE X c (.BinOp a op b pos) (tOp (rD K g) ta tb) (mOp g ma mb) := ⟨by rw [← hK]; exact pe_op ho ha.p hb.p, r_op ha.r hb.r⟩
theorem d_cat (ha : DE X c a ta ma) (hb : DE X c b tb mb) (hK : X.K = K := by rfl) : DN X c (.BinOp a .Add b pos) (tOp (rN K dCat) ta tb) (mOp dCat ma mb) := ⟨by rw [← hK]; exact pe_op op_CAT ha.p hb.p, r_opN ha.r hb.r⟩
theorem d_neg (ha : DE X c a ta ma) (hK : X.K = K := by rfl) : DE X c (.UnaryOp .USub a pos) (tUn (rU1 K dNeg) ta) (mUn dNeg ma) := ⟨by rw [← hK]; exact pe_un un_NEG ha.p, r_un ha.r⟩
theorem d_notV (ha : DE X c a ta ma) : DE X c (.UnaryOp .Not a pos) (tNotV ta) (mNotV ma) := ⟨pe_not ha.p, r_notV ha.r⟩
theorem d_cmp {op : CmpOp} {g : D → D → Option D} (ho : OpR X (compareOp op) (rD X.K g)) (ha : DE X c a ta ma) (hb : DE X c b tb mb) (hm : behindInMarks op b = false) (hK : X.K = K := by rfl) : DE X c (.Compare a [op] [b] pos) (tOp (rD K g) ta tb) (mOp g ma mb) := ⟨by rw [← hK]; exact pe_cmpR ho ha.p hb.p hm, r_op ha.r hb.r⟩
theorem d_tcmp {op : CmpOp} {g : D → D → Option D} (ho : OpR X (compareOp op) (rD X.K g)) (ha : DE X c a ta ma) (hb : DE X c b tb mb) (hm : behindInMarks op b = false) (hK : X.K = K := by rfl) : DT X c (.Compare a [op] [b] pos) (tTest (tOp (rD K g) ta tb)) (mTst (mOp g ma mb)) := ⟨by rw [← hK]; exact pt_cmpR ho ha.p hb.p hm, r_test (r_op ha.r hb.r)⟩
theorem d_chain {op op' : CmpOp} {g h : D → D → Option D} {d : Expr} (ho : OpR X (compareOp op) (rD X.K g)) (ho' : OpR X (compareOp op') (rD X.K h)) (ha : DE X c a ta ma) (hb : DE X c b tb mb) (hc : DE X c d tc mc) (hm : lastMarks [op, op'] [b, d] = false := by rfl) (hK : X.K = K := by rfl) :
    DE X c (.Compare a [op, op'] [b, d] pos) (tChain (rD K g) (rD K h) ta tb tc) (mChain g h ma mb mc) := ⟨by rw [← hK]; exact pe_chain ho ho' ha.p hb.p hc.p hm, r_chain ha.r hb.r hc.r⟩
theorem d_tchain {op op' : CmpOp} {g h : D → D → Option D} {d : Expr} (ho : OpR X (compareOp op) (rD X.K g)) (ho' : OpR X (compareOp op') (rD X.K h)) (ha : DE X c a ta ma) (hb : DE X c b tb mb) (hc : DE X c d tc mc) (hm : lastMarks [op, op'] [b, d] = false := by rfl) (hK : X.K = K := by rfl) :
    DT X c (.Compare a [op, op'] [b, d] pos) (tTest (tChain (rD K g) (rD K h) ta tb tc)) (mTst (mChain g h ma mb mc)) := ⟨by rw [← hK]; exact pt_chain ho ho' ha.p hb.p hc.p hm, r_test (r_chain ha.r hb.r hc.r)⟩
theorem d_tval (ha : DE X c e ta ma) (he : ∀ whole, isTrue e X.env whole = (do let v ← whole; standAt e.pos; holding [v] (truthy v)) := by intro _; rfl) : DT X c e (tB ta) (mTst ma) := ⟨pt_val ha.p he, r_tst ha.r⟩
theorem d_one {op} (h : DE X c a ta ma) : DE X c (.BoolOp op [a] pos) ta ma := ⟨pe_one h.p, h.r⟩
theorem d_andV (ha : DE X c a ta ma) (hb : DE X c (.BoolOp .And (b :: rest) pos) tb mb) : DE X c (.BoolOp .And (a :: b :: rest) pos) (tAndV ta tb) (mAndV ma mb) := ⟨pe_and ha.p hb.p, r_andV ha.r hb.r⟩
theorem d_or1 (ha : DT X c a t m) : DW X c (.BoolOp .Or [a] pos) t m := ⟨pw_or1 ha.p, ha.r⟩
theorem d_or (ha : DT X c a t m) (hb : DW X c (.BoolOp .Or (b :: rest) pos) t' m') : DW X c (.BoolOp .Or (a :: b :: rest) pos) (tOr t t') (mOr m m') := ⟨pw_or ha.p hb.p, r_or ha.r hb.r⟩
theorem DW.dt (h : DW X c e t m) : DT X c e t m := ⟨h.p.pt, h.r⟩
theorem d_not (ha : DT X c a t m) : DT X c (.UnaryOp .Not a pos) (tNot t) (mNot m) := ⟨pt_not ha.p, r_not ha.r⟩
theorem d_if (ht : DT X c e t m) (ha : DE X c a ta ma) (hb : DE X c b tb mb) : DE X c (.IfExp e a b pos) (tIf t ta tb) (mIf m ma mb) := ⟨pe_ifExp ht.p ha.p hb.p, r_if ht.r ha.r hb.r⟩
theorem d_anil : DA X c [] tNil aNil := ⟨pa_nil, r_anil⟩
theorem d_acons (ha : DE X c e ta ma) (hr : DA X c es tl ml) (hs : starEach (e :: es) X.env = (false, eval e X.env) :: starEach es X.env := by rfl) : DA X c (e :: es) (tCons ta tl) (aCons ma ml) := ⟨pa_cons ha.p hr.p hs, r_acons ha.r hr.r⟩
theorem d_tup {x1} (h : DA X c es tl ml) : DE X c (.Tuple es x1 pos) (tTup tl) (mTup ml) := ⟨pe_tup h.p, r_tup h.r⟩
theorem d_lst (h : DA X c es tl ml) : DN X c (.List es pos) (tLst tl) (mLst ml) := ⟨pe_lst h.p, r_lst h.r⟩
theorem d_ix (ha : DE X c a ta ma) (hb : DE X c b tb mb) (hs : PlainIx b) (hK : X.K = K := by rfl) : DE X c (.Subscript a b pos) (tOp (rD K dIx) ta tb) (mOp dIx ma mb) := ⟨by rw [← hK]; exact pe_ix ix_ALL ha.p hb.p hs, r_op ha.r hb.r⟩
theorem d_no : DO' X c none tNoPart mNo := ⟨po_none, r_no⟩
theorem d_part (h : DE X c e ta ma) : DO' X c (some e) (tPart ta) (mPart ma) := ⟨po_some h.p, r_part h.r⟩
theorem d_sl {lo hi : Option Expr} {p2 : Pos} {tl th : TO} {mlo mhi : Mo (Option Int)} (ha : DE X c a ta ma) (hl : DO' X c lo tl mlo) (hh : DO' X c hi th mhi) (hK : X.K = K := by rfl) : DE X c (.Subscript a (.Slice lo hi none p2) pos) (tSl (rS K dSl) ta tl th) (mSl dSl ma mlo mhi) := ⟨by rw [← hK]; exact pe_slice sl_ALL ha.p hl.p hh.p, r_sl ha.r hl.r hh.r⟩
theorem d_blt {x : Str} {id : String} {g : List D → Option D} {p : Pos} (hc : CallR X (.builtin id) (rC X.K g)) (hm : X.mg x = none) (hv : bootBuiltins x = some (.builtin id)) (ha : DA X c (e :: es) tl ml) (hg : Gl X x := by rfl) (hn : x ≠ "__name__" := by decide) (hdb : (x == ("__debug__" : Str)) = false := by decide)
    (he : starEach (e :: es) X.env = (false, eval e X.env) :: starEach es X.env := by rfl) (hpl : (backTo pos (starEach es X.env)).any (·.1) = false := by rfl) (hK : X.K = K := by rfl) : DE X c (.Call (.Name x p) (e :: es) [] pos) (tCB (rC K g) tl) (mFn g ml) := ⟨by rw [← hK]; exact pe_callB hc hg hm hv ha.p hn hdb he hpl, r_fn ha.r⟩
theorem d_cty {x : Str} {T : String} {g : List D → Option D} {p : Pos} (hc : CallR X (.type T) (rC X.K g)) (hm : X.mg x = none) (hv : bootBuiltins x = some (.type T)) (ha : DA X c (e :: es) tl ml) (hg : Gl X x := by rfl) (hn : x ≠ "__name__" := by decide) (hdb : (x == ("__debug__" : Str)) = false := by decide)
    (he : starEach (e :: es) X.env = (false, eval e X.env) :: starEach es X.env := by rfl) (hpl : (backTo pos (starEach es X.env)).any (·.1) = false := by rfl) (hK : X.K = K := by rfl) : DE X c (.Call (.Name x p) (e :: es) [] pos) (tCB (rC K g) tl) (mFn g ml) := ⟨by rw [← hK]; exact pe_callTy hc hg hm hv ha.p hn hdb he hpl, r_fn ha.r⟩
theorem d_ctyN {x : Str} {T : String} {g : List D → Option D} {p : Pos} (hc : CallR X (.type T) (rCN X.K g)) (hm : X.mg x = none) (hv : bootBuiltins x = some (.type T)) (ha : DA X c (e :: es) tl ml) (hg : Gl X x := by rfl) (hn : x ≠ "__name__" := by decide) (hdb : (x == ("__debug__" : Str)) = false := by decide)
    (he : starEach (e :: es) X.env = (false, eval e X.env) :: starEach es X.env := by rfl) (hpl : (backTo pos (starEach es X.env)).any (·.1) = false := by rfl) (hK : X.K = K := by rfl) : DN X c (.Call (.Name x p) (e :: es) [] pos) (tCB (rCN K g) tl) (mFn g ml) := ⟨by rw [← hK]; exact pe_callTy hc hg hm hv ha.p hn hdb he hpl, r_fnN ha.r⟩
theorem d_bfun {x : Str} {id : String} {g : List D → Option D} {p : Pos} (hc : CallR X (.builtin id) (rC X.K g)) (hm : X.mg x = some (.builtin id)) (ha : DA X c (e :: es) tl ml) (hg : Gl X x := by rfl) (hdb : (x == ("__debug__" : Str)) = false := by decide)
    (he : starEach (e :: es) X.env = (false, eval e X.env) :: starEach es X.env := by rfl) (hpl : (backTo pos (starEach es X.env)).any (·.1) = false := by rfl) (hK : X.K = K := by rfl) : DE X c (.Call (.Name x p) (e :: es) [] pos) (tCB (rC K g) tl) (mFn g ml) := ⟨by rw [← hK]; exact pe_callBfun hc hg hm ha.p hdb he hpl, r_fn ha.r⟩
end
end DL
set_option autoImplicit false
namespace DL
open PySem PySem.Spec PyProof.Rows L2
def sNx : Mo Fl := mC .nx
def sSeq (a b : Mo Fl) : Mo Fl := fun ρ => match a ρ with
  | some (.nx, ρ') => b ρ'
  | r => r
def sSet (i : Nat) (a : Mo D) : Mo Fl := mBd a fun d ρ => some (.nx, ρ.set i (.dat d))
def sSetN (i : Nat) (a : Mo D) : Mo Fl := mBd a fun d ρ => some (.nx, ρ.set i (.own false d))
def sRet (a : Mo D) : Mo Fl := mBd a fun d => mC (.rt d)
def sRetN : Mo Fl := mC (.rt .non)
def sRetNew (a : Mo D) : Mo Fl := mBd a fun d => mC (.rn d)
def sIf (t : Mo Bool) (a b : Mo Fl) : Mo Fl := mBd t fun x => if x = true then a else b
def sDrop (a : Mo D) : Mo Fl := mBd a fun _ => sNx
def sNo : Mo Fl := fun _ => none
def sBk : Mo Fl := mC .bk
def sCt : Mo Fl := mC .ct
def sAsg (a : Mo D) (g : D → Mo Unit) : Mo Fl := mBd a fun d => mBd (g d) fun _ => sNx
def gNm (i : Nat) (d : D) : Mo Unit := fun ρ => some ((), ρ.set i (.dat d))
def gsNil (ds : List D) : Mo Unit := match ds with
  | [] => mC ()
  | _ => fun _ => none
def gsCons (g : D → Mo Unit) (r : List D → Mo Unit) (ds : List D) : Mo Unit := match ds with
  | d :: ds => mBd (g d) fun _ => r ds
  | [] => fun _ => none
def gTp (n : Nat) (r : List D → Mo Unit) (d : D) : Mo Unit := match d with
  | .tup ds => if ds.length = n then r ds else fun _ => none
  | _ => fun _ => none
/-- o[k] = v, o an owned list in slot i -/
def putL (i : Nat) (k : D) (d : D) : Mo Unit := fun ρ => match ρ[i]? with
  | some (.own p (.lst ds)) => match int? k with
    | some n => match ixN ds.length n with
      | some j => some ((), ρ.set i (.own p (.lst (ds.set j d))))
      | none => none
    | none => none
  | _ => none
def owns (i : Nat) (ρ : Cs) : Bool := match ρ[i]? with
  | some (.own _ _) => true
  | _ => false
def gPut (i : Nat) (k : Mo D) (d : D) : Mo Unit := fun ρ => if owns i ρ = true then mBd k (fun n => putL i n d) ρ else none
/-- f of what slot i owns (a list's append ..) -/
def sApp (i : Nat) (a : Mo D) : Mo Fl := mBd a fun d ρ => match ρ[i]? with
  | some (.own p (.lst ds)) => if ds.length < sizeLine then some (.nx, ρ.set i (.own p (.lst (ds ++ [d])))) else none
  | _ => none
def goFor (g : D → Mo Unit) (b : Mo Fl) : List D → Mo Fl
  | [], ρ => some (.nx, ρ)
  | d :: ds, ρ => match g d ρ with
    | none => none
    | some (_, ρ1) => match b ρ1 with
      | none => none
      | some (.nx, ρ2) => goFor g b ds ρ2
      | some (.ct, ρ2) => goFor g b ds ρ2
      | some (.bk, ρ2) => some (.nx, ρ2)
      | some (.rt d, ρ2) => some (.rt d, ρ2)
      | some (.rn d, ρ2) => some (.rn d, ρ2)
def sFor (it : Mo (List D)) (g : D → Mo Unit) (b : Mo Fl) : Mo Fl := mBd it fun ds => goFor g b ds
def goWh (t : Mo Bool) (b : Mo Fl) : Nat → Mo Fl
  | 0, _ => none
  | n + 1, ρ => match t ρ with
    | none => none
    | some (false, ρ1) => some (.nx, ρ1)
    | some (true, ρ1) => match b ρ1 with
      | none => none
      | some (.nx, ρ2) => goWh t b n ρ2
      | some (.ct, ρ2) => goWh t b n ρ2
      | some (.bk, ρ2) => some (.nx, ρ2)
      | some (.rt d, ρ2) => some (.rt d, ρ2)
      | some (.rn d, ρ2) => some (.rn d, ρ2)
/-- at most n turns, n by the slots -/
def sWh (n : Cs → Nat) (t : Mo Bool) (b : Mo Fl) : Mo Fl := fun ρ => goWh t b (n ρ) ρ
section
variable {K : PySem.W.Frag} {c : Ctx K} {t u : TS} {m k : Mo Fl} {te : TE} {me : Mo D} {tt : TT} {mt : Mo Bool}
theorem r_nx : RSt c tNext sNx := by
  intro M σ H ρ S f ρ' hm D q
  obtain ⟨e1, e2⟩ := mC_some hm
  subst e1 e2
  exact q M σ H .refl S
theorem r_seq (h1 : RSt c t m) (h2 : RSt c u k) : RSt c (tSeq t u) (sSeq m k) := by
  intro M σ H ρ S f ρ' hm D q
  unfold sSeq at hm
  cases e : m ρ with
  | none => rw [e] at hm; cases hm
  | some r =>
    obtain ⟨f1, ρ1⟩ := r
    rw [e] at hm
    cases f1 with
    | nx => exact h1 M σ H ρ S .nx ρ1 e { D with nx := u D } fun M' σ' H' E S' => h2 M' σ' H' ρ1 S' f ρ' hm D (q.ev E)
    | rt d => cases hm; exact h1 M σ H ρ S _ _ e { D with nx := u D } q
    | rn d => cases hm; exact h1 M σ H ρ S _ _ e { D with nx := u D } q
    | bk => cases hm; exact h1 M σ H ρ S _ _ e { D with nx := u D } q
    | ct => cases hm; exact h1 M σ H ρ S _ _ e { D with nx := u D } q
theorem r_set (h : REv c te me) (i : Nat) : RSt c (tAsg te (gName i)) (sSet i me) := by
  intro M σ H ρ S f ρ' hm D q
  obtain ⟨d, ρ1, h1, h2⟩ := mBd_some hm
  cases h2
  exact h M σ H ρ S d ρ1 h1 _ fun M' v H' E S' hd => q M' _ H' E.ev (S'.setDat i hd)
theorem r_setN (h : RNw c te me) (i : Nat) : RSt c (tAsg te (gName i)) (sSetN i me) := by
  intro M σ H ρ S f ρ' hm D q
  obtain ⟨d, ρ1, h1, h2⟩ := mBd_some hm
  cases h2
  exact h M σ H ρ S d ρ1 h1 _ fun M' a H' _ E S' n => q M' _ H' E.ev (S'.takeN n i)
theorem r_ret (h : REv c te me) : RSt c (tRet te) (sRet me) := by
  intro M σ H ρ S f ρ' hm D q
  obtain ⟨d, ρ1, h1, h2⟩ := mBd_some hm
  obtain ⟨e1, e2⟩ := mC_some h2
  subst e1 e2
  exact h M σ H ρ S d _ h1 _ fun M' v H' E S' hd => q M' σ v H' E.ev S' hd
theorem r_retNew (h : RNw c te me) : RSt c (tRet te) (sRetNew me) := by
  intro M σ H ρ S f ρ' hm D q
  obtain ⟨d, ρ1, h1, h2⟩ := mBd_some hm
  obtain ⟨e1, e2⟩ := mC_some h2
  subst e1 e2
  exact h M σ H ρ S d _ h1 _ fun M' a H' _ E S' n => q M' σ a H' E.ev S' n
theorem r_ifS (ht : RTt c tt mt) (ha : RSt c t m) (hb : RSt c u k) : RSt c (tIfS tt t u) (sIf mt m k) := by
  intro M σ H ρ S f ρ' hm D q
  obtain ⟨x, ρ1, h1, h2⟩ := mBd_some hm
  refine ht M σ H ρ S x ρ1 h1 _ fun M1 H1 E1 S1 => ?_
  cases x with
  | true => exact ha M1 σ H1 ρ1 S1 f ρ' h2 D (q.ev E1.ev)
  | false => exact hb M1 σ H1 ρ1 S1 f ρ' h2 D (q.ev E1.ev)
theorem r_drop (h : REv c te me) : RSt c (tDrop te) (sDrop me) := by
  intro M σ H ρ S f ρ' hm D q
  obtain ⟨d, ρ1, h1, h2⟩ := mBd_some hm
  obtain ⟨e1, e2⟩ := mC_some (show mC Fl.nx ρ1 = some (f, ρ') from h2)
  subst e1 e2
  exact h M σ H ρ S d _ h1 _ fun M' v H' E S' _ => q M' σ H' E.ev S'
theorem r_never : RSt c tNever sNo := fun M σ H ρ S f ρ' hm D q => by cases hm
theorem r_asg {g : TG} {mg : D → Mo Unit} (h : REv c te me) (hg : RTg c g mg) : RSt c (tAsg te g) (sAsg me mg) := by
  intro M σ H ρ S f ρ' hm D q
  obtain ⟨d, ρ1, h1, h2⟩ := mBd_some hm
  obtain ⟨x, ρ2, h3, h4⟩ := mBd_some h2
  obtain ⟨e1, e2⟩ := mC_some (show mC Fl.nx ρ2 = some (f, ρ') from h4)
  subst e1 e2
  exact h M σ H ρ S d ρ1 h1 _ fun M' v H' E S' hd => hg M' σ H' ρ1 S' v d hd x _ h3 _ fun M2 σ2 H2 E2 S2 => q M2 σ2 H2 (E.ev.trans E2.ev) S2
theorem held_setDat {σ : L2.St} {ρ : Cs} {i : Nat} {x : Option V} {d : D} (b : Addr) (l : σ.length = ρ.length) (h : Held (σ.set i x) (ρ.set i (.dat d)) b) : Held σ ρ b := by
  obtain ⟨j, p, e, h1, h2⟩ := h
  by_cases z : i = j
  · subst z
    have l : i < ρ.length := by
      have := (List.getElem?_eq_some_iff.mp h2).1
      simpa using this
    rw [List.getElem?_set_self l] at h2
    cases h2
  · rw [List.getElem?_set_ne z] at h1 h2
    exact ⟨j, p, e, h1, h2⟩
theorem r_gname (i : Nat) : RTg c (gName i) (gNm i) := by
  intro M σ H ρ S v d hd u ρ' hm Q q
  cases hm
  exact q M _ H ⟨.refl, fun _ _ _ h => h, fun b _ _ => held_setDat b S.len.symm, fun _ h _ => h, fun _ h => h⟩ (S.setDat i hd)
theorem r_gnil : RTgs c gNil gsNil := by
  intro M σ H ρ S vs ds hd u ρ' hm Q q
  cases hd with
  | nil => cases hm; exact ⟨rfl, q M σ H .refl S⟩
  | cons _ _ => cases hm
theorem r_gcons {g : TG} {gs : TGs} {mg : D → Mo Unit} {ms : List D → Mo Unit} (h : RTg c g mg) (hs : RTgs c gs ms) : RTgs c (gCons g gs) (gsCons mg ms) := by
  intro M σ H ρ S vs ds hd u ρ' hm Q q
  cases hd with
  | nil => cases hm
  | cons h1 h2 =>
    obtain ⟨x, ρ1, e1, e2⟩ := mBd_some (show mBd (mg _) (fun _ => ms _) ρ = some (u, ρ') from hm)
    refine ⟨_, _, rfl, h M σ H ρ S _ _ h1 x ρ1 e1 _ fun M1 σ1 H1 E1 S1 => ?_⟩
    exact hs M1 σ1 H1 ρ1 S1 _ _ (h2.ev S.kind E1.ev) u ρ' e2 Q fun M2 σ2 H2 E2 S2 => q M2 σ2 H2 (E1.trans E2 S.kind) S2
theorem r_gtup {n : Nat} {gs : TGs} {ms : List D → Mo Unit} (hs : RTgs c gs ms) : RTg c (gTup K n gs) (gTp n ms) := by
  intro M σ H ρ S v d hd u ρ' hm Q q
  cases hd with
  | tup h a =>
    unfold gTp at hm
    simp only at hm
    split at hm
    · rename_i hl
      exact ⟨_, _, rfl, h, by rw [a.length]; exact hl, hs M σ H ρ S _ _ a u ρ' hm Q q⟩
    · cases hm
  | _ => cases hm
theorem owns_some {i : Nat} {ρ : Cs} (h : owns i ρ = true) : ∃ p d, ρ[i]? = some (.own p d) := by
  unfold owns at h
  split at h
  · exact ⟨_, _, by assumption⟩
  · cases h
/-- o[k] = v -/
theorem r_gput {i : Nat} {ti : TE} {mi : Mo D} (hi : REv c ti mi) : RTg c (gSub (tVar i) ti rSetL) (gPut i mi) := by
  intro M σ H ρ S v d hd u ρ' hm Q q
  unfold gPut at hm
  split at hm
  · rename_i hw
    obtain ⟨p0, d0, e0⟩ := owns_some hw
    obtain ⟨a, ha, _⟩ := S.own e0
    obtain ⟨n, ρ1, h1, h2⟩ := mBd_some hm
    unfold putL at h2
    split at h2
    · rename_i p ds e
      split at h2
      · rename_i n' hn
        split at h2
        · rename_i j hj
          cases h2
          refine ⟨_, ha, hi M σ H ρ S _ _ h1 _ fun M1 w H1 E1 S1 hw => ?_⟩
          obtain ⟨a', ha', hM, _, o, ho, hc⟩ := S1.own e
          rw [ha] at ha'
          cases ha'
          cases hc with
          | lst hx =>
            rename_i xs
            refine ⟨a, xs, n', j, rfl, int_of hw hn, ho, by rw [hx.length]; exact hj, ?_⟩
            have hv := (hd.ev S.kind E1.ev)
            have k2 : Kind M1 (upd H1 a (.lst (xs.set j v))) := fun b hb => by
              by_cases z : b = a
              · subst z; exact ⟨_, upd_same, trivial⟩
              · obtain ⟨o, q, m⟩ := S1.kind b hb
                exact ⟨o, by rw [upd_ne z]; exact q, m⟩
            have ev2 : Ev M1 H1 M1 (upd H1 a (.lst (xs.set j v))) := ⟨fun b h => .inl h, fun b o nb h => by rw [upd_ne (fun z => nb (by rw [z]; exact hM))]; exact h⟩
            have E2 := S1.mutE (d' := .lst (ds.set j d)) (H' := upd H1 a (.lst (xs.set j v))) ha e (fun b o nb h => by rw [upd_ne nb]; exact h) ⟨_, upd_same, .lst ((hx.set hv j).ev S1.kind ev2)⟩
            exact q M1 σ _ (E1.trans E2.1 S.kind) E2.2
        · cases h2
      · cases h2
    · cases h2
  · cases hm
end
end DL
namespace L2
open PySem PySem.Spec PyProof.Rows
def Pu (m : Nat) (H : Hp) (p : Addr) : Prop := ∃ d s c : Int, H p = some (.lst [.int d, .int s, .int c]) ∧ Builtin.Int.intBits d ≤ 1048576 ∧ 0 ≤ s ∧ s < 2147483648 ∧ 0 ≤ c ∧ c + (m : Int) ≤ 1000000000
theorem Pu.mono {m n : Nat} {H : Hp} {p : Addr} (h : Pu m H p) (k : n ≤ m) : Pu n H p := by
  obtain ⟨d, s, c, e, a, b, f, g, i⟩ := h
  exact ⟨d, s, c, e, a, b, f, g, by omega⟩
theorem Pu.same {m : Nat} {H H' : Hp} {p : Addr} (h : Pu m H p) (e : Same H H') : Pu m H' p := by
  obtain ⟨d, s, c, q, r⟩ := h
  exact ⟨d, s, c, e _ _ q, r⟩
theorem Pu.free {m : Nat} {H H' : Hp} {p q : Addr} (h : Pu m H' p) (e : Sm p H H') (z : H' q = none) : H q = none := by
  obtain ⟨d, s, c, k, _⟩ := h
  exact e.free k z
theorem bits_mono {i j : Int} (h : i.natAbs ≤ j.natAbs) : Builtin.Int.intBits i ≤ Builtin.Int.intBits j := by
  unfold Builtin.Int.intBits
  by_cases hi : i = 0
  · simp [hi]
  · have hj : j ≠ 0 := by omega
    simp only [beq_iff_eq, hi, hj, if_false]
    have a : i.natAbs ≠ 0 := by omega
    have b : j.natAbs ≠ 0 := by omega
    have : 2 ^ i.natAbs.log2 ≤ j.natAbs := Nat.le_trans (Nat.log2_self_le a) h
    have := (Nat.le_log2 b).mpr this
    omega
theorem bits_div {d n : Int} (hd : 0 ≤ d) (hn : 0 < n) : Builtin.Int.intBits (d / n) ≤ Builtin.Int.intBits d := by
  refine bits_mono ?_
  have h1 : 0 ≤ d / n := Int.ediv_nonneg hd (by omega)
  have h2 : d / n ≤ d := Int.ediv_le_self n hd
  omega
end L2
namespace PySem
open Sem (wp)
open AutoSeq1 (wpAny_loadPart')
theorem my_enum_meets (l : Addr) (items : Array Value) (n : Nat) (dct : Option Addr) (sl : Array (Option Value)) :
    Meets (Builtin.«enumerate.__new__» ⟨[.type "enumerate", .ref l], []⟩) (fun _ R s => s.heap.get? l = some { cls := .type "tuple", dict := dct, data := .seq items n, slots := sl } ∧
      R (.ok (.ret (.ref (s.heap.push { cls := .type "tuple_iterator", data := .fields #[.ref l, .int 0 0] }).objs.size)))
        { s with heap := (s.heap.push { cls := .type "tuple_iterator", data := .fields #[.ref l, .int 0 0] }).push { cls := .type "enumerate", data := .fields #[.none, .bool false, .ref s.heap.objs.size, rawInt 0, .none, .none] } }) := by
  refine .of_wp fun prog w A R s h => ?_
  obtain ⟨hp, g, d, tk, os⟩ := s
  obtain ⟨hl, h⟩ := h
  have hsub := sub_enumerate
  have hL : Heap.IsTuple (Shared.heap ⟨hp, g, d, tk, os⟩) l items := ⟨_, hl, rfl, n, rfl⟩
  wp_walk using wpAny_loadPart' hl
  refine wpAny_stack_any fun st => wpAny_pure ?_
  split
  · rename_i c _ _ _ _ _
    cases (c == Value.type "enumerate") <;> (wp_walk using wpAny_loadPart' hl, wpAny_pyIter_tuple hL; exact ⟨_, rfl, h⟩)
  · wp_walk using wpAny_loadPart' hl, wpAny_pyIter_tuple hL
    exact ⟨_, rfl, h⟩
theorem my_enum_tuple {prog : Program} {w : World} {A : Around} {E : Value → Shared → Prop} {s : Shared} {l : Addr} {items : Array Value} {Q : Value → Shared → Prop} (hL : s.heap.IsTuple l items)
    (h : ∀ h', IsEnum h' (s.heap.objs.size + 1) s.heap.objs.size 0 .none → h'.IsTupleIter s.heap.objs.size l 0 → h'.objs.size = s.heap.objs.size + 2 →
      (∀ b o, s.heap.get? b = some o → h'.get? b = some o) → Q (.ref (s.heap.objs.size + 1)) { s with heap := h' }) :
    wpAny (model prog w) A (call (.type "enumerate") [.ref l]) Q E s := by
  obtain ⟨⟨c, dct, dt, sl⟩, hl, hc, n, hd⟩ := hL
  obtain rfl : c = .type "tuple" := hc
  obtain rfl : dt = .seq items n := hd
  have z : (s.heap.push { cls := .type "tuple_iterator", data := .fields #[.ref l, .int 0 0] }).objs.size = s.heap.objs.size + 1 := Heap.size_push ..
  refine callType_new F.called_enumerate (by decide) (F.typeCall_enumerate_1 _) (F.newCall_enumerate_1 _) (fun obj => F.args_object_init_2 obj _) F.entry_enumerate_new (my_enum_meets l items n dct sl) ⟨hl, ?_⟩
  show _ ∧ _
  rw [z]
  have he : IsEnum ((s.heap.push { cls := .type "tuple_iterator", data := .fields #[.ref l, .int 0 0] }).push { cls := .type "enumerate", data := .fields #[.none, .bool false, .ref s.heap.objs.size, rawInt 0, .none, .none] }) (s.heap.objs.size + 1) s.heap.objs.size 0 .none := by
    have q := Heap.get?_push_size (s.heap.push { cls := .type "tuple_iterator", data := .fields #[.ref l, .int 0 0] }) (o := { cls := .type "enumerate", data := .fields #[.none, .bool false, .ref s.heap.objs.size, rawInt 0, .none, .none] }) rfl
    rw [z] at q
    exact q
  exact ⟨⟨_, he, rfl⟩, h _ he ⟨_, Heap.get?_push_of_some _ (Heap.get?_push_size _ rfl), rfl, rfl⟩ (by rw [Heap.size_push, z]) fun b o x => Heap.get?_push_of_some _ (Heap.get?_push_of_some _ x)⟩
end PySem
namespace L2
open PySem PySem.Spec PyProof.Rows
/-- the tuple at a, each item in a new pair with its place -/
def IteT (K : PySem.W.Frag) (a : Addr) : It :=
  ⟨fun i H => ∃ (xs : List V) (x : V), SqT K H a xs ∧ xs[i]? = some x, fun i H v H' => ∃ T x, v = .ref T ∧ H T = none ∧ H' = upd H T (.tup [.int (i : Nat), x]) ∧ ∀ xs, SqT K H a xs → xs[i]? = some x, fun i H => ∃ xs : List V, SqT K H a xs ∧ xs.length ≤ i⟩
theorem my_turn_enum {P : Program} {w : World} {K : PySem.W.Frag} {elts : List Expr} {kk : Nat} {tpos : Pos} (a e it : Addr) (hne : e ≠ it) :
    Turn P w K (.Tuple elts kk tpos) (IteT K a) [e, it] e (fun i h => (∃ old, IsEnum h e it ((i : Nat) : Int) old) ∧ h.IsTupleIter it a i) := by
  have two : ∀ {b : Addr}, b ∈ [e, it] → b = e ∨ b = it := fun hb => by simpa using hb
  constructor
  case mem => simp
  case obj =>
    rintro i h ⟨⟨old, he⟩, o, ho, hc, hd⟩ b hb
    rcases two hb with z | z
    · rw [z]; exact ⟨_, he, fun v q => nomatch q⟩
    · rw [z]; exact ⟨o, ho, fun v q => by rw [hd] at q; cases q⟩
  case keep => exact fun i h h' ⟨⟨old, he⟩, hi⟩ k => ⟨⟨old, k e (by simp) _ he⟩, hi.at fun o q => k it (by simp) o q⟩
  case self => exact fun A i s Q E ⟨⟨_, he⟩, _⟩ h => wpAny_pyIter_enum he h
  case item =>
    intro X hP hw hK hc i pins s σ H E I hf st hg
    subst hP hw hK
    obtain ⟨⟨old, he⟩, hit⟩ := st
    obtain ⟨xs, x, hq, hx⟩ := hg
    obtain ⟨its, rv, p, hz⟩ := I.tuple hq
    obtain ⟨u, hu, ru⟩ := rv.get hx
    have hel : e < s.heap.objs.size := Heap.lt_size he
    have hil : it < s.heap.objs.size := by obtain ⟨_, q, _⟩ := hit; exact Heap.lt_size q
    have tn : a ≠ it := by
      rintro rfl
      obtain ⟨o1, q1, c1, _⟩ := hit
      obtain ⟨o2, q2, c2, _⟩ := p
      rw [q1] at q2; cases q2; rw [c1] at c2; simp at c2
    have te : a ≠ e := by
      rintro rfl
      obtain ⟨o2, q2, c2, _⟩ := p
      rw [he] at q2; cases q2; simp at c2
    have nef : e ∉ [it, a] := fun z => by
      rcases (show e = it ∨ e = a by simpa using z) with z | z
      · exact hne z
      · exact te z.symm
    have hlt : i < its.toArray.size := by
      have := (List.getElem?_eq_some_iff.mp hu).1
      simpa using this
    refine wpAny_pyNext_enum_itemD (Draws.tuple (prog := X.prog) (w := X.w) (A := X.A.in1) (I.ok.hd hc) it a tn its.toArray) he ⟨hit, p⟩ hlt hne nef fun v h' tk hv ho hst hT hsz hk => ?_
    obtain rfl : v = u := by
      have hu' : its.toArray[i]? = some u := by simpa using hu
      rw [hu'] at hv
      exact (Option.some.inj hv).symm
    refine ⟨_, rfl, wpAny_letOwnedTupleGo_enum (s := { s with heap := h', toks := tk + 1 }) ho fun h'' he' sb => ?_⟩
    have hT2 : h''.get? s.heap.objs.size = some { cls := .type "tuple", data := .seq #[.int i tk, v] } := (sb.2 _ (Nat.ne_of_gt hel)).trans hT
    have new : ObjOk X.prog X.w (upd H s.heap.objs.size (.tup [.int (i : Nat), x])) h'' s.heap.objs.size (.tup [.int (i : Nat), x]) :=
      ⟨by show 2 ≤ sizeLine; decide, [.int i tk, v], .cons ⟨_, rfl⟩ (.cons ru .nil), ⟨_, hT2, rfl, _, rfl⟩⟩
    have I1 : Inv X pins σ (upd H s.heap.objs.size (.tup [.int (i : Nat), x])) { s with heap := h'', toks := tk + 1 } :=
      I.turnedNew (ch := [e, it]) (fun b ob hb q => (sb.2 b (fun z => hb (by simp [z]))).trans (hk b ob (fun z => hb (by simp [z])) (fun z => hb (by simp [z])) q)) hf (Nat.le_refl _) new
    refine ⟨.ref s.heap.objs.size, _, I1, rfl, ⟨_, x, rfl, I.hok.fresh (Nat.le_refl _), rfl, fun ys hy => by rw [I.tuple_inj hy hq]; exact hx⟩, ⟨⟨v, ?_⟩, hst.1.at fun o q => (sb.2 it (Ne.symm hne)).trans q⟩, fun b hb => ?_⟩
    · have e1 : ((i + 1 : Nat) : Int) = (i : Int) + 1 := by omega
      rw [e1]; exact he'
    · have hb' : b < s.heap.objs.size := by
        rcases two hb with z | z
        · rw [z]; exact hel
        · rw [z]; exact hil
      rw [upd_ne (Nat.ne_of_lt hb')]
      exact (hf b hb).1
  case done =>
    intro X hP hw hK hc i pins s σ H E I hf st hg
    subst hP hw hK
    obtain ⟨⟨old, he⟩, hit⟩ := st
    obtain ⟨xs, hq, hx⟩ := hg
    obtain ⟨its, rv, p, hz⟩ := I.tuple hq
    obtain ⟨f0, f1, f2, f3, f4, f5⟩ := hf it (by simp)
    have hl := rv.length
    have D : Draws X.prog X.w X.A.in1 it [it, a] 0 (fun _ _ => False) (fun _ h => h.IsTupleIter it a i ∧ h.IsTuple a its.toArray) :=
      { live := fun _ _ st => let ⟨o, ho, _⟩ := st.1; ⟨o, ho⟩
        frame := fun _ _ _ st hk => ⟨st.1.at fun o e => hk it (by simp) o e, st.2.at fun o e => hk a (by simp) o e⟩
        item := fun j s Q E hj => absurd hj (Nat.not_lt_zero _)
        done := fun s Q E st hE => wpAny_nextOf_tuple_end (I.ok.hd hc) st.1 st.2 (by simp; omega) hE }
    exact wpAny_pyNext_enum_endD D he ⟨hit, p⟩ fun h' eb => ⟨rfl, I.turned (t' := s.toks) (fun b o hb q => eb b o hb q) f0 f1 f3 f4 f5⟩
def iEnumT (K : PySem.W.Frag) (ta : TA) : TI := fun σ H R => ta σ H fun vs H1 => ∃ a xs, vs = [.ref a] ∧ SqT K H1 a xs ∧ R (IteT K a) H1
theorem pi_enumT {X : Cx} {e : Expr} {ta : TA} {p pos tpos : Pos} {elts : List Expr} {kk : Nat} (hg : Gl X "enumerate") (hm : X.mg "enumerate" = none) (ha : PA X [e] ta) (hs : starEach [e] X.env = [(false, eval e X.env)] := by rfl) :
    PI X (.Tuple elts kk tpos) (.Call (.Name "enumerate" p) [e] [] pos) (iEnumT X.K ta) := by
  constructor
  intro pins s σ H R I h
  refine Call_ (ld_blt I hg hm boot_enumerate (PyProof.Rows.callWith_type1 (thn (ha.run pos pins s σ H _ I h) fun us s1 ⟨vs, H1, I1, r1, a, xs, ex, hq, q⟩ => ?_) hs rfl))
  subst ex
  obtain ⟨u, rfl, r⟩ := vals1 r1
  cases r
  obtain ⟨its, rv, p', hz⟩ := I1.tuple hq
  refine my_enum_tuple p' fun h' he hit hsz hk => wpAny_pyIter_enum he ?_
  have I2 : Inv X pins σ H1 { s1 with heap := h' } := I1.kept (t' := s1.toks) hk
  refine ⟨s1.heap.objs.size + 1, [s1.heap.objs.size + 1, s1.heap.objs.size], _, _, H1, rfl, I2, my_turn_enum a _ _ (Nat.succ_ne_self _), ⟨⟨.none, he⟩, hit⟩, fun b hb => ?_, q⟩
  have hle : s1.heap.objs.size ≤ b := by
    rcases (show b = s1.heap.objs.size + 1 ∨ b = s1.heap.objs.size by simpa using hb) with z | z
    · rw [z]; exact Nat.le_add_right _ _
    · rw [z]; exact Nat.le_refl _
  exact I1.fpOk hle (I1.hok.fresh hle)
theorem walk_enumT {K : PySem.W.Frag} {a : Addr} {xs : List V} : Walk (IteT K a) xs.length (fun H => SqT K H a xs) (YPair (fun i => some (.int (i : Nat))) (fun i => xs[i]?)) :=
  ⟨fun i _ hi q => ⟨xs, xs[i], q, by simp [hi]⟩, fun _ q => ⟨xs, q, Nat.le_refl _⟩, fun i H v H' _ q ⟨T, x, h1, h2, h3, h4⟩ => ⟨T, .int (i : Nat), x, h1, h2, h3, rfl, h4 xs q⟩⟩
end L2
set_option autoImplicit false
namespace DL
open PySem PySem.Spec PyProof.Rows L2
structure Wk {K : PySem.W.Frag} (c : Ctx K) (M : Addr → Prop) (H : Hp) (J : It) (ds : List D) (G : Hp → Prop) (Y : Nat → Hp → V → Hp → Prop) : Prop where
  w : Walk J ds.length G Y
  g : ∀ M1 H1, Ev M H M1 H1 → G H1
  y : ∀ i M1 H1 x H2, Ev M H M1 H1 → Kind M1 H1 → i < ds.length → Y i H1 x H2 → Same H1 H2 ∧ ∃ d, ds[i]? = some d ∧ Dat K M1 H2 x d
def RIt {K : PySem.W.Frag} (c : Ctx K) (wi : TI) (m : Mo (List D)) : Prop := ∀ M σ H ρ, Sta c M σ H ρ → ∀ ds ρ', m ρ = some (ds, ρ') → ∀ R : It → Hp → Prop,
  (∀ M' H' J G Y, Es σ M H ρ σ M' H' ρ' → Sta c M' σ H' ρ' → Wk c M' H' J ds G Y → R J H') → wi σ H R
structure DI (X : Cx) {K : PySem.W.Frag} (c : Ctx K) (tg e : Expr) (wi : TI) (m : Mo (List D)) : Prop where
  p : PI X tg e wi
  r : RIt c wi m
def seqL : D → Option (List D)
  | .lst ds => some ds
  | _ => none
def seqT : D → Option (List D)
  | .tup ds => some ds
  | _ => none
def iSeq (f : D → Option (List D)) (a : Mo D) : Mo (List D) := mBd a fun d => mL (f d)
def rngD (lo : Int) (n : Nat) : List D := (List.range n).map fun (k : Nat) => D.int (lo + k)
def rng1? : List D → Option (List D)
  | [.int j] => if -(2 ^ 62) ≤ j ∧ j < 2 ^ 62 then some (rngD 0 j.toNat) else none
  | _ => none
def rng2? : List D → Option (List D)
  | [.int i, .int j] => if -(2 ^ 62) ≤ i ∧ i < 2 ^ 62 ∧ -(2 ^ 62) ≤ j ∧ j < 2 ^ 62 then some (rngD i (j - i).toNat) else none
  | _ => none
def iFn (f : List D → Option (List D)) (a : Mo (List D)) : Mo (List D) := mBd a fun ds => mL (f ds)
def enumD (k : Nat) : List D → List D
  | [] => []
  | d :: r => .tup [.int (k : Nat), d] :: enumD (k + 1) r
def enumT? : List D → Option (List D)
  | [.tup ds] => some (enumD 0 ds)
  | _ => none
theorem rngD_length (lo : Int) (n : Nat) : (rngD lo n).length = n := by simp [rngD]
theorem rngD_get {lo : Int} {n i : Nat} (h : i < n) : (rngD lo n)[i]? = some (.int (lo + i)) := by
  unfold rngD
  rw [List.getElem?_map, List.getElem?_range h]
  rfl
theorem enumD_length : ∀ (k : Nat) (ds : List D), (enumD k ds).length = ds.length
  | _, [] => rfl
  | k, d :: r => by rw [enumD, List.length_cons, List.length_cons, enumD_length]
theorem enumD_get : ∀ {k i : Nat} {ds : List D} {d : D}, ds[i]? = some d → (enumD k ds)[i]? = some (.tup [.int ((k + i : Nat) : Int), d])
  | k, 0, d :: r, _, h => by simp at h; subst h; rfl
  | k, i + 1, d :: r, e, h => by
    have h' : r[i]? = some e := by simpa using h
    have := enumD_get (k := k + 1) h'
    rw [enumD, List.getElem?_cons_succ, this, show k + 1 + i = k + (i + 1) by omega]
  | _, _, [], _, h => by simp at h
section
variable {K : PySem.W.Frag} {c : Ctx K} {te : TE} {me : Mo D} {ta : TA} {ma : Mo (List D)}
theorem r_ilist (h : REv c te me) : RIt c (iList K te) (iSeq seqL me) := by
  intro M σ H ρ S ds ρ' hm R q
  obtain ⟨d, ρ1, h1, h2⟩ := mBd_some hm
  obtain ⟨h3, e⟩ := mL_some h2
  subst e
  refine h M σ H ρ S d _ h1 _ fun M' v H' E S' hd => ?_
  cases d <;> simp [seqL] at h3
  subst h3
  cases hd with
  | lst n hH a =>
    refine ⟨_, rfl, ⟨_, SqL.of hH⟩, q M' H' _ _ _ E S' ⟨by rw [← a.length]; exact walk_list, fun M1 H1 e => SqL.of (e.h _ _ n hH), fun i M1 H1 x H2 e k hi y => ?_⟩⟩
    obtain ⟨rfl, hx⟩ := y
    obtain ⟨d, e1, hd⟩ := (a.ev S'.kind e).get hx
    exact ⟨.refl _, d, e1, hd⟩
theorem r_itup (h : REv c te me) : RIt c (iTup K te) (iSeq seqT me) := by
  intro M σ H ρ S ds ρ' hm R q
  obtain ⟨d, ρ1, h1, h2⟩ := mBd_some hm
  obtain ⟨h3, e⟩ := mL_some h2
  subst e
  refine h M σ H ρ S d _ h1 _ fun M' v H' E S' hd => ?_
  cases d <;> simp [seqT] at h3
  subst h3
  cases hd with
  | tup hH a =>
    refine ⟨_, rfl, ⟨_, hH⟩, q M' H' _ _ _ E S' ⟨by rw [← a.length]; exact walk_tup, fun M1 H1 e => S'.kind.sqT e hH, fun i M1 H1 x H2 e k hi y => ?_⟩⟩
    obtain ⟨rfl, hx⟩ := y
    obtain ⟨d, e1, hd⟩ := (a.ev S'.kind e).get hx
    exact ⟨.refl _, d, e1, hd⟩
theorem wk_range {M : Addr → Prop} {H : Hp} (lo : Int) (n : Nat) : Wk c M H (Itr lo n) (rngD lo n) (fun _ => True) (YFn fun i => .int (lo + i)) := by
  refine ⟨by rw [rngD_length]; exact walk_range, fun _ _ _ => trivial, fun i M1 H1 x H2 e k hi y => ?_⟩
  obtain ⟨rfl, rfl⟩ := y
  rw [rngD_length] at hi
  exact ⟨.refl _, _, rngD_get hi, .int _⟩
theorem r_irng1 (h : RAv c ta ma) : RIt c (iRng1 ta) (iFn rng1? ma) := by
  intro M σ H ρ S ds ρ' hm R q
  obtain ⟨d, ρ1, h1, h2⟩ := mBd_some hm
  obtain ⟨h3, e⟩ := mL_some h2
  subst e
  refine h M σ H ρ S d _ h1 _ fun M' vs H' E S' hd => ?_
  unfold rng1? at h3
  split at h3 <;> try (cases h3; done)
  obtain ⟨⟨a1, a2⟩, rfl⟩ := if_some h3
  obtain ⟨v, rfl, hv⟩ := one_of hd
  cases hv
  exact ⟨_, rfl, a1, a2, q M' H' _ _ _ E S' (wk_range 0 _)⟩
theorem r_irng2 (h : RAv c ta ma) : RIt c (iRng2 ta) (iFn rng2? ma) := by
  intro M σ H ρ S ds ρ' hm R q
  obtain ⟨d, ρ1, h1, h2⟩ := mBd_some hm
  obtain ⟨h3, e⟩ := mL_some h2
  subst e
  refine h M σ H ρ S d _ h1 _ fun M' vs H' E S' hd => ?_
  unfold rng2? at h3
  split at h3 <;> try (cases h3; done)
  obtain ⟨⟨a1, a2, a3, a4⟩, rfl⟩ := if_some h3
  obtain ⟨v, w, rfl, hv, hw⟩ := two_of hd
  cases hv; cases hw
  exact ⟨_, _, rfl, ⟨a1, a2, a3, a4⟩, q M' H' _ _ _ E S' (wk_range _ _)⟩
theorem pair_y {M M1 : Addr → Prop} {H1 H2 : Hp} {T : Addr} {x y : V} {d e : D} (hT : H1 T = none) (hH : H2 = upd H1 T (.tup [x, y])) (hd : Dat K M1 H1 x d) (he : Dat K M1 H1 y e) : Same H1 H2 ∧ Dat K M1 H2 (.ref T) (.tup [d, e]) := by
  subst hH
  exact dat_tup hT (.cons hd (.cons he .nil))
theorem r_ienumT (h : RAv c ta ma) : RIt c (iEnumT K ta) (iFn enumT? ma) := by
  intro M σ H ρ S ds ρ' hm R q
  obtain ⟨d, ρ1, h1, h2⟩ := mBd_some hm
  obtain ⟨h3, e⟩ := mL_some h2
  subst e
  refine h M σ H ρ S d _ h1 _ fun M' vs H' E S' hd => ?_
  unfold enumT? at h3
  split at h3 <;> try (cases h3; done)
  cases h3
  obtain ⟨v, rfl, hv⟩ := one_of hd
  cases hv with
  | tup hH a =>
    refine ⟨_, _, rfl, hH, q M' H' _ _ _ E S' ⟨by rw [enumD_length, ← a.length]; exact walk_enumT, fun M1 H1 e => S'.kind.sqT e hH, fun i M1 H1 x H2 e k hi y => ?_⟩⟩
    obtain ⟨T, x1, x2, rfl, hT, hH2, e1, e2⟩ := y
    cases e1
    obtain ⟨d, e3, hd⟩ := (a.ev S'.kind e).get e2
    obtain ⟨s, t⟩ := pair_y (M := M1) hT hH2 (.int _) hd
    exact ⟨s, _, by rw [enumD_get e3, Nat.zero_add], t⟩
end
end DL
set_option autoImplicit false
namespace DL
open PySem PySem.Spec PyProof.Rows L2
section
variable {K : PySem.W.Frag} {c : Ctx K} {wi : TI} {mi : Mo (List D)} {g : TG} {mg : D → Mo Unit} {tb : TS} {mb : Mo Fl}
theorem drop_get {α : Type} {l : List α} {i : Nat} {d : α} (h : l[i]? = some d) : l.drop i = d :: l.drop (i + 1) := by
  obtain ⟨hl, e⟩ := List.getElem?_eq_some_iff.mp h
  rw [← e]
  exact List.drop_eq_getElem_cons hl
theorem r_for (hi : RIt c wi mi) (hg : RTg c g mg) (hb : RSt c tb mb) : RSt c (tFor wi g tb) (sFor mi mg mb) := by
  intro M σ H ρ S f ρ' hm D q
  obtain ⟨ds, ρ1, h1, h2⟩ := mBd_some hm
  refine hi M σ H ρ S ds ρ1 h1 _ fun M' H' J G Y E S' W => ?_
  have q' : Post c M' H' D f ρ' := q.ev E.ev
  refine for_it W.w (fun i σ2 H2 => ∃ M2 ρ2, Ev M' H' M2 H2 ∧ Sta c M2 σ2 H2 ρ2 ∧ goFor mg mb (ds.drop i) ρ2 = some (f, ρ')) ⟨M', ρ1, .refl, S', by rw [List.drop_zero]; exact h2⟩ (fun i σ2 H2 _ ⟨M2, ρ2, e, _, _⟩ => W.g M2 H2 e) ?_ ?_
  · rintro i x σ2 H2 H3 hlt ⟨M2, ρ2, e2, S2, go⟩ y
    obtain ⟨s3, d, hd, dx⟩ := W.y i M2 H2 x H3 e2 S2.kind hlt y
    rw [drop_get hd] at go
    unfold goFor at go
    cases e3 : mg d ρ2 with
    | none => rw [e3] at go; cases go
    | some r =>
      obtain ⟨u, ρ3⟩ := r
      rw [e3] at go
      simp only at go
      refine hg M2 σ2 H3 ρ2 (S2.same s3) x d dx u ρ3 e3 _ fun M4 σ4 H4 E4 S4 => ?_
      have e4 : Ev M' H' M4 H4 := (e2.trans (.same s3)).trans E4.ev
      cases e5 : mb ρ3 with
      | none => rw [e5] at go; cases go
      | some r5 =>
        obtain ⟨f5, ρ5⟩ := r5
        rw [e5] at go
        refine hb M4 σ4 H4 ρ3 S4 f5 ρ5 e5 _ ?_
        cases f5 with
        | nx => exact fun M6 σ6 H6 E6 S6 => ⟨M6, ρ5, e4.trans E6, S6, go⟩
        | ct => exact fun M6 σ6 H6 E6 S6 => ⟨M6, ρ5, e4.trans E6, S6, go⟩
        | bk =>
          cases go
          exact fun M6 σ6 H6 E6 S6 => q' M6 σ6 H6 (e4.trans E6) S6
        | rt d =>
          cases go
          exact fun M6 σ6 v H6 E6 S6 hd => q' M6 σ6 v H6 (e4.trans E6) S6 hd
        | rn d =>
          cases go
          exact fun M6 σ6 a H6 E6 S6 n => q' M6 σ6 a H6 (e4.trans E6) S6 n
  · rintro σ2 H2 ⟨M2, ρ2, e2, S2, go⟩
    rw [List.drop_length] at go
    cases go
    exact q' M2 σ2 H2 e2 S2
theorem r_while {tt : TT} {mt : Mo Bool} (n : Cs → Nat) (ht : RTt c tt mt) (hb : RSt c tb mb) : RSt c (tWhile tt tb) (sWh n mt mb) := by
  intro M σ H ρ S f ρ' hm D q
  refine ⟨fun k σ2 H2 => ∃ M2 ρ2, Ev M H M2 H2 ∧ Sta c M2 σ2 H2 ρ2 ∧ goWh mt mb k ρ2 = some (f, ρ'), ⟨n ρ, M, ρ, .refl, S, hm⟩, ?_⟩
  rintro k σ2 H2 ⟨M2, ρ2, e2, S2, go⟩
  cases k with
  | zero => cases go
  | succ k =>
    unfold goWh at go
    cases e3 : mt ρ2 with
    | none => rw [e3] at go; cases go
    | some x =>
      obtain ⟨b, ρ3⟩ := x
      rw [e3] at go
      refine ht M2 σ2 H2 ρ2 S2 b ρ3 e3 _ fun M3 H3 E3 S3 => ?_
      have e4 : Ev M H M3 H3 := e2.trans E3.ev
      cases b with
      | false =>
        cases go
        rw [if_neg (by decide)]
        exact q M3 σ2 H3 e4 S3
      | true =>
        rw [if_pos rfl]
        simp only at go
        refine ⟨fun σ' H' => ∃ M2 ρ2, Ev M H M2 H' ∧ Sta c M2 σ' H' ρ2 ∧ goWh mt mb k ρ2 = some (f, ρ'), fun σ' H' h => ⟨k, Nat.lt_succ_self k, h⟩, ?_⟩
        cases e5 : mb ρ3 with
        | none => rw [e5] at go; cases go
        | some y =>
          obtain ⟨f5, ρ5⟩ := y
          rw [e5] at go
          refine hb M3 σ2 H3 ρ3 S3 f5 ρ5 e5 _ ?_
          cases f5 with
          | nx => exact fun M6 σ6 H6 E6 S6 => ⟨M6, ρ5, e4.trans E6, S6, go⟩
          | ct => exact fun M6 σ6 H6 E6 S6 => ⟨M6, ρ5, e4.trans E6, S6, go⟩
          | bk =>
            cases go
            exact fun M6 σ6 H6 E6 S6 => q M6 σ6 H6 (e4.trans E6) S6
          | rt d =>
            cases go
            exact fun M6 σ6 v H6 E6 S6 hd => q M6 σ6 v H6 (e4.trans E6) S6 hd
          | rn d =>
            cases go
            exact fun M6 σ6 a H6 E6 S6 n => q M6 σ6 a H6 (e4.trans E6) S6 n
end
/-- the comprehension's own slots, forgotten; put back -/
def clr : List Nat → Cs → Cs
  | [], ρ => ρ
  | v :: vs, ρ => (clr vs ρ).set v .no
def back : List Nat → Cs → Cs → Cs
  | [], _, ρ => ρ
  | v :: vs, ρ0, ρ => match ρ0[v]? with
    | some x => (back vs ρ0 ρ).set v x
    | none => back vs ρ0 ρ
/-- none of them is owned -/
def free (vs : List Nat) (ρ : Cs) : Bool := vs.all fun v => match ρ[v]? with
  | some (.own _ _) => false
  | _ => true
def goLc (vs : List Nat) (g : D → Mo Unit) (t : Mo Bool) (e : Mo D) : List D → List D → Mo (List D)
  | [], acc, ρ => some (acc, ρ)
  | d :: ds, acc, ρ => match g d (clr vs ρ) with
    | none => none
    | some (_, ρ1) => match t ρ1 with
      | none => none
      | some (false, ρ2) => goLc vs g t e ds acc ρ2
      | some (true, ρ2) => match e ρ2 with
        | none => none
        | some (y, ρ3) => if acc.length < sizeLine then goLc vs g t e ds (acc ++ [y]) ρ3 else none
def mLc (vs : List Nat) (it : Mo (List D)) (g : D → Mo Unit) (t : Mo Bool) (e : Mo D) : Mo D := mBd it fun ds ρ0 => if free vs ρ0 = true then (match goLc vs g t e ds [] (clr vs ρ0) with
  | some (acc, ρ1) => some (.lst acc, back vs ρ0 (clr vs ρ1))
  | none => none) else none
theorem clr_length : ∀ (vs : List Nat) (ρ : Cs), (clr vs ρ).length = ρ.length
  | [], _ => rfl
  | v :: vs, ρ => by rw [clr, List.length_set, clr_length vs ρ]
theorem clr_out : ∀ {vs : List Nat} {ρ : Cs} {i : Nat}, i ∉ vs → (clr vs ρ)[i]? = ρ[i]?
  | [], _, _, _ => rfl
  | v :: vs, ρ, i, h => by
    rw [clr, List.getElem?_set_ne (fun z => h (by rw [z]; exact List.mem_cons_self)), clr_out fun z => h (List.mem_cons_of_mem _ z)]
theorem clr_in : ∀ {vs : List Nat} {ρ : Cs} {i : Nat}, i ∈ vs → i < ρ.length → (clr vs ρ)[i]? = some .no
  | v :: vs, ρ, i, h, hl => by
    rw [clr]
    by_cases z : v = i
    · subst z
      rw [List.getElem?_set_self (by rw [clr_length]; exact hl)]
    · rw [List.getElem?_set_ne z]
      exact clr_in ((List.mem_cons.mp h).elim (fun e => (z e.symm).elim) id) hl
theorem back_length : ∀ (vs : List Nat) (ρ0 ρ : Cs), (back vs ρ0 ρ).length = ρ.length
  | [], _, _ => rfl
  | v :: vs, ρ0, ρ => by
    rw [back]
    split
    · rw [List.length_set, back_length vs ρ0 ρ]
    · exact back_length vs ρ0 ρ
theorem back_out : ∀ {vs : List Nat} {ρ0 ρ : Cs} {i : Nat}, i ∉ vs → (back vs ρ0 ρ)[i]? = ρ[i]?
  | [], _, _, _, _ => rfl
  | v :: vs, ρ0, ρ, i, h => by
    rw [back]
    split
    · rw [List.getElem?_set_ne (fun z => h (by rw [z]; exact List.mem_cons_self)), back_out fun z => h (List.mem_cons_of_mem _ z)]
    · exact back_out fun z => h (List.mem_cons_of_mem _ z)
theorem back_in : ∀ {vs : List Nat} {ρ0 ρ : Cs} {i : Nat} {x : Cell}, i ∈ vs → ρ0[i]? = some x → i < ρ.length → (back vs ρ0 ρ)[i]? = some x
  | v :: vs, ρ0, ρ, i, x, h, hx, hl => by
    rw [back]
    by_cases z : v = i
    · subst z
      rw [hx]
      simp only
      rw [List.getElem?_set_self (by rw [back_length]; exact hl)]
    · have h' : i ∈ vs := (List.mem_cons.mp h).elim (fun e => (z e.symm).elim) id
      split
      · rw [List.getElem?_set_ne z]
        exact back_in h' hx hl
      · exact back_in h' hx hl
theorem wipe_no : ∀ {vs : List Nat} {σ : L2.St} {i : Nat}, i ∈ vs → i < σ.length → (wipe σ vs)[i]? = some none
  | v :: vs, σ, i, h, hl => by
    show ((wipe σ vs).set v none)[i]? = some none
    by_cases z : v = i
    · subst z
      rw [List.getElem?_set_self (by rw [wipe_length]; exact hl)]
    · rw [List.getElem?_set_ne z]
      exact wipe_no ((List.mem_cons.mp h).elim (fun e => (z e.symm).elim) id) hl
section
variable {K : PySem.W.Frag} {c : Ctx K} {M M1 : Addr → Prop} {σ : L2.St} {H H1 : Hp} {ρ ρ1 : Cs}
/-- the state within the comprehension -/
theorem Sta.clr (S : Sta c M σ H ρ) (vs : List Nat) : Sta c M (wipe σ vs) H (DL.clr vs ρ) := by
  refine ⟨S.pm, S.sub, S.new, S.kind, S.base, by rw [clr_length, wipe_length]; exact S.len, fun i x y h1 h2 => ?_, fun i j a p q d e a1 a2 a3 a4 => ?_⟩
  · by_cases z : i ∈ vs
    · have hl : i < ρ.length := by
        have := (List.getElem?_eq_some_iff.mp h2).1
        rw [clr_length] at this; exact this
      rw [clr_in z hl] at h2
      cases h2
      exact .no _
    · rw [clr_out z] at h2
      rw [wipe_out z] at h1
      exact S.cell i x y h1 h2
  · have out : ∀ {n : Nat} {q : Bool} {e : D}, (DL.clr vs ρ)[n]? = some (.own q e) → n ∉ vs := fun {n q e} h z => by
      have hl : n < ρ.length := by
        have := (List.getElem?_eq_some_iff.mp h).1
        rw [clr_length] at this; exact this
      rw [clr_in z hl] at h
      cases h
    rw [clr_out (out a2)] at a2
    rw [clr_out (out a4)] at a4
    have w : ∀ {n : Nat} {b : Addr}, (wipe σ vs)[n]? = some (some (.ref b)) → σ[n]? = some (some (.ref b)) := fun h => (wipe_some h).1
    exact S.inj i j a p q d e (w a1) a2 (w a3) a4
theorem held_clr {vs : List Nat} {b : Addr} (hl : σ.length = ρ.length) : Held (wipe σ vs) (clr vs ρ) b → Held σ ρ b := by
  rintro ⟨i, p, d, h1, h2⟩
  have out : i ∉ vs := fun z => by
    have hl : i < ρ.length := by
      have := (List.getElem?_eq_some_iff.mp h2).1
      rw [clr_length] at this; exact this
    rw [clr_in z hl] at h2
    cases h2
  rw [clr_out out] at h2
  exact ⟨i, p, d, (wipe_some h1).1, h2⟩
/-- .. and behind it -/
theorem wipe_same {σ σ1 : L2.St} {vs : List Nat} (hw : wipe σ1 vs = wipe σ vs) {i : Nat} (z : i ∉ vs) : σ1[i]? = σ[i]? := by
  rw [← wipe_out (σ := σ1) z, hw, wipe_out z]
theorem Sta.back {σ1 : L2.St} (S : Sta c M σ H ρ) (vs : List Nat) (hf : DL.free vs ρ = true) (E : Ev M H M1 H1) (hw : wipe σ1 vs = wipe σ vs) (S1 : Sta c M1 σ1 H1 ρ1) : Sta c M1 σ H1 (DL.back vs ρ (DL.clr vs ρ1)) := by
  have len1 : ρ1.length = σ.length := by rw [S1.len, ← wipe_length σ1 vs, hw, wipe_length]
  have own_out : ∀ {n : Nat} {q : Bool} {e : D}, (DL.back vs ρ (DL.clr vs ρ1))[n]? = some (.own q e) → n ∉ vs ∧ ρ1[n]? = some (.own q e) := fun {n q e} h => by
    have hl : n < ρ1.length := by
      have := (List.getElem?_eq_some_iff.mp h).1
      rw [back_length, clr_length] at this; exact this
    by_cases z : n ∈ vs
    · exfalso
      have hn : n < ρ.length := by rw [S.len, ← len1]; exact hl
      have e1 : ρ[n]? = some ρ[n] := List.getElem?_eq_getElem hn
      rw [back_in z e1 (by rw [clr_length]; exact hl)] at h
      have h' := Option.some.inj h
      have := List.all_eq_true.mp hf n z
      rw [e1, h'] at this
      cases this
    · rw [back_out z, clr_out z] at h
      exact ⟨z, h⟩
  refine ⟨S.pm, S1.sub, S1.new, S1.kind, S1.base, by rw [back_length, clr_length]; exact len1, fun i x y h1 h2 => ?_, fun i j a p q d e a1 a2 a3 a4 => ?_⟩
  · by_cases z : i ∈ vs
    · have hl : i < ρ1.length := by
        have := (List.getElem?_eq_some_iff.mp h2).1
        rw [back_length, clr_length] at this; exact this
      have hn : i < ρ.length := by rw [S.len, ← len1]; exact hl
      have e1 : ρ[i]? = some ρ[i] := List.getElem?_eq_getElem hn
      rw [back_in z e1 (by rw [clr_length]; exact hl)] at h2
      have h' := Option.some.inj h2
      have hc := S.cell i x _ h1 e1
      rw [h'] at hc
      cases hc with
      | no => exact .no _
      | dat q => exact .dat (q.ev S.kind E)
      | own m p q =>
        have := List.all_eq_true.mp hf i z
        rw [e1, h'] at this
        cases this
    · rw [back_out z, clr_out z] at h2
      exact S1.cell i x y (by rw [wipe_same hw z]; exact h1) h2
  · obtain ⟨z1, b1⟩ := own_out a2
    obtain ⟨z2, b2⟩ := own_out a4
    exact S1.inj i j a p q d e (by rw [wipe_same hw z1]; exact a1) b1 (by rw [wipe_same hw z2]; exact a3) b2
theorem held_back {σ1 : L2.St} {vs : List Nat} {ρ0 : Cs} {b : Addr} (l0 : ρ0.length = σ.length) (l1 : ρ1.length = σ.length) (hf : free vs ρ0 = true) (hw : wipe σ1 vs = wipe σ vs) : Held σ (back vs ρ0 (clr vs ρ1)) b → Held σ1 ρ1 b := by
  rintro ⟨i, p, d, h1, h2⟩
  have hl : i < ρ1.length := by
    have := (List.getElem?_eq_some_iff.mp h2).1
    rw [back_length, clr_length] at this; exact this
  by_cases z : i ∈ vs
  · exfalso
    have hn : i < ρ0.length := by rw [l0, ← l1]; exact hl
    have e1 : ρ0[i]? = some ρ0[i] := List.getElem?_eq_getElem hn
    rw [back_in z e1 (by rw [clr_length]; exact hl)] at h2
    have h' := Option.some.inj h2
    have := List.all_eq_true.mp hf i z
    rw [e1, h'] at this
    cases this
  · rw [back_out z, clr_out z] at h2
    exact ⟨i, p, d, by rw [wipe_same hw z]; exact h1, h2⟩
/-- an object that is being made, not yet in a slot, is changed -/
theorem Sta.put {a : Addr} {o : HO} (S : Sta c M σ H ρ) (hM : M a) (h0 : c.H0 a = none) (nh : ¬ Held σ ρ a) (hm : MutK o) : Ev M H M (upd H a o) ∧ Sta c M σ (upd H a o) ρ := by
  have E : Ev M H M (upd H a o) := ⟨fun b h => .inl h, fun b u n h => by rw [upd_ne (fun z => n (by rw [z]; exact hM))]; exact h⟩
  refine ⟨E, S.pm, S.sub, S.new, fun b hb => ?_, fun b u n h => ?_, S.len, fun i x y h1 h2 => ?_, S.inj⟩
  · by_cases z : b = a
    · subst z; exact ⟨_, upd_same, hm⟩
    · obtain ⟨u, q, m⟩ := S.kind b hb
      exact ⟨u, by rw [upd_ne z]; exact q, m⟩
  · rw [upd_ne (fun z => by rw [z, h0] at h; cases h)]
    exact S.base b u n h
  · cases S.cell i x y h1 h2 with
    | no => exact .no _
    | dat q => exact .dat (q.ev S.kind E)
    | own m q w =>
      rename_i p' a' d'
      have ne : a' ≠ a := fun z => nh ⟨i, p', d', by rw [← z]; exact h1, h2⟩
      exact .own m q (w.elim fun u r => ⟨u, by rw [upd_ne ne]; exact r.1, r.2.ev S.kind E⟩)
end
/-- the target is the comprehension's own -/
def OwnG (g : TG) (vs : List Nat) : Prop := ∀ v σ H w (Q : L2.St → Hp → Prop), wipe σ vs = w → g v σ H (fun σ2 H2 => wipe σ2 vs = w → Q σ2 H2) → g v σ H fun σ2 H2 => wipe σ2 vs = w ∧ Q σ2 H2
def OwnGs (g : TGs) (vs : List Nat) : Prop := ∀ v σ H w (Q : L2.St → Hp → Prop), wipe σ vs = w → g v σ H (fun σ2 H2 => wipe σ2 vs = w → Q σ2 H2) → g v σ H fun σ2 H2 => wipe σ2 vs = w ∧ Q σ2 H2
theorem wipe_set {σ : L2.St} {vs : List Nat} {i : Nat} {x : Option V} (h : i ∈ vs) : wipe (σ.set i x) vs = wipe σ vs := by
  refine List.ext_getElem? fun j => ?_
  by_cases z : j ∈ vs
  · by_cases l : j < σ.length
    · rw [wipe_no z (by rw [List.length_set]; exact l), wipe_no z l]
    · rw [List.getElem?_eq_none (by rw [wipe_length, List.length_set]; omega), List.getElem?_eq_none (by rw [wipe_length]; omega)]
  · rw [wipe_out z, wipe_out z, List.getElem?_set_ne fun e => z (by rw [← e]; exact h)]
theorem wipe_wipe {σ : L2.St} {vs : List Nat} : wipe (wipe σ vs) vs = wipe σ vs := by
  refine List.ext_getElem? fun j => ?_
  by_cases z : j ∈ vs
  · by_cases l : j < σ.length
    · rw [wipe_no z (by rw [wipe_length]; exact l), wipe_no z l]
    · rw [List.getElem?_eq_none (by rw [wipe_length, wipe_length]; omega), List.getElem?_eq_none (by rw [wipe_length]; omega)]
  · rw [wipe_out z]
theorem own_name {i : Nat} {vs : List Nat} (h : i ∈ vs) : OwnG (gName i) vs := fun v σ H w Q e q => ⟨by rw [wipe_set h]; exact e, q (by rw [wipe_set h]; exact e)⟩
theorem own_nil {vs : List Nat} : OwnGs gNil vs := fun v σ H w Q e q => ⟨q.1, e, q.2 e⟩
/-- a target that asks less when less is wanted -/
theorem own_cons {g : TG} {gs : TGs} {vs : List Nat} (h : OwnG g vs) (hs : OwnGs gs vs) (mono : ∀ v σ H (Q Q' : L2.St → Hp → Prop), (∀ s h, Q s h → Q' s h) → g v σ H Q → g v σ H Q') : OwnGs (gCons g gs) vs := fun v σ H w Q e q => by
  obtain ⟨x, r, rfl, q⟩ := q
  refine ⟨x, r, rfl, mono _ _ _ _ _ (fun s h' z => z.2) (h x σ H w (fun σ' H' => gs r σ' H' fun σ2 H2 => wipe σ2 vs = w ∧ Q σ2 H2) e ?_)⟩
  exact mono _ _ _ _ _ (fun s h' z e' => hs r s h' w Q e' z) q
theorem own_tup {K : PySem.W.Frag} {n : Nat} {gs : TGs} {vs : List Nat} (hs : OwnGs gs vs) : OwnG (gTup K n gs) vs := fun v σ H w Q e q => by
  obtain ⟨a, xs, h1, h2, h3, q⟩ := q
  exact ⟨a, xs, h1, h2, h3, hs xs σ H w Q e q⟩
theorem mono_name {i : Nat} : ∀ v σ H (Q Q' : L2.St → Hp → Prop), (∀ s h, Q s h → Q' s h) → gName i v σ H Q → gName i v σ H Q' := fun _ _ _ _ _ h q => h _ _ q
section
variable {K : PySem.W.Frag} {c : Ctx K} {wi : TI} {mi : Mo (List D)} {g : TG} {mg : D → Mo Unit} {tt : TT} {mt : Mo Bool} {te : TE} {me : Mo D}
theorem r_yes : RTt c tYes (mC true) := by
  intro M σ H ρ S b ρ' hm Q q
  obtain ⟨e1, e2⟩ := mC_some hm
  subst e1 e2
  exact q M H .refl S
theorem r_lc {vs : List Nat} (hi : RIt c wi mi) (hg : RTg c g mg) (ho : OwnG g vs) (ht : RTt c tt mt) (he : REv c te me) : RNw c (tLc wi g tt te vs) (mLc vs mi mg mt me) := by
  intro M σ H ρ S d ρ' hm Q q
  obtain ⟨ds, ρ0, h1, h2⟩ := mBd_some hm
  split at h2
  case isFalse => cases h2
  rename_i hf
  refine hi M σ H ρ S ds ρ0 h1 _ fun M' H' J G Y E S' W => fun D hD => ?_
  cases go0 : goLc vs mg mt me ds [] (clr vs ρ0) with
  | none => rw [go0] at h2; cases h2
  | some r0 =>
    obtain ⟨accf, ρf⟩ := r0
    rw [go0] at h2
    cases h2
    obtain ⟨eD, sD, nD⟩ := S'.nw (o := .lst []) (d := .lst []) hD (same_new hD) upd_same (.lst .nil)
    have h0D := nD.h0
    have n0D := nD.n0
    -- the invariant
    refine lc_it W.w (fun i Hi => ∃ M1 σ1 ρ1 acc accd, wipe σ1 vs = wipe σ vs ∧ Sta c M1 σ1 Hi ρ1 ∧ Es σ M' H' ρ0 σ1 M1 Hi ρ1 ∧ M1 D ∧ ¬ Held σ1 ρ1 D ∧ Hi D = some (.lst acc) ∧ DatAll K M1 Hi acc accd ∧ goLc vs mg mt me (ds.drop i) accd ρ1 = some (accf, ρf)) ?_ (fun i Hi _ ⟨M1, σ1, ρ1, _, _, _, _, e, _⟩ => W.g M1 Hi e.ev) ?_ ?_
    · refine ⟨_, wipe σ vs, clr vs ρ0, [], [], wipe_wipe, sD.clr vs, ⟨eD.ev, eD.kp, fun b o h z => held_clr S'.len.symm z, eD.mc, eD.dm⟩, nD.m, fun z => nD.nh (held_clr S'.len.symm z), upd_same, .nil, by rw [List.drop_zero]; exact go0⟩
    · rintro i x Hi H3 hlt ⟨M1, σ1, ρ1, acc, accd, hw, S1, E1, mD, hD1, aD, dacc, go⟩ y
      obtain ⟨s3, dv, hd, dx⟩ := W.y i M1 Hi x H3 E1.ev S1.kind hlt y
      rw [drop_get hd] at go
      unfold goLc at go
      have S3 : Sta c M1 (wipe σ vs) H3 (clr vs ρ1) := by rw [← hw]; exact (S1.same s3).clr vs
      have E3 : Es σ1 M1 Hi ρ1 (wipe σ vs) M1 H3 (clr vs ρ1) := by
        rw [← hw]
        exact ⟨.same s3, fun b o _ h => s3 b o h, fun b o _ z => held_clr S1.len.symm z, fun _ h _ => h, fun _ h => s3.free h⟩
      cases e4 : mg dv (clr vs ρ1) with
      | none => rw [e4] at go; cases go
      | some r4 =>
        obtain ⟨u4, ρ4⟩ := r4
        rw [e4] at go
        simp only at go
        refine ho x (wipe σ vs) H3 (wipe σ vs) _ wipe_wipe (hg M1 (wipe σ vs) H3 (clr vs ρ1) S3 x dv dx u4 ρ4 e4 _ fun M4 σ4 H4 E4 S4 => ?_)
        · intro hw4
          have E14 : Es σ1 M1 Hi ρ1 σ4 M4 H4 ρ4 := E3.trans E4 S1.kind
          cases e5 : mt ρ4 with
          | none => rw [e5] at go; cases go
          | some r5 =>
            obtain ⟨b5, ρ5⟩ := r5
            rw [e5] at go
            refine ht M4 σ4 H4 ρ4 S4 b5 ρ5 e5 _ fun M5 H5 E5 S5 => ?_
            have E15 : Es σ1 M1 Hi ρ1 σ4 M5 H5 ρ5 := E14.trans E5 S1.kind
            cases b5 with
            | false =>
              rw [if_neg (by decide)]
              exact ⟨M5, σ4, ρ5, acc, accd, hw4, S5, E1.trans E15 S'.kind, E15.mc D mD hD1, fun z => hD1 (E15.hs D _ aD z), E15.kp D _ hD1 aD, dacc.ev S1.kind E15.ev, go⟩
            | true =>
              rw [if_pos rfl]
              simp only at go
              cases e6 : me ρ5 with
              | none => rw [e6] at go; cases go
              | some r6 =>
                obtain ⟨dy, ρ6⟩ := r6
                rw [e6] at go
                simp only at go
                split at go
                case isFalse => cases go
                rename_i hlen
                refine he M5 σ4 H5 ρ5 S5 dy ρ6 e6 _ fun M6 yv H6 E6 S6 dyv => ?_
                have E16 : Es σ1 M1 Hi ρ1 σ4 M6 H6 ρ6 := E15.trans E6 S1.kind
                have a6 := E16.kp D _ hD1 aD
                have m6 := E16.mc D mD hD1
                have h6 : ¬ Held σ4 ρ6 D := fun z => hD1 (E16.hs D _ aD z)
                obtain ⟨E7, S7⟩ := S6.put (o := .lst (acc ++ [yv])) m6 h0D h6 trivial
                refine ⟨acc, a6, by rw [dacc.length]; exact hlen, M6, σ4, ρ6, acc ++ [yv], accd ++ [dy], hw4, S7, ?_, m6, h6, upd_same, ((dacc.ev S1.kind E16.ev).append (.cons dyv .nil)).ev S6.kind E7, go⟩
                have E' := E1.trans E16 S'.kind
                refine ⟨E'.ev.trans E7, fun b o n h => ?_, E'.hs, E'.mc, fun b h => E'.dm b ?_⟩
                · rw [upd_ne (fun z => by rw [z, hD] at h; cases h)]
                  exact E'.kp b o n h
                · by_cases z : b = D
                  · subst z; rw [upd_same] at h; cases h
                  · rw [upd_ne z] at h; exact h
    · rintro Hi ⟨M1, σ1, ρ1, acc, accd, hw, S1, E1, mD, hD1, aD, dacc, go⟩
      rw [List.drop_length] at go
      cases go
      have len1 : ρf.length = σ.length := by rw [S1.len, ← wipe_length σ1 vs, hw, wipe_length]
      have Sb := S'.back vs hf E1.ev hw S1
      have hb : ∀ b, Held σ (back vs ρ0 (clr vs ρf)) b → Held σ1 ρf b := fun b => held_back S'.len len1 hf hw
      exact q M1 D Hi (E.dm D hD) (E.trans ⟨E1.ev, E1.kp, fun b o h z => E1.hs b o h (hb b z), E1.mc, E1.dm⟩ S.kind) Sb ⟨mD, fun z => hD1 (hb D z), h0D, n0D, _, aD, .lst dacc⟩
end
end DL
set_option autoImplicit false
namespace DL
open PySem PySem.Spec PyProof.Rows L2
inductive Items {K : PySem.W.Frag} (c : Ctx K) (M : Addr → Prop) (σ : L2.St) (H : Hp) (ρ : Cs) : List V → List D → List Bool → List Addr → Prop
  | nil : Items c M σ H ρ [] [] [] []
  | dat {v : V} {d : D} {vs : List V} {ds : List D} {fs : List Bool} {as : List Addr} : Dat K M H v d → Items c M σ H ρ vs ds fs as → Items c M σ H ρ (v :: vs) (d :: ds) (false :: fs) as
  | new {a : Addr} {d : D} {vs : List V} {ds : List D} {fs : List Bool} {as : List Addr} : Nw c M σ H ρ a d → a ∉ as → Items c M σ H ρ vs ds fs as → Items c M σ H ρ (.ref a :: vs) (d :: ds) (true :: fs) (a :: as)
def stAll : List Nat → List Bool → List D → Cs → Option Cs
  | [], [], [], ρ => some ρ
  | i :: is, b :: bs, d :: ds, ρ => stAll is bs ds (ρ.set i (if b = true then .own false d else .dat d))
  | _, _, _, _ => none
def svAll : List Nat → List V → L2.St → L2.St
  | i :: is, v :: vs, σ => svAll is vs (σ.set i (some v))
  | _, _, σ => σ
section
variable {K : PySem.W.Frag} {c : Ctx K} {M M' : Addr → Prop} {σ σ' : L2.St} {H H' : Hp} {ρ ρ' : Cs}
theorem Items.es (k : Kind M H) (e : Es σ M H ρ σ' M' H' ρ') {vs : List V} {ds : List D} {fs : List Bool} {as : List Addr} (h : Items c M σ H ρ vs ds fs as) : Items c M' σ' H' ρ' vs ds fs as := by
  induction h with
  | nil => exact .nil
  | dat q _ ih => exact .dat (q.ev k e.ev) ih
  | new q n _ ih => exact .new (q.es k e) n ih
/-- a name takes a new object: the others stay -/
theorem Items.taken {i : Nat} {a : Addr} {d : D} {vs : List V} {ds : List D} {fs : List Bool} {as : List Addr} (h : Items c M σ H ρ vs ds fs as) (n : a ∉ as) : Items c M (σ.set i (some (.ref a))) H (ρ.set i (.own false d)) vs ds fs as := by
  induction h with
  | nil => exact .nil
  | dat q _ ih => exact .dat q (ih n)
  | @new b _ _ _ _ _ q n' _ ih =>
    have nb : b ≠ a := fun z => n (by rw [z]; exact List.mem_cons_self)
    refine .new ⟨q.m, fun z => ?_, q.h0, q.n0, q.o⟩ n' (ih fun z => n (List.mem_cons_of_mem _ z))
    obtain ⟨j, p, e, h1, h2⟩ := z
    by_cases w : i = j
    · subst w
      by_cases l : i < σ.length
      · rw [List.getElem?_set_self l] at h1
        cases h1
        exact nb rfl
      · rw [List.getElem?_eq_none (by rw [List.length_set]; omega)] at h1
        cases h1
    · rw [List.getElem?_set_ne w] at h1 h2
      exact q.nh ⟨j, p, e, h1, h2⟩
theorem Items.setDat {i : Nat} {v : V} {d : D} {vs : List V} {ds : List D} {fs : List Bool} {as : List Addr} (l : σ.length = ρ.length) (h : Items c M σ H ρ vs ds fs as) : Items c M (σ.set i (some v)) H (ρ.set i (.dat d)) vs ds fs as := by
  induction h with
  | nil => exact .nil
  | dat q _ ih => exact .dat q ih
  | new q n' _ ih => exact .new ⟨q.m, fun z => q.nh (held_setDat _ l z), q.h0, q.n0, q.o⟩ n' ih
theorem Items.store : ∀ {is : List Nat} {vs : List V} {ds : List D} {fs : List Bool} {as : List Addr} {σ : L2.St} {ρ ρ' : Cs}, Sta c M σ H ρ → Items c M σ H ρ vs ds fs as → stAll is fs ds ρ = some ρ' → Sta c M (svAll is vs σ) H ρ'
  | [], _, _, _, _, σ, ρ, ρ', S, .nil, e => by cases e; exact S
  | [], _, _, _, _, σ, ρ, ρ', S, .dat _ _, e => by cases e
  | [], _, _, _, _, σ, ρ, ρ', S, .new _ _ _, e => by cases e
  | _ :: _, _, _, _, _, σ, ρ, ρ', S, .nil, e => by cases e
  | i :: is, _, _, _, _, σ, ρ, ρ', S, .dat q r, e => Items.store (is := is) (S.setDat i q) (r.setDat S.len.symm) e
  | i :: is, _, _, _, _, σ, ρ, ρ', S, .new q n r, e => Items.store (is := is) (S.takeN q i) (r.taken n) e
end
def RAf {K : PySem.W.Frag} (c : Ctx K) (t : TA) (fs : List Bool) (m : Mo (List D)) : Prop := ∀ M σ H ρ, Sta c M σ H ρ → ∀ ds ρ', m ρ = some (ds, ρ') → ∀ Q : List V → Hp → Prop,
  (∀ M' vs H' as, (∀ a ∈ as, H a = none) → Es σ M H ρ σ M' H' ρ' → Sta c M' σ H' ρ' → Items c M' σ H' ρ' vs ds fs as → Q vs H') → t σ H Q
structure DF (X : Cx) {K : PySem.W.Frag} (c : Ctx K) (es : List Expr) (t : TA) (fs : List Bool) (m : Mo (List D)) : Prop where
  p : PA X es t
  r : RAf c t fs m
def sPar (is : List Nat) (fs : List Bool) (m : Mo (List D)) : Mo Fl := mBd m fun ds ρ => match stAll is fs ds ρ with
  | some ρ' => some (.nx, ρ')
  | none => none
def gNames : List Nat → TGs
  | [] => gNil
  | i :: is => gCons (gName i) (gNames is)
theorem gNames_run : ∀ {is : List Nat} {vs : List V} {σ : L2.St} {H : Hp} {Q : L2.St → Hp → Prop}, vs.length = is.length → Q (svAll is vs σ) H → gNames is vs σ H Q
  | [], [], _, _, _, _, q => ⟨rfl, q⟩
  | i :: is, v :: vs, σ, H, Q, h, q => ⟨v, vs, rfl, gNames_run (by simpa using h) q⟩
  | [], _ :: _, _, _, _, h, _ => by simp at h
  | _ :: _, [], _, _, _, h, _ => by simp at h
section
variable {K : PySem.W.Frag} {c : Ctx K} {te : TE} {me : Mo D} {tl : TA} {ml : Mo (List D)} {fs : List Bool}
theorem r_fnil : RAf c tNil [] aNil := by
  intro M σ H ρ S ds ρ' hm Q q
  obtain ⟨e1, e2⟩ := mC_some hm
  subst e1 e2
  exact q M [] H [] (fun _ h => nomatch h) .refl S .nil
theorem r_fdat (ha : REv c te me) (hr : RAf c tl fs ml) : RAf c (tCons te tl) (false :: fs) (aCons me ml) := by
  intro M σ H ρ S ds ρ' hm Q q
  obtain ⟨x, ρ1, h1, hm1⟩ := mBd_some hm
  obtain ⟨xs, ρ2, h2, hm2⟩ := mBd_some hm1
  obtain ⟨e1, e2⟩ := mC_some hm2
  subst e1 e2
  exact ha M σ H ρ S x ρ1 h1 _ fun M1 v H1 E1 S1 d1 => hr M1 σ H1 ρ1 S1 xs _ h2 _ fun M2 vs H2 as hf E2 S2 d2 => q M2 _ H2 as (fun a ha => E1.dm a (hf a ha)) (E1.trans E2 S.kind) S2 (.dat (d1.ev S1.kind E2.ev) d2)
theorem r_fnew (ha : RNw c te me) (hr : RAf c tl fs ml) : RAf c (tCons te tl) (true :: fs) (aCons me ml) := by
  intro M σ H ρ S ds ρ' hm Q q
  obtain ⟨x, ρ1, h1, hm1⟩ := mBd_some hm
  obtain ⟨xs, ρ2, h2, hm2⟩ := mBd_some hm1
  obtain ⟨e1, e2⟩ := mC_some hm2
  subst e1 e2
  refine ha M σ H ρ S x ρ1 h1 _ fun M1 a H1 hfa E1 S1 n1 => hr M1 σ H1 ρ1 S1 xs _ h2 _ fun M2 vs H2 as hf E2 S2 d2 => q M2 _ H2 (a :: as) (fun b hb => ?_) (E1.trans E2 S.kind) S2 (.new (n1.es S1.kind E2) (fun z => ?_) d2)
  · rcases List.mem_cons.mp hb with rfl | hb
    · exact hfa
    · exact E1.dm b (hf b hb)
  · obtain ⟨o, ho, _⟩ := n1.o
    rw [hf a z] at ho; cases ho
theorem Items.len {M : Addr → Prop} {σ : L2.St} {H : Hp} {ρ : Cs} {vs : List V} {ds : List D} {as : List Addr} (h : Items c M σ H ρ vs ds fs as) : vs.length = ds.length := by
  induction h with
  | nil => rfl
  | dat _ _ ih => rw [List.length_cons, List.length_cons, ih]
  | new _ _ _ ih => rw [List.length_cons, List.length_cons, ih]
theorem stAll_len : ∀ {is : List Nat} {fs : List Bool} {ds : List D} {ρ ρ' : Cs}, stAll is fs ds ρ = some ρ' → ds.length = is.length
  | [], [], [], _, _, _ => rfl
  | i :: is, b :: bs, d :: ds, ρ, ρ', h => by rw [List.length_cons, List.length_cons, stAll_len (is := is) (fs := bs) (ds := ds) h]
  | [], [], _ :: _, _, _, h => by cases h
  | [], _ :: _, _, _, _, h => by cases h
  | _ :: _, [], _, _, _, h => by cases h
  | _ :: _, _ :: _, [], _, _, h => by cases h
theorem r_par2 {i j : Nat} (h : RAf c tl fs ml) : RSt c (tPar i j tl) (sPar [i, j] fs ml) := by
  intro M σ H ρ S f ρ' hm D q
  obtain ⟨ds, ρ1, h1, h2⟩ := mBd_some hm
  cases e : stAll [i, j] fs ds ρ1 with
  | none => simp only [e] at h2; cases h2
  | some ρ2 =>
    simp only [e] at h2
    cases h2
    refine h M σ H ρ S ds ρ1 h1 _ fun M1 vs H1 as _ E1 S1 it => ?_
    have l : vs.length = 2 := by rw [it.len, stAll_len e]; rfl
    match vs, l with
    | [v, w], _ => exact ⟨v, w, rfl, q M1 _ H1 E1.ev (it.store S1 e)⟩
/-- by way of a tuple -/
theorem r_parT {n : Nat} {is : List Nat} (hn : is.length = n) (hz : n ≤ 1000) (h : RAf c tl fs ml) : RSt c (tAsg (tTup tl) (gTup K n (gNames is))) (sPar is fs ml) := by
  intro M σ H ρ S f ρ' hm D q
  obtain ⟨ds, ρ1, h1, h2⟩ := mBd_some hm
  cases e : stAll is fs ds ρ1 with
  | none => simp only [e] at h2; cases h2
  | some ρ2 =>
    simp only [e] at h2
    cases h2
    refine h M σ H ρ S ds ρ1 h1 _ fun M1 vs H1 as _ E1 S1 it => ?_
    have l : vs.length = n := by rw [it.len, stAll_len e, hn]
    refine ⟨by rw [l, sizeLine_eq]; omega, fun p hp => ⟨p, vs, rfl, .inl (.inl upd_same), l, gNames_run (by rw [l, hn]) ?_⟩⟩
    have s : Same H1 (upd H1 p (.tup vs)) := same_new hp
    exact q M1 _ _ (E1.ev.trans (.same s)) ((it.es S1.kind (.same s)).store (S1.same s) e)
def ownsL (i : Nat) (ρ : Cs) : Bool := match ρ[i]? with
  | some (.own _ (.lst _)) => true
  | _ => false
theorem ownsL_some {i : Nat} {ρ : Cs} (h : ownsL i ρ = true) : ∃ p ds, ρ[i]? = some (.own p (.lst ds)) := by
  unfold ownsL at h
  split at h
  · exact ⟨_, _, by assumption⟩
  · cases h
def sAppV (i : Nat) (me : Mo D) : Mo Fl := fun ρ => if ownsL i ρ = true then sApp i me ρ else none
theorem grown {M M1 : Addr → Prop} {σ : L2.St} {H H1 : Hp} {ρ ρ1 : Cs} {i : Nat} {a : Addr} {p : Bool} {ds es : List D} {ys : List V} (ha : σ[i]? = some (some (.ref a))) (e1 : ρ1[i]? = some (.own p (.lst ds))) (E1 : Es σ M H ρ σ M1 H1 ρ1) (S1 : Sta c M1 σ H1 ρ1) (hv : DatAll K M1 H1 ys es) :
    ∃ xs, H1 a = some (.lst xs) ∧ xs.length = ds.length ∧ (Ev M H M1 (upd H1 a (.lst (xs ++ ys))) ∧ Sta c M1 σ (upd H1 a (.lst (xs ++ ys))) (ρ1.set i (.own p (.lst (ds ++ es))))) := by
  obtain ⟨a', ha', hM, _, o, ho, hc⟩ := S1.own e1
  rw [ha] at ha'
  cases ha'
  cases hc with
  | lst hx =>
    rename_i xs
    refine ⟨xs, ho, hx.length, ?_⟩
    have ev2 : Ev M1 H1 M1 (upd H1 a (.lst (xs ++ ys))) := ⟨fun b h => .inl h, fun b o nb h => by rw [upd_ne (fun z => nb (by rw [z]; exact hM))]; exact h⟩
    have E2 := S1.mut (d' := .lst (ds ++ es)) (H' := upd H1 a (.lst (xs ++ ys))) ha e1 (fun b o nb h => by rw [upd_ne nb]; exact h) ⟨_, upd_same, .lst ((hx.append hv).ev S1.kind ev2)⟩
    exact ⟨E1.ev.trans E2.1, E2.2⟩
theorem r_app {i : Nat} (h : REv c te me) : RSt c (tDrop (tBM K "list" rAppend (tVar i) (tCons te tNil))) (sAppV i me) := by
  intro M σ H ρ S f ρ' hm D q
  unfold sAppV at hm
  split at hm
  case isFalse => cases hm
  rename_i hw
  obtain ⟨p0, d0, e0⟩ := ownsL_some hw
  obtain ⟨a, ha, _, _, o0, ho0, hc0⟩ := S.own e0
  obtain ⟨d, ρ1, h1, h2⟩ := mBd_some hm
  split at h2
  · rename_i p ds e1
    obtain ⟨hl, e2⟩ := if_some h2
    cases e2
    cases hc0 with
    | lst _ =>
      refine ⟨_, ha, .inl ⟨rfl, _, SqL.of ho0⟩, h M σ H ρ S d ρ1 h1 _ fun M1 v H1 E1 S1 hv => ?_⟩
      obtain ⟨xs, hx, hlx, E2, S2⟩ := grown ha e1 E1 S1 (.cons hv .nil)
      exact ⟨a, xs, v, rfl, rfl, hx, by rw [hlx]; exact hl, q M1 _ _ E2 S2⟩
  · cases h2
end
end DL
set_option autoImplicit false
namespace DL
open PySem PySem.Spec PyProof.Rows L2
def scal : D → Bool
  | .non | .bl _ | .int _ | .str _ => true
  | _ => false
theorem scal_dat {K : PySem.W.Frag} {M M' : Addr → Prop} {H : Hp} {v : V} {d : D} (h : Dat K M H v d) (s : scal d = true) : Dat K M' H v d := by
  cases d <;> simp [scal] at s <;> cases h <;> constructor
/-- the object of slot i, which the def owns, read as data -/
theorem Sta.peek {K : PySem.W.Frag} {c : Ctx K} {M : Addr → Prop} {σ : L2.St} {H : Hp} {ρ : Cs} (S : Sta c M σ H ρ) {i : Nat} {p : Bool} {d : D} (h : ρ[i]? = some (.own p d)) :
    ∃ a, σ[i]? = some (some (.ref a)) ∧ Kind (fun b => M b ∧ b ≠ a) H ∧ (∀ b, (M b ∧ b ≠ a) → M b) ∧ Dat K (fun b => M b ∧ b ≠ a) H (.ref a) d := by
  obtain ⟨a, ha, _, _, o, ho, hc⟩ := S.own h
  exact ⟨a, ha, fun b hb => S.kind b hb.1, fun b hb => hb.1, (hc.less fun b hb => hb.1).dat (fun z => z.2 rfl) ho⟩
def sc? (o : Option D) : Option D := match o with
  | some d => if scal d = true then some d else none
  | none => none
theorem sc_some {o : Option D} {d : D} (h : sc? o = some d) : o = some d ∧ scal d = true := by
  unfold sc? at h
  split at h
  · obtain ⟨a, rfl⟩ := if_some h
    exact ⟨rfl, a⟩
  · cases h
/-- x op e, x the name in slot i -/
def mOpL (g : D → D → Option D) (i : Nat) (b : Mo D) : Mo D := fun ρ => match ρ[i]? with
  | some (.own _ _) => mBd b (fun y ρ1 => match ρ1[i]? with
    | some (.own _ d) => mL (sc? (g d y)) ρ1
    | _ => none) ρ
  | _ => mOp g (mVar i) b ρ
/-- e op x -/
def mOpRt (g : D → D → Option D) (a : Mo D) (i : Nat) : Mo D := mBd a fun x ρ => match ρ[i]? with
  | some (.own _ d) => mL (sc? (g x d)) ρ
  | _ => mBd (mVar i) (fun y => mL (g x y)) ρ
/-- f(x) -/
def mFnP (g : List D → Option D) (i : Nat) : Mo D := fun ρ => match ρ[i]? with
  | some (.own _ d) => mL (sc? (g [d])) ρ
  | _ => mFn g (aCons (mVar i) aNil) ρ
section
variable {K : PySem.W.Frag} {c : Ctx K} {ta tb : TE} {ma mb : Mo D}
theorem r_opRt {g : D → D → Option D} {i : Nat} (ha : REv c ta ma) : REv c (tOp (rD K g) ta (tVar i)) (mOpRt g ma i) := by
  intro M σ H ρ S d ρ' hm Q q
  obtain ⟨x, ρ1, h1, h2⟩ := mBd_some hm
  split at h2
  · rename_i p1 d1 e1
    obtain ⟨h3, e3⟩ := mL_some h2
    subst e3
    obtain ⟨hg, hs⟩ := sc_some h3
    refine ha M σ H ρ S x _ h1 _ fun M1 w H1 E1 S1 dw => ?_
    obtain ⟨a', ha', k, L, dd⟩ := S1.peek e1
    exact ⟨_, ha', _, x, d1, d, k, dw.less L, dd, hg, fun u H2 s h => q M1 u H2 (E1.trans (.same s) S.kind) (S1.same s) (scal_dat h hs)⟩
  · refine r_op ha (r_var i) M σ H ρ S d ρ' ?_ Q q
    show mBd ma (fun x => mBd (mVar i) fun y => mL (g x y)) ρ = _
    unfold mBd
    rw [h1]
    exact h2
theorem r_fnP {g : List D → Option D} {i : Nat} : REv c (tCB (rC K g) (tCons (tVar i) tNil)) (mFnP g i) := by
  intro M σ H ρ S d ρ' hm Q q
  unfold mFnP at hm
  split at hm
  · rename_i p1 d1 e1
    obtain ⟨h3, e3⟩ := mL_some hm
    subst e3
    obtain ⟨hg, hs⟩ := sc_some h3
    obtain ⟨a', ha', k, L, dd⟩ := S.peek e1
    exact ⟨_, ha', _, [d1], d, k, .cons dd .nil, hg, fun u H2 s h => q M u H2 (.same s) (S.same s) (scal_dat h hs)⟩
  · exact r_fn (r_acons (r_var i) r_anil) M σ H ρ S d ρ' hm Q q
end
def rIxO (K : PySem.W.Frag) : R2 := fun x y H Q => rD K dIx x y H Q ∨ ∃ p q xs i v, x = .ref p ∧ y = .int i ∧ SqL q H p xs ∧ q = K ∧ atI xs i = some v ∧ Q v H
def mIxV (i : Nat) (b : Mo D) : Mo D := fun ρ => match ρ[i]? with
  | some (.own _ (.lst _)) => mBd b (fun y ρ1 => match ρ1[i]? with
    | some (.own _ (.lst ds)) => (match y with
      | .int k => mL (atI ds k) ρ1
      | _ => none)
    | _ => none) ρ
  | _ => mOp dIx (mVar i) b ρ
section
variable {X : Cx}
theorem ix_OWN : IxR X (rIxO X.K) := by
  intro value slice pins s σ H x y v u Q I rx ry h hs
  rcases h with h | ⟨p, q, xs, i, w, rfl, rfl, h1, rfl, e1, h2⟩
  · exact ix_ALL value slice pins s σ H x y v u Q I rx ry h hs
  · exact ix_list value slice pins s σ H _ _ v u Q I rx ry ⟨_, _, i, w, rfl, rfl, h1, e1, h2⟩ hs
end
theorem r_ixV {K : PySem.W.Frag} {c : Ctx K} {i : Nat} {tb : TE} {mb : Mo D} (hb : REv c tb mb) : REv c (tOp (rIxO K) (tVar i) tb) (mIxV i mb) := by
  intro M σ H ρ S d ρ' hm Q q
  unfold mIxV at hm
  split at hm
  · rename_i p d0 e0
    obtain ⟨y, ρ1, h1, h2⟩ := mBd_some hm
    split at h2
    · rename_i p1 ds e1
      split at h2
      · rename_i k
        obtain ⟨h3, e3⟩ := mL_some h2
        subst e3
        obtain ⟨a, ha, _⟩ := S.own e0
        refine ⟨_, ha, hb M σ H ρ S _ _ h1 _ fun M1 w H1 E1 S1 dw => ?_⟩
        cases dw
        obtain ⟨a', ha', _, _, o, ho, hc⟩ := S1.own e1
        rw [ha] at ha'; cases ha'
        cases hc with
        | lst hx =>
          obtain ⟨v, hv, dv⟩ := atI_dat hx h3
          exact .inr ⟨_, _, _, k, v, rfl, rfl, SqL.of ho, rfl, hv, q M1 v H1 E1 S1 dv⟩
      · cases h2
    · cases h2
  · obtain ⟨x, ρ1, h1, hm⟩ := mBd_some hm
    obtain ⟨y, ρ2, h2, hm⟩ := mBd_some hm
    obtain ⟨hg, rfl⟩ := mL_some hm
    refine r_var i M σ H ρ S x ρ1 h1 _ fun M1 v H1 E1 S1 d1 => hb M1 σ H1 ρ1 S1 y _ h2 _ fun M2 w H2 E2 S2 d2 => ?_
    exact .inl ⟨M2, x, y, d, S2.kind, d1.ev S1.kind E2.ev, d2, hg, fun u H3 s h => q M2 u H3 ((E1.trans E2 S.kind).trans (.same s) S.kind) (S2.same s) h⟩
section
variable {X : Cx} {K : PySem.W.Frag} {c : Ctx K} {a b e : Expr} {es : List Expr} {pos : Pos} {ta tb tc : TE} {ma mb mc : Mo D}
theorem d_ixV (i : Nat) {x : Str} {p : Pos} (hb : DE X c b tb mb) (hs : PlainIx b) (hN : X.N[i]? = some x := by rfl) (hv : Vis X.env.scope x := by first | exact Or.inl rfl | exact Or.inr (Or.inl rfl) | exact Or.inr (Or.inr rfl)) (hd : (x == ("__debug__" : Str)) = false := by decide)
    (hcd : (x == ("__classdict__" : Str)) = false := by decide) (hK : X.K = K := by rfl) : DE X c (.Subscript (.Name x p) b pos) (tOp (rIxO K) (tVar i) tb) (mIxV i mb) := ⟨by rw [← hK]; exact pe_ix ix_OWN (pv i hN hv hd hcd) hb.p hs, r_ixV hb.r⟩
theorem d_tcmpRt {op : CmpOp} {g : D → D → Option D} (i : Nat) {x : Str} {p : Pos} (ho : OpR X (compareOp op) (rD X.K g)) (ha : DE X c a ta ma) (hm : behindInMarks op (.Name x p) = false) (hN : X.N[i]? = some x := by rfl) (hv : Vis X.env.scope x := by first | exact Or.inl rfl | exact Or.inr (Or.inl rfl) | exact Or.inr (Or.inr rfl)) (hd : (x == ("__debug__" : Str)) = false := by decide)
    (hcd : (x == ("__classdict__" : Str)) = false := by decide) (hK : X.K = K := by rfl) : DT X c (.Compare a [op] [.Name x p] pos) (tTest (tOp (rD K g) ta (tVar i))) (mTst (mOpRt g ma i)) := ⟨by rw [← hK]; exact pt_cmpR ho ha.p (pv i hN hv hd hcd) hm, r_test (r_opRt ha.r)⟩
theorem d_bltP {x y : Str} {id : String} {g : List D → Option D} {p p2 : Pos} (i : Nat) (hc : CallR X (.builtin id) (rC X.K g)) (hm : X.mg x = none) (hv : bootBuiltins x = some (.builtin id)) (hg : Gl X x := by rfl) (hn : x ≠ "__name__" := by decide) (hdb : (x == ("__debug__" : Str)) = false := by decide)
    (he : starEach [.Name y p2] X.env = (false, eval (.Name y p2) X.env) :: starEach [] X.env := by rfl) (hpl : (backTo pos (starEach [] X.env)).any (·.1) = false := by rfl)
    (hN : X.N[i]? = some y := by rfl) (hv' : Vis X.env.scope y := by first | exact Or.inl rfl | exact Or.inr (Or.inl rfl) | exact Or.inr (Or.inr rfl)) (hd : (y == ("__debug__" : Str)) = false := by decide)
    (hcd : (y == ("__classdict__" : Str)) = false := by decide) (hK : X.K = K := by rfl) : DE X c (.Call (.Name x p) [.Name y p2] [] pos) (tCB (rC K g) (tCons (tVar i) tNil)) (mFnP g i) := ⟨by rw [← hK]; exact pe_callB hc hg hm hv (pa_cons (pv i hN hv' hd hcd) pa_nil he) hn hdb he hpl, r_fnP⟩
end
section
variable {X : Cx} {K : PySem.W.Frag} {c : Ctx K} {a b e st : Expr} {es : List Expr} {pos pos' : Pos} {te : TE} {me : Mo D} {t u : TS} {m k : Mo Fl} {tt : TT} {mt : Mo Bool} {tl : TA} {ml : Mo (List D)} {g : TG} {mg : D → Mo Unit} {gs : TGs} {ms : List D → Mo Unit} {wi : TI} {mi : Mo (List D)}
theorem b_nil : DB X c [] tNext sNx := ⟨pss_nil, r_nx⟩
theorem b_cons {s : Stmt} {rest : List Stmt} (h : DS X c s t m) (hr : DB X c rest u k) : DB X c (s :: rest) (tSeq t u) (sSeq m k) := ⟨pss_cons h.p hr.p, r_seq h.r hr.r⟩
theorem b_one {s : Stmt} (h : DS X c s t m) : DB X c [s] t m := ⟨pss_one h.p, h.r⟩
theorem s_never {s : Stmt} : DS X c s tNever sNo := ⟨ps_never, r_never⟩
theorem s_expr (h : DE X c e te me) (hs : swapsWith e none pos.line X.env = pure false := by rfl) : DS X c (.Expr e pos) (tDrop te) (sDrop me) := ⟨ps_expr h.p hs, r_drop h.r⟩
theorem s_ret (h : DE X c e te me) : DS X c (.Return (some e) pos) (tRet te) (sRet me) := ⟨ps_ret h.p, r_ret h.r⟩
theorem s_retNew (h : DN X c e te me) : DS X c (.Return (some e) pos) (tRet te) (sRetNew me) := ⟨ps_ret h.p, r_retNew h.r⟩
theorem s_if {x : Expr} {p q : List Stmt} (ht : DT X c x tt mt) (ha : DB X c p t m) (hb : DB X c q u k) : DS X c (.If x p q pos) (tIfS tt t u) (sIf mt m k) := ⟨ps_if ht.p ha.p hb.p, r_ifS ht.r ha.r hb.r⟩
theorem s_set {i : Nat} {x : Str} (hN : X.N.Nodup) (hi : X.N[i]? = some x) (hx : Loc X.env.scope x) (he : DE X c e te me) (hs : swapsWith e (some (.Name x pos')) pos.line X.env = pure false := by rfl) (hf : X.fn x = true ∨ X.env.scope.names.lookup x = some .local := by first | exact .inl rfl | exact .inr rfl | assumption) :
    DS X c (.Assign [.Name x pos'] e pos) (tAsg te (gName i)) (sSet i me) := ⟨ps_set hN hi hx he.p hs hf, r_set he.r i⟩
theorem s_setN {i : Nat} {x : Str} (hN : X.N.Nodup) (hi : X.N[i]? = some x) (hx : Loc X.env.scope x) (he : DN X c e te me) (hs : swapsWith e (some (.Name x pos')) pos.line X.env = pure false := by rfl) (hf : X.fn x = true ∨ X.env.scope.names.lookup x = some .local := by first | exact .inl rfl | exact .inr rfl | assumption) :
    DS X c (.Assign [.Name x pos'] e pos) (tAsg te (gName i)) (sSetN i me) := ⟨ps_set hN hi hx he.p hs hf, r_setN he.r i⟩
theorem s_asg {tg : Expr} (he : DE X c e te me) (hg : DG X c tg g mg) (hs : swapsWithSole [tg] e pos.line X.env = pure false := by rfl) (hw : swappedStores [tg] e X.env = pure none := by rfl)
    (h1 : (assignEach [tg] X.env).map (·.2) = [assign tg X.env] := by rfl) : DS X c (.Assign [tg] e pos) (tAsg te g) (sAsg me mg) := ⟨ps_asg he.p hg.p hs hw h1, r_asg he.r hg.r⟩
/-- i, j = a, b -/
theorem s_par {fs : List Bool} {i j : Nat} {x y : Str} {px py pt : Pos} {kt k2 pt2} (hc : X.calm = true) (hN : X.N.Nodup) (hi : X.N[i]? = some x) (hj : X.N[j]? = some y) (hij : i ≠ j)
    (hx : X.env.scope.names.lookup x = some .local) (hy : X.env.scope.names.lookup y = some .local) (ha : DF X c [a, b] tl fs ml)
    (hw : swappedStores [.Tuple [.Name x px, .Name y py] kt pt] (.Tuple [a, b] k2 pt2) X.env = pure (some [x, y]))
    (hs : swapsWithSole [.Tuple [.Name x px, .Name y py] kt pt] (.Tuple [a, b] k2 pt2) pos.line X.env = pure false := by rfl) :
    DS X c (.Assign [.Tuple [.Name x px, .Name y py] kt pt] (.Tuple [a, b] k2 pt2) pos) (tPar i j tl) (sPar [i, j] fs ml) := ⟨ps_par hc hN hi hj hij hx hy ha.p hw hs, r_par2 ha.r⟩
theorem s_for {tg iter : Expr} {body : List Stmt} (hp : PassesOwn (model X.prog X.w) X.A X.env X.xe) (hc : X.calm = true) (hi : DI X c tg iter wi mi) (hg : DG X c tg g mg) (hb : DB X c body t m)
    (hs : ∀ x, foldedSetIterable iter X.env x = pure x := by intro _; rfl) : DS X c (.For tg iter body [] pos) (tFor wi g t) (sFor mi mg m) := ⟨ps_for hp hc hi.p hg.p hb.p hs, r_for hi.r hg.r hb.r⟩
theorem s_while {x : Expr} {body : List Stmt} (n : Cs → Nat) (hp : PassesOwn (model X.prog X.w) X.A X.env X.xe) (ht : DT X c x tt mt) (hb : DB X c body t m) : DS X c (.While x body [] pos) (tWhile tt t) (sWh n mt m) := ⟨ps_while hp ht.p hb.p, r_while n ht.r hb.r⟩
theorem f_nil : DF X c [] tNil [] aNil := ⟨pa_nil, r_fnil⟩
theorem f_dat {fs : List Bool} (he : DE X c e te me) (hr : DF X c es tl fs ml) (hs : starEach (e :: es) X.env = (false, eval e X.env) :: starEach es X.env := by rfl) : DF X c (e :: es) (tCons te tl) (false :: fs) (aCons me ml) := ⟨pa_cons he.p hr.p hs, r_fdat he.r hr.r⟩
theorem f_new {fs : List Bool} (he : DN X c e te me) (hr : DF X c es tl fs ml) (hs : starEach (e :: es) X.env = (false, eval e X.env) :: starEach es X.env := by rfl) : DF X c (e :: es) (tCons te tl) (true :: fs) (aCons me ml) := ⟨pa_cons he.p hr.p hs, r_fnew he.r hr.r⟩
theorem g_name {i : Nat} {x : Str} (hN : X.N.Nodup) (hi : X.N[i]? = some x) (hx : Loc X.env.scope x) (hf : X.fn x = true ∨ X.env.scope.names.lookup x = some .local := by first | exact .inl rfl | exact .inr rfl | assumption) : DG X c (.Name x pos) (gName i) (gNm i) := ⟨pg_name hN hi hx hf, r_gname i⟩
theorem gs_nil : DGs X c [] gNil gsNil := ⟨pgs_nil, r_gnil⟩
theorem gs_cons (h1 : DG X c e g mg) (h2 : DGs X c es gs ms) (hs : (assignEach (e :: es) X.env).map (·.2) = assign e X.env :: (assignEach es X.env).map (·.2) := by rfl) : DGs X c (e :: es) (gCons g gs) (gsCons mg ms) := ⟨pgs_cons h1.p h2.p hs, r_gcons h1.r h2.r⟩
theorem g_tup {k : Nat} {n : Nat} (hc : X.calm = true) (h : DGs X c es gs ms) (hn : (assignEach es X.env).length = n := by rfl) (hst : (assignEach es X.env).findIdx? (·.1) = none := by rfl) (hK : X.K = K := by rfl) :
    DG X c (.Tuple es k pos) (gTup K n gs) (gTp n ms) := ⟨by rw [← hK]; exact pg_tup hc h.p hn hst, r_gtup h.r⟩
theorem i_list {tg : Expr} (h : DE X c e te me) (hK : X.K = K := by rfl) : DI X c tg e (iList K te) (iSeq seqL me) := ⟨by rw [← hK]; exact pi_list h.p, r_ilist h.r⟩
theorem i_tup {tg : Expr} (h : DE X c e te me) (hK : X.K = K := by rfl) : DI X c tg e (iTup K te) (iSeq seqT me) := ⟨by rw [← hK]; exact pi_tup h.p, r_itup h.r⟩
theorem i_rng1 {tg : Expr} {p : Pos} (hm : X.mg "range" = none) (ha : DA X c [a] tl ml) (hg : Gl X "range" := by rfl) (hs : starEach [a] X.env = [(false, eval a X.env)] := by rfl) : DI X c tg (.Call (.Name "range" p) [a] [] pos) (iRng1 tl) (iFn rng1? ml) := ⟨pi_range1 hg hm ha.p hs, r_irng1 ha.r⟩
theorem i_rng2 {tg : Expr} {p : Pos} (hm : X.mg "range" = none) (ha : DA X c [a, b] tl ml) (hg : Gl X "range" := by rfl) (hs : starEach [a, b] X.env = [(false, eval a X.env), (false, eval b X.env)] := by rfl) (hs2 : starEach [b] X.env = [(false, eval b X.env)] := by rfl) :
    DI X c tg (.Call (.Name "range" p) [a, b] [] pos) (iRng2 tl) (iFn rng2? ml) := ⟨pi_range2 hg hm ha.p hs hs2, r_irng2 ha.r⟩
end
end DL
set_option autoImplicit false
namespace DL
open PySem PySem.Spec PyProof.Rows L2
abbrev ctx (K : PySem.W.Frag) (M0 P : Addr → Prop) (H0 : Hp) : Ctx K := ⟨M0, P, H0⟩
def cells (ds : List D) (n : Nat) : Cs := ds.map .dat ++ List.replicate n .no
def fin1 : Option (Fl × Cs) → Option D
  | some (.rt d, _) => some d
  | some (.rn d, _) => some d
  | some (.nx, _) => some .non
  | _ => none
/-- m parameters, n more slots -/
def runF (m n : Nat) (b : Mo Fl) (ds : List D) : Option D := if ds.length = m then fin1 (b (cells ds n)) else none
def own0 : Cs → Option D
  | .own true d :: _ => some d
  | _ => none
def fin2 : Option (Fl × Cs) → Option (D × D)
  | some (.rt d, ρ) => (own0 ρ).map fun e => (d, e)
  | some (.rn d, ρ) => (own0 ρ).map fun e => (d, e)
  | some (.nx, ρ) => (own0 ρ).map fun e => (.non, e)
  | _ => none
/-- the first parameter may be changed -/
def runO (m n : Nat) (b : Mo Fl) (d0 : D) (ds : List D) : Option (D × D) := if ds.length + 1 = m then fin2 (b (.own true d0 :: cells ds n)) else none
def fin3 : Option (Fl × Cs) → Option D
  | some (.rn d, _) => some d
  | _ => none
/-- the value is a new object, the caller's own -/
def runN (m n : Nat) (b : Mo Fl) (ds : List D) : Option D := if ds.length = m then fin3 (b (cells ds n)) else none
def spF (K : PySem.W.Frag) (m : Nat) (F : List D → Option D) : Sp := fun vs H Q _ => ∃ M ds d, Kind M H ∧ DatAll K M H vs ds ∧ ds.length = m ∧ F ds = some d ∧ ∀ u H', Same H H' → Dat K M H' u d → Q u H'
def spN (K : PySem.W.Frag) (m : Nat) (F : List D → Option D) : Sp := fun vs H Q _ => ∃ M ds d, Kind M H ∧ DatAll K M H vs ds ∧ ds.length = m ∧ F ds = some d ∧ ∀ a H' o, H a = none → Same H H' → H' a = some o → Cont K (fun b => M b ∨ b = a) H' o d → Q (.ref a) H'
def spO (K : PySem.W.Frag) (m : Nat) (F : D → List D → Option (D × D)) : Sp := fun vs H Q _ => ∃ M a d0 xs ds r d1, vs = .ref a :: xs ∧ Kind M H ∧ M a ∧ Own K M H a d0 ∧ DatAll K M H xs ds ∧ ds.length + 1 = m ∧ F d0 ds = some (r, d1) ∧
  ∀ u H', (∀ b o, b ≠ a → H b = some o → H' b = some o) → Own K M H' a d1 → Dat K M H' u r → Q u H'
section
variable {K : PySem.W.Frag} {M : Addr → Prop} {H : Hp} {vs : List V} {ds : List D} {N : List Str} {t : TS} {b : Mo Fl} {m n : Nat} {Q : VK} {E : XK}
theorem cells_len : (cells ds n).length = ds.length + n := by simp [cells]
theorem cells_lt {i : Nat} {d : D} (h : ds[i]? = some d) : (cells ds n)[i]? = some (.dat d) := by
  have hl := (List.getElem?_eq_some_iff.mp h).1
  unfold cells
  rw [List.getElem?_append_left (by simpa using hl)]
  simp [h]
theorem cells_ge {i : Nat} {x : Cell} (hi : ds.length ≤ i) (h : (cells ds n)[i]? = some x) : x = .no := by
  unfold cells at h
  rw [List.getElem?_append_right (by simpa using hi)] at h
  rw [List.getElem?_replicate] at h
  exact (if_some h).2.symm
theorem start_lt {i : Nat} {v : V} (h : vs[i]? = some v) : (start N vs)[i]? = some (some v) := by
  have hl := (List.getElem?_eq_some_iff.mp h).1
  unfold L2.start
  rw [List.getElem?_append_left (by simpa using hl)]
  simp [h]
theorem start_len (h : vs.length ≤ N.length) : (start N vs).length = N.length := by
  unfold L2.start
  simp; omega
/-- the state at a def's entry -/
theorem sta_start (k : Kind M H) (h : DatAll K M H vs ds) (hn : N.length = ds.length + n) : Sta (ctx K M (fun _ => False) H) M (start N vs) H (cells ds n) := by
  refine ⟨fun _ z => z.elim, fun _ z => z, fun b z w => absurd z w, k, fun _ _ _ z => z, ?_, fun i x y h1 h2 => ?_, fun i j a p q d e a1 a2 a3 a4 => ?_⟩
  · rw [cells_len, start_len (by rw [h.length]; omega), hn]
  · cases hd : ds[i]? with
    | some d =>
      obtain ⟨v, hv, hdv⟩ := h.getD hd
      rw [start_lt hv] at h1
      rw [cells_lt hd] at h2
      cases h1; cases h2
      exact .dat hdv
    | none =>
      obtain rfl := cells_ge (List.getElem?_eq_none_iff.mp hd) h2
      exact .no _
  · exfalso
    cases hd : ds[i]? with
    | some d => rw [cells_lt hd] at a2; cases a2
    | none => cases cells_ge (List.getElem?_eq_none_iff.mp hd) a2
theorem sta_startO {a : Addr} {d0 : D} (k : Kind M H) (hM : M a) (ho : Own K M H a d0) (h : DatAll K M H vs ds) (hn : N.length = ds.length + 1 + n) : Sta (ctx K M (fun b => b = a) H) M (start N (.ref a :: vs)) H (.own true d0 :: cells ds n) := by
  have ne : ∀ {i : Nat} {p : Bool} {d : D}, (Cell.own true d0 :: cells ds n)[i]? = some (.own p d) → i = 0 := fun {i p d} z => by
    cases i with
    | zero => rfl
    | succ i =>
      rw [List.getElem?_cons_succ] at z
      cases hd : ds[i]? with
      | some d => rw [cells_lt hd] at z; cases z
      | none => cases cells_ge (List.getElem?_eq_none_iff.mp hd) z
  refine ⟨fun b z => by rw [show b = a from z]; exact hM, fun _ z => z, fun b z w => absurd z w, k, fun _ _ _ z => z, ?_, fun i x y h1 h2 => ?_, fun i j a p q d e a1 a2 a3 a4 => by rw [ne a2, ne a4]⟩
  · rw [List.length_cons, cells_len, start_len (by rw [List.length_cons, h.length]; omega), hn]; omega
  · cases i with
    | zero =>
      rw [start_lt (v := .ref a) (by rfl)] at h1
      cases h1; cases h2
      exact .own hM (by simp) ho
    | succ i =>
      rw [List.getElem?_cons_succ] at h2
      cases hd : ds[i]? with
      | some d =>
        obtain ⟨v, hv, hdv⟩ := h.getD hd
        rw [start_lt (v := v) (by simpa using hv)] at h1
        rw [cells_lt hd] at h2
        cases h1; cases h2
        exact .dat hdv
      | none =>
        obtain rfl := cells_ge (List.getElem?_eq_none_iff.mp hd) h2
        exact .no _
theorem own0_some {ρ : Cs} {d : D} (h : own0 ρ = some d) : ρ[0]? = some (.own true d) := by
  unfold own0 at h
  split at h
  · cases h; rfl
  · cases h
theorem run_F (hn : N.length = m + n) (h : ∀ (M0 : Addr → Prop) (P : Addr → Prop) (H0 : Hp), RSt (ctx K M0 P H0) t b) (sp : spF K m (runF m n b) vs H Q E) : t { nx := fun _ H' => Q .non H', rt := Q } (start N vs) H := by
  obtain ⟨M, ds, d, k, hd, hl, hF, q⟩ := sp
  have hF := (if_pos hl).symm.trans hF
  have S := sta_start (N := N) (n := n) k hd (by rw [hl]; exact hn)
  have sm : ∀ {M' : Addr → Prop} {σ' : L2.St} {H' : Hp} {ρ' : Cs}, Sta (ctx K M (fun _ => False) H) M' σ' H' ρ' → Same H H' := fun S b o z => S.base b o id z
  cases e : b (cells ds n) with
  | none => rw [e] at hF; cases hF
  | some r =>
    obtain ⟨f, ρ'⟩ := r
    rw [e] at hF
    refine h M _ H M _ H _ S f ρ' e _ ?_
    cases f with
    | nx => cases hF; exact fun M' σ' H' _ S' => q _ H' (sm S') .non
    | rt r => cases hF; exact fun M' σ' v H' _ S' hv => q v H' (sm S') (hv.less S'.sub)
    | rn r => cases hF; exact fun M' σ' a H' _ S' nw => (nw.give S').elim fun _ z => q _ H' (sm S') (z.2.less fun b hb => ⟨S'.sub b hb, fun w => nw.n0 (by rw [← w]; exact hb)⟩)
    | bk => cases hF
    | ct => cases hF
theorem run_N (hn : N.length = m + n) (h : ∀ (M0 : Addr → Prop) (P : Addr → Prop) (H0 : Hp), RSt (ctx K M0 P H0) t b) (sp : spN K m (runN m n b) vs H Q E) : t { nx := fun _ H' => Q .non H', rt := Q } (start N vs) H := by
  obtain ⟨M, ds, d, k, hd, hl, hF, q⟩ := sp
  have hF := (if_pos hl).symm.trans hF
  have S := sta_start (N := N) (n := n) k hd (by rw [hl]; exact hn)
  cases e : b (cells ds n) with
  | none => rw [e] at hF; cases hF
  | some r =>
    obtain ⟨f, ρ'⟩ := r
    rw [e] at hF
    refine h M _ H M _ H _ S f ρ' e _ ?_
    cases f with
    | rn r =>
      cases hF
      intro M' σ' a H' _ S' nw
      obtain ⟨o, ho, hc⟩ := nw.o
      exact q a H' o nw.h0 (fun b o z => S'.base b o id z) ho (hc.less fun b hb => hb.elim (S'.sub b) fun z => by rw [z]; exact nw.m)
    | nx => cases hF
    | rt r => cases hF
    | bk => cases hF
    | ct => cases hF
theorem run_O (hn : N.length = m + n) (h : ∀ (M0 : Addr → Prop) (P : Addr → Prop) (H0 : Hp), RSt (ctx K M0 P H0) t b) (sp : spO K m (runO m n b) vs H Q E) : t { nx := fun _ H' => Q .non H', rt := Q } (start N vs) H := by
  obtain ⟨M, a, d0, xs, ds, r0, d1, rfl, k, hM, ho, hd, hl, hF, q⟩ := sp
  have hF := (if_pos hl).symm.trans hF
  have S := sta_startO (N := N) (n := n) k hM ho hd (by rw [hl]; exact hn)
  have fin : ∀ {M' : Addr → Prop} {σ' : L2.St} {H' : Hp} {ρ' : Cs} {e : D}, Sta (ctx K M (fun b => b = a) H) M' σ' H' ρ' → own0 ρ' = some e → (∀ b o, b ≠ a → H b = some o → H' b = some o) ∧ Own K M H' a e := fun {M' σ' H' ρ' e} S' w => by
    obtain ⟨a', _, _, hp, o, ho', hc⟩ := S'.own (own0_some w)
    have ea : a' = a := by simpa using hp
    subst ea
    exact ⟨fun b o ne z => S'.base b o (fun z => ne z) z, o, ho', hc.less S'.sub⟩
  cases e : b (.own true d0 :: cells ds n) with
  | none => rw [e] at hF; cases hF
  | some r =>
    obtain ⟨f, ρ'⟩ := r
    rw [e] at hF
    refine h M _ H M _ H _ S f ρ' e _ ?_
    cases f with
    | nx =>
      obtain ⟨x, hx, ex⟩ := map_some (show (own0 ρ').map _ = _ from hF)
      cases ex
      exact fun M' σ' H' _ S' => q _ H' (fin S' hx).1 (fin S' hx).2 .non
    | rt r =>
      obtain ⟨x, hx, ex⟩ := map_some (show (own0 ρ').map _ = _ from hF)
      cases ex
      exact fun M' σ' v H' _ S' hv => q v H' (fin S' hx).1 (fin S' hx).2 (hv.less S'.sub)
    | rn r =>
      obtain ⟨x, hx, ex⟩ := map_some (show (own0 ρ').map _ = _ from hF)
      cases ex
      exact fun M' σ' a H' _ S' nw => (nw.give S').elim fun _ z => q _ H' (fin S' hx).1 (fin S' hx).2 (z.2.less fun b hb => ⟨S'.sub b hb, fun w => nw.n0 (by rw [← w]; exact hb)⟩)
    | bk => cases hF
    | ct => cases hF
end
section
variable {P : Program} {w : World} {K : PySem.W.Frag} {mg : Str → Option Value} {base : Heap} {x qual : Str} {st : Stmt} {f : Addr} {fd : FuncData} {N ps : List Str} {k m n : Nat} {b : Mo Fl}
/-- a body's derivation, for whatever the callers own -/
def BodyD (P : Program) (w : World) (K : PySem.W.Frag) (mg : Str → Option Value) (base : Heap) (qual : Str) (st : Stmt) (f : Addr) (N : List Str) (k : Nat) (b : Mo Fl) : Prop :=
  ∀ (cdv : Value) (A : Around) (outer : List Env) (s : Shared) (H : Hp) (E : XK), Room k (A.deeper (envOfC qual (defScope st) s.heap.objs.size f cdv)) →
    ∃ t, ∀ (M0 : Addr → Prop) (P0 : Addr → Prop) (H0 : Hp), DB (cxOf CX0 P w K mg base N qual (defScope st) f cdv A outer s H E).nox (ctx K M0 P0 H0) (defBody st) t b
/-- .. where no repr is under way -/
def BodyG (P : Program) (w : World) (K : PySem.W.Frag) (mg : Str → Option Value) (base : Heap) (qual : Str) (st : Stmt) (f : Addr) (N : List Str) (k : Nat) (b : Mo Fl) : Prop :=
  ∀ (cdv : Value) (A : Around) (outer : List Env) (s : Shared) (H : Hp) (E : XK), A.guards = some [] → Room k (A.deeper (envOfC qual (defScope st) s.heap.objs.size f cdv)) →
    ∃ t, ∀ (M0 : Addr → Prop) (P0 : Addr → Prop) (H0 : Hp), DB (cxOf CX0 P w K mg base N qual (defScope st) f cdv A outer s H E).nox (ctx K M0 P0 H0) (defBody st) t b
theorem okF (F : Fun K x qual st f fd) (S : FnScope N ps (defScope st)) (hm : ps.length = m) (hn : N.length = m + n) (B : BodyD P w K mg base qual st f N k b) : FnOk P w K mg base CX0 (k + 1) f fd ps (spF K m (runF m n b)) := by
  refine F.ok S (fun vs H Q E h => ?_) (fun cdv A outer s H vs Q E hr h => ?_)
  · obtain ⟨M, ds, d, _, hd, hl, _⟩ := h
    rw [hd.length, hl, hm]
  · obtain ⟨t, d⟩ := B cdv A outer s H E hr
    exact ⟨t, (d (fun _ => False) (fun _ => False) H).p, run_F hn (fun M0 P0 H0 => (d M0 P0 H0).r) h⟩
theorem okN (F : Fun K x qual st f fd) (S : FnScope N ps (defScope st)) (hm : ps.length = m) (hn : N.length = m + n) (B : BodyD P w K mg base qual st f N k b) : FnOk P w K mg base CX0 (k + 1) f fd ps (spN K m (runN m n b)) := by
  refine F.ok S (fun vs H Q E h => ?_) (fun cdv A outer s H vs Q E hr h => ?_)
  · obtain ⟨M, ds, d, _, hd, hl, _⟩ := h
    rw [hd.length, hl, hm]
  · obtain ⟨t, d⟩ := B cdv A outer s H E hr
    exact ⟨t, (d (fun _ => False) (fun _ => False) H).p, run_N hn (fun M0 P0 H0 => (d M0 P0 H0).r) h⟩
theorem okO (F : Fun K x qual st f fd) (S : FnScope N ps (defScope st)) (hm : ps.length = m) (hn : N.length = m + n) (B : BodyD P w K mg base qual st f N k b) : FnOk P w K mg base CX0 (k + 1) f fd ps (spO K m (runO m n b)) := by
  refine F.ok S (fun vs H Q E h => ?_) (fun cdv A outer s H vs Q E hr h => ?_)
  · obtain ⟨M, a, d0, xs, ds, r, d1, rfl, _, _, _, hd, hl, _⟩ := h
    rw [List.length_cons, hd.length, hl, hm]
  · obtain ⟨t, d⟩ := B cdv A outer s H E hr
    exact ⟨t, (d (fun _ => False) (fun _ => False) H).p, run_O hn (fun M0 P0 H0 => (d M0 P0 H0).r) h⟩
theorem bodyN {sp : Sp} (F : Fun K x qual st f fd) (S : FnScope N ps (defScope st)) (len : ∀ vs H Q E, sp vs H Q E → vs.length = ps.length) (B : BodyG P w K mg base qual st f N k b)
    (h : ∀ (t : TS) vs H Q E, (∀ (M0 : Addr → Prop) (P0 : Addr → Prop) (H0 : Hp), RSt (ctx K M0 P0 H0) t b) → sp vs H Q E → t { nx := fun _ H' => Q .non H', rt := Q } (start N vs) H) : FnG P w K mg base CX0 (k + 1) f fd ps sp := by
  refine F.okG S len fun cdv A outer s H vs Q E hg hr hsp => ?_
  obtain ⟨t, d⟩ := B cdv A outer s H E hg hr
  exact ⟨t, (d (fun _ => False) (fun _ => False) H).p.nox, h t vs H Q E (fun M0 P0 H0 => (d M0 P0 H0).r) hsp⟩
theorem okFG (F : Fun K x qual st f fd) (S : FnScope N ps (defScope st)) (hm : ps.length = m) (hn : N.length = m + n) (B : BodyG P w K mg base qual st f N k b) : FnG P w K mg base CX0 (k + 1) f fd ps (spF K m (runF m n b)) := by
  refine bodyN F S (fun vs H Q E h => ?_) B fun t vs H Q E hr h => run_F hn hr h
  obtain ⟨M, ds, d, _, hd, hl, _⟩ := h
  rw [hd.length, hl, hm]
theorem okOG (F : Fun K x qual st f fd) (S : FnScope N ps (defScope st)) (hm : ps.length = m) (hn : N.length = m + n) (B : BodyG P w K mg base qual st f N k b) : FnG P w K mg base CX0 (k + 1) f fd ps (spO K m (runO m n b)) := by
  refine bodyN F S (fun vs H Q E h => ?_) B fun t vs H Q E hr h => run_O hn hr h
  obtain ⟨M, a, d0, xs, ds, r, d1, rfl, _, _, _, hd, hl, _⟩ := h
  rw [List.length_cons, hd.length, hl, hm]
end
end DL
namespace L2
open PySem PySem.Spec PyProof.Rows
def tyName : PyData → String
  | .none => "NoneType" | .bool _ => "bool" | .int _ => "int" | .str _ => "str" | .list _ => "list" | .tuple _ => "tuple" | .dict _ => "dict"
section
variable {K : PySem.W.Frag} {p : Addr} {H H' : Hp} {x : V} {d : PyData} {Q : VK}
theorem ty_list {a : Addr} {xs : List V} (h : SqL K H a xs) : TyX K H (.ref a) (.type "list") := by
  rcases h with (h | ⟨o, h⟩) | ⟨o, its, n, h, c, _⟩
  · exact .base (.lst h)
  · exact .base (.frz h)
  · exact .kList h c
theorem ty_tup {a : Addr} {xs : List V} (h : SqT K H a xs) : TyX K H (.ref a) (.type "tuple") := by
  rcases h with (h | ⟨o, h⟩) | ⟨o, its, n, h, c, _⟩
  · exact .base (.tup h)
  · exact .fTuple h
  · exact .kTuple h c
theorem Dn.ty (h : Dn K p H x d) : TyX K H x (.type (tyName d)) := by
  cases h with
  | non => exact .base .non
  | bl b => exact .base (.bl b)
  | int i => exact .base (.int i)
  | str y _ => exact .base (.str y)
  | lst _ h _ => exact ty_list h
  | tup h _ => exact ty_tup h
  | dic h _ _ => exact .base (.dK h)
end
def getI : PyData → Int | .int i => i | _ => 0
def btw (d : PyData) (lo hi : Int) : Bool := match d with | .int i => decide (lo ≤ i ∧ i ≤ hi) | _ => false
def letters : Str := "abcdefghijklmnopqrstuvwxyz"
def alnums : Str := "abcdefghijklmnopqrstuvwxyz0123456789"
def headOk (x : Str) : Bool := match x.cps.toList with | c :: _ => decide (c ∈ letters.cps.toList) | [] => false
def nameOk (x : Str) : Bool := (decide (1 ≤ x.length) && decide (x.length ≤ 8)) && (headOk x && x.cps.toList.all fun c => decide (c ∈ alnums.cps.toList))
def isName : PyData → Bool | .str x => nameOk x | _ => false
def isWord (d : PyData) (ws : List Str) : Bool := match d with | .str x => ws.contains x | _ => false
def isStretch (d : PyData) (lo hi : Int) : Bool := match d with | .tuple [a, b] => btw a lo hi && btw b (getI a + 1) hi | _ => false
def sndI : PyData → Int | .tuple [_, b] => getI b | _ => 0
def touchesFrom (hi : Int) : List PyData → Int → Bool
  | [], _ => true
  | d :: r, lo => isStretch d lo hi && touchesFrom hi r (sndI d + 1)
def touchesOk (d : PyData) (lo hi : Int) : Bool := match d with | .tuple ds => decide (ds.length ≤ 6) && touchesFrom hi ds lo | _ => false
def modes : List Str := ["write", "latch", "touch", "trim"]
def tails : List Str := ["stop", "on"]
def isOld : PyData → Bool | .str x => decide (x = "old") | _ => false
def isPass (L : Int) (d : PyData) : Bool := match d with
  | .tuple [n, m, f, t, u, g, e] => (isName n && !isOld n) && ((isWord m modes && isWord e tails) && (isStretch (.tuple [f, t]) 0 L && (touchesOk u (getI f) (getI t) && btw g 0 100)))
  | _ => false
def nameOf : PyData → Str | .tuple (.str x :: _) => x | _ => ""
def firstWrong (L : Int) : List PyData → Nat → List Str → Option Nat
  | [], _, _ => none
  | d :: r, i, ns => if decide (8 ≤ i) || (!isPass L d || ns.contains (nameOf d)) then some i else firstWrong L r (i + 1) (ns ++ [nameOf d])
def plOf (x : Str) : List PyData → Nat → Option Nat
  | [], _ => none
  | d :: r, i => if nameOf d = x then some i else plOf x r (i + 1)
/-- data whose outermost tuple may stand anywhere -/
def Dt (K : PySem.W.Frag) (p : Addr) (H : Hp) (x : V) (d : PyData) : Prop := Dn K p H x d ∨ ∃ a xs ds, x = .ref a ∧ d = .tuple ds ∧ SqT K H a xs ∧ DnAll K p H xs ds
theorem Dt.ty {K : PySem.W.Frag} {p : Addr} {H : Hp} {x : V} {d : PyData} (h : Dt K p H x d) : TyX K H x (.type (tyName d)) := by
  rcases h with h | ⟨a, xs, ds, rfl, rfl, h, _⟩
  · exact h.ty
  · exact ty_tup h
end L2
namespace L2
open PySem PySem.Spec PyProof.Rows
theorem DnAll.c1 {K : PySem.W.Frag} {p : Addr} {H : Hp} {xs : List V} {d : PyData} {ds : List PyData} (h : DnAll K p H xs (d :: ds)) : ∃ v r, xs = v :: r ∧ Dn K p H v d ∧ DnAll K p H r ds := by
  cases h with
  | cons a b => exact ⟨_, _, rfl, a, b⟩
theorem DnAll.c0 {K : PySem.W.Frag} {p : Addr} {H : Hp} {xs : List V} (h : DnAll K p H xs []) : xs = [] := by
  cases h
  rfl
theorem DnAll.seven {K : PySem.W.Frag} {p : Addr} {H : Hp} {xs : List V} {a b c d e f g : PyData} (h : DnAll K p H xs [a, b, c, d, e, f, g]) :
    ∃ x1 x2 x3 x4 x5 x6 x7, xs = [x1, x2, x3, x4, x5, x6, x7] ∧ Dn K p H x1 a ∧ Dn K p H x2 b ∧ Dn K p H x3 c ∧ Dn K p H x4 d ∧ Dn K p H x5 e ∧ Dn K p H x6 f ∧ Dn K p H x7 g := by
  obtain ⟨x1, r, rfl, h1, h⟩ := h.c1
  obtain ⟨x2, r, rfl, h2, h⟩ := h.c1
  obtain ⟨x3, r, rfl, h3, h⟩ := h.c1
  obtain ⟨x4, r, rfl, h4, h⟩ := h.c1
  obtain ⟨x5, r, rfl, h5, h⟩ := h.c1
  obtain ⟨x6, r, rfl, h6, h⟩ := h.c1
  obtain ⟨x7, r, rfl, h7, h⟩ := h.c1
  obtain rfl := h.c0
  exact ⟨x1, x2, x3, x4, x5, x6, x7, rfl, h1, h2, h3, h4, h5, h6, h7⟩
end L2
namespace L2
open PySem PySem.Spec PyProof.Rows
end L2
namespace L2
open PySem PySem.Spec PyProof.Rows
def Trk (K : PySem.W.Frag) (C p x : Addr) (H : Hp) (L : Int) (ds : List PyData) : Prop :=
  ∃ dx t, H x = some (.ins C dx [("_length", .int L), ("_passes", .ref t)]) ∧ Dn K p H (.ref t) (.tuple ds) ∧ (1 ≤ L ∧ L ≤ 1000000000000) ∧ firstWrong L ds 0 [] = none
theorem Trk.same {K : PySem.W.Frag} {C p x : Addr} {H H' : Hp} {L : Int} {ds : List PyData} (h : Trk K C p x H L ds) (e : Same H H') : Trk K C p x H' L ds :=
  let ⟨dx, t, h1, h2, h3⟩ := h; ⟨dx, t, e _ _ h1, h2.same e, h3⟩
theorem Trk.sm {K : PySem.W.Frag} {C p x : Addr} {H H' : Hp} {L : Int} {ds : List PyData} (h : Trk K C p x H L ds) (e : Sm p H H') (hp : Pl H p) : Trk K C p x H' L ds := by
  obtain ⟨dx, t, h1, h2, h3⟩ := h
  refine ⟨dx, t, e _ _ ?_ h1, h2.sm e hp, h3⟩
  rintro rfl
  obtain ⟨l, hp⟩ := hp
  rw [h1] at hp
  cases hp
def partIx : Str → Option Nat := fun z => if z = "mode" then some 1 else if z = "from" then some 2 else if z = "to" then some 3 else if z = "touches" then some 4 else if z = "glide" then some 5 else if z = "tail" then some 6 else none
end L2
namespace L2
open PySem PySem.Spec PyProof.Rows
end L2
namespace L2
open PySem PySem.Spec PyProof.Rows
/-- a change of a part that there is: (z, pt, e) at c; pass i of ds, its part j -/
structure Chg (K : PySem.W.Frag) (p c : Addr) (H : Hp) (ds : List PyData) (z pt : Str) (e : PyData) (i j : Nat) (es : List PyData) : Prop where
  at_ : ∃ v, SqT K H c [.str z, .str pt, v] ∧ Dn K p H v e
  lz : Sok z
  place : plOf z ds 0 = some i
  part : partIx pt = some j
  pass : ds[i]? = some (.tuple es)
  seven : es.length = 7
theorem Chg.same {K : PySem.W.Frag} {p c : Addr} {H H' : Hp} {ds : List PyData} {z pt : Str} {e : PyData} {i j : Nat} {es : List PyData} (h : Chg K p c H ds z pt e i j es) (s : Same H H') : Chg K p c H' ds z pt e i j es :=
  ⟨h.at_.elim fun v q => ⟨v, s.seqT q.1, q.2.same s⟩, h.lz, h.place, h.part, h.pass, h.seven⟩
theorem DnAll.set {K : PySem.W.Frag} {p : Addr} {H : Hp} {v : V} {d : PyData} (h : Dn K p H v d) : ∀ {xs : List V} {ds : List PyData} (i : Nat), DnAll K p H xs ds → DnAll K p H (xs.set i v) (ds.set i d)
  | _, _, _, .nil => .nil
  | _, _, 0, .cons _ t => .cons h t
  | _, _, i + 1, .cons q t => .cons q (DnAll.set h i t)
end L2
namespace L2
open PySem PySem.Spec PyProof.Rows
theorem Sm.same {p : Addr} {H H1 H2 : Hp} (a : Sm p H H1) (b : Same H1 H2) : Sm p H H2 := a.trans (.of_same b)
def words : List Str := ["a", "b", "olds", "z9", "write", "c", "on", "pass", "abcdefgh", "t0000001", "ol", "track", "ab", "aa"]
def turned (i : Nat) : List Str := (words.drop i ++ words.take i).take 8
end L2
namespace L2
open PySem PySem.Spec PyProof.Rows
/-- pairs of ints, each at its own place -/
inductive Cells (H : Hp) : List V → List PyData → Prop
  | nil : Cells H [] []
  | cons {t : Addr} {a b : Int} {vs : List V} {ds : List PyData} : H t = some (.tup [.int a, .int b]) → Cells H vs ds → Cells H (.ref t :: vs) (.tuple [.int a, .int b] :: ds)
theorem Cells.mono {H H' : Hp} (e : ∀ b xs, H b = some (.tup xs) → H' b = some (.tup xs)) : ∀ {vs : List V} {ds : List PyData}, Cells H vs ds → Cells H' vs ds
  | _, _, .nil => .nil
  | _, _, .cons h t => .cons (e _ _ h) (Cells.mono e t)
theorem Cells.snoc {H : Hp} {t : Addr} {a b : Int} (h : H t = some (.tup [.int a, .int b])) : ∀ {vs : List V} {ds : List PyData}, Cells H vs ds → Cells H (vs ++ [.ref t]) (ds ++ [.tuple [.int a, .int b]])
  | _, _, .nil => .cons h .nil
  | _, _, .cons q r => .cons q (Cells.snoc h r)
theorem Cells.all {K : PySem.W.Frag} {p : Addr} {H : Hp} : ∀ {vs : List V} {ds : List PyData}, Cells H vs ds → DnAll K p H vs ds
  | _, _, .nil => .nil
  | _, _, .cons h t => .cons (.tup (.inl (.inl h)) (.cons (.int _) (.cons (.int _) .nil))) (Cells.all t)
theorem Cells.length {H : Hp} : ∀ {vs : List V} {ds : List PyData}, Cells H vs ds → vs.length = ds.length
  | _, _, .nil => rfl
  | _, _, .cons _ t => congrArg Nat.succ (Cells.length t)
end L2
namespace L2
open PySem PySem.Spec PyProof.Rows
theorem Pu.pl {m : Nat} {H : Hp} {p : Addr} (h : Pu m H p) : Pl H p := let ⟨_, _, _, e, _⟩ := h; ⟨_, e⟩
end L2
namespace L2
open PySem PySem.Spec PyProof.Rows
/-- tuples stay -/
def Tk (H H' : Hp) : Prop := ∀ b xs, (H b = some (.tup xs) → H' b = some (.tup xs)) ∧ ∀ o, H b = some (.frz o (.tup xs)) → H' b = some (.frz o (.tup xs))
theorem Tk.refl (H : Hp) : Tk H H := fun _ _ => ⟨id, fun _ => id⟩
theorem Tk.trans {H H1 H2 : Hp} (a : Tk H H1) (b : Tk H1 H2) : Tk H H2 := fun c xs => ⟨fun h => (b c xs).1 ((a c xs).1 h), fun o h => (b c xs).2 o ((a c xs).2 o h)⟩
theorem Tk.of_same {H H' : Hp} (e : Same H H') : Tk H H' := fun b xs => ⟨fun h => e _ _ h, fun o h => e _ _ h⟩
theorem Tk.put {H : Hp} {o : Addr} {l l' : List V} (ho : H o = some (.lst l)) : Tk H (upd H o (.lst l')) := fun b xs =>
  ⟨fun h => by rw [upd_ne (by rintro rfl; rw [ho] at h; cases h)]; exact h, fun q h => by rw [upd_ne (by rintro rfl; rw [ho] at h; cases h)]; exact h⟩
end L2
namespace L2
open PySem PySem.Spec PyProof.Rows
end L2
namespace L2
open PySem PySem.Spec PyProof.Rows
structure Sh (n k : Nat) (d : PyData) : Prop where
  nd : d.hasDict = false
  sh : d.showable = true
  lv : d.leavesShort 20 = true
  bk : d.bulk ≤ n
  dp : d.depth ≤ k
structure ShA (n k : Nat) (ds : List PyData) : Prop where
  nd : PyData.hasDictAll ds = false
  sh : PyData.showableAll ds = true
  lv : PyData.leavesShortAll 20 ds = true
  bk : PyData.bulkAll ds ≤ n
  dp : PyData.depthAll ds ≤ k
theorem Sh.int {i : Int} (h : i.natAbs < 10 ^ 15) : Sh 0 0 (.int i) := by
  refine ⟨by simp [PyData.hasDict], ?_, ?_, by simp [PyData.bulk], by simp [PyData.depth]⟩
  · simp only [PyData.showable]
    refine decide_eq_true ?_
    by_cases z : i.natAbs = 0
    · rw [z]; decide
    · have : i.natAbs < 2 ^ 60 := Nat.lt_trans h (by decide)
      have := (Nat.log2_lt z).mpr this
      omega
  · simp only [PyData.leavesShort]
    refine decide_eq_true ?_
    show (Str.ofString (toString i)).length ≤ 20
    rw [PySem.ofString_length]
    exact Nat.le_trans (int_text_length_le10 (k := 15) (by decide) h) (by decide)
theorem Sh.str {x : Str} (h : Sok x) : Sh x.length 0 (.str x) := by
  refine ⟨by simp [PyData.hasDict], by simp [PyData.showable], ?_, by simp only [PyData.bulk]; exact Nat.le_refl _, by simp [PyData.depth]⟩
  simp only [PyData.leavesShort]
  rw [List.all_eq_true]
  intro c hc
  have h2 := h.2
  unfold PyData.strOk at h2
  obtain ⟨i, hi, e⟩ := List.getElem_of_mem hc
  have h3 := Array.all_eq_true.mp h2 i (by simpa using hi)
  have h4 : c < 0x110000 := by rw [← e]; simpa using h3
  exact decide_eq_true (Nat.lt_trans h4 (by decide))
theorem ShA.nil : ShA 0 0 [] := ⟨by simp [PyData.hasDictAll], by simp [PyData.showableAll], by simp [PyData.leavesShortAll], by simp [PyData.bulkAll], by simp [PyData.depthAll]⟩
theorem ShA.cons {n m k l : Nat} {d : PyData} {ds : List PyData} (h : Sh n k d) (t : ShA m l ds) : ShA (n + 1 + m) (max k l) (d :: ds) := by
  refine ⟨?_, ?_, ?_, ?_, ?_⟩
  · simp only [PyData.hasDictAll, h.nd, t.nd]; rfl
  · simp only [PyData.showableAll, h.sh, t.sh]; rfl
  · simp only [PyData.leavesShortAll, h.lv, t.lv]; rfl
  · simp only [PyData.bulkAll]; have := h.bk; have := t.bk; omega
  · simp only [PyData.depthAll]; have := h.dp; have := t.dp; omega
theorem ShA.tup {n k : Nat} {ds : List PyData} (h : ShA n k ds) : Sh n (k + 1) (.tuple ds) := ⟨by simp only [PyData.hasDict]; exact h.nd, by simp only [PyData.showable]; exact h.sh, by simp only [PyData.leavesShort]; exact h.lv, by simp only [PyData.bulk]; exact h.bk, by simp only [PyData.depth]; have := h.dp; omega⟩
theorem ShA.lst {n k : Nat} {ds : List PyData} (h : ShA n k ds) : Sh n (k + 1) (.list ds) := ⟨by simp only [PyData.hasDict]; exact h.nd, by simp only [PyData.showable]; exact h.sh, by simp only [PyData.leavesShort]; exact h.lv, by simp only [PyData.bulk]; exact h.bk, by simp only [PyData.depth]; have := h.dp; omega⟩
theorem Sh.mono {n m k l : Nat} {d : PyData} (h : Sh n k d) (a : n ≤ m) (b : k ≤ l) : Sh m l d := ⟨h.nd, h.sh, h.lv, Nat.le_trans h.bk a, Nat.le_trans h.dp b⟩
theorem ShA.mono {n m k l : Nat} {ds : List PyData} (h : ShA n k ds) (a : n ≤ m) (b : k ≤ l) : ShA m l ds := ⟨h.nd, h.sh, h.lv, Nat.le_trans h.bk a, Nat.le_trans h.dp b⟩
theorem ShA.all {n k : Nat} : ∀ {ds : List PyData}, (∀ d ∈ ds, Sh n k d) → ShA (ds.length * (n + 1)) k ds
  | [], _ => ShA.nil.mono (Nat.zero_le _) (Nat.zero_le _)
  | d :: r, h => by
    have a := ShA.cons (h d List.mem_cons_self) (ShA.all (ds := r) fun e he => h e (List.mem_cons_of_mem _ he))
    refine a.mono ?_ (by omega)
    rw [List.length_cons, Nat.succ_mul]
    omega
theorem Sh.shown {n k : Nat} {d : PyData} (h : Sh n k d) (hn : n ≤ 700000) : d.shown.length ≤ sizeLine := by
  have a := PyData.shown_le_bulk 20 (by decide) d h.lv
  have b := h.bk
  rw [sizeLine_eq]
  omega
end L2
namespace L2
open PySem PySem.Spec PyProof.Rows
end L2
namespace L2
open PySem PySem.Spec PyProof.Rows
end L2
namespace L2
open PySem PySem.Spec PyProof.Rows
end L2
namespace L2
open PySem PySem.Spec PyProof.Rows
end L2
namespace L2
open PySem PySem.Spec PyProof.Rows
end L2
namespace L2
open PySem PySem.Spec PyProof.Rows
end L2
namespace PySem.W
open PySem PySem.Spec
end PySem.W
namespace L2
open PySem PySem.Spec PyProof.Rows
end L2
namespace L2
open PySem PySem.Spec PyProof.Rows
def aD : PyData := .tuple [.str "a", .str "touch", .int 2, .int 8, .tuple [.tuple [.int 3, .int 5]], .int 3, .str "stop"]
end L2
namespace L2
open PySem PySem.Spec PyProof.Rows
end L2
namespace PySem.W
open PySem PySem.Spec PySem.Calls PyProof.Rows
end PySem.W
namespace L2
open PySem PySem.Spec PyProof.Rows
end L2
namespace L2
open PySem PySem.Spec PyProof.Rows
end L2
namespace L2
open PySem PySem.Spec PyProof.Rows TL
def numT (n : Nat) : Str := Str.ofString (toString ((n : Nat) : Int))
end L2
namespace L2
open PySem PySem.Spec PyProof.Rows TL
end L2
namespace L2
open PySem PySem.Spec PyProof.Rows TL
end L2
namespace L2
open PySem PySem.Spec PyProof.Rows TL
end L2
namespace L2
open PySem PySem.Spec PyProof.Rows TL
end L2
namespace L2
open PySem PySem.Spec PyProof.Rows TL
end L2
namespace L2
open PySem PySem.Spec PyProof.Rows TL
end L2
namespace L2
open PySem PySem.Spec PyProof.Rows TL
end L2
namespace L2
open PySem PySem.Spec PyProof.Rows TL
end L2
namespace L2
open PySem PySem.Spec PyProof.Rows TL
end L2
namespace L2
open PySem PySem.Spec PyProof.Rows TL
end L2
namespace L2
open PySem PySem.Spec PyProof.Rows
end L2
namespace L2
open PySem PySem.Spec PyProof.Rows TL
end L2
namespace L2
open PySem PySem.Spec PyProof.Rows
end L2
namespace L2
open PySem PySem.Spec PyProof.Rows ClX
end L2
set_option autoImplicit false
namespace DL
open PySem PySem.Spec PyProof.Rows L2
theorem dat_ins {K : PySem.W.Frag} {M : Addr → Prop} {H : Hp} {v : V} {C : Addr} {ns : List Str} {es : List D} (h : Dat K M H v (.ins C ns es)) : ∃ a dx fs, v = .ref a ∧ ¬ M a ∧ H a = some (.ins C dx fs) ∧ fs.map (·.1) = ns ∧ DatAll K M H (fs.map (·.2)) es := by
  cases h with
  | ins n h q a => exact ⟨_, _, _, rfl, n, h, q, a⟩
def lookD : List Str → List D → Str → Option D
  | n :: ns, d :: ds, f => if f = n then some d else lookD ns ds f
  | _, _, _ => none
theorem lookD_at {K : PySem.W.Frag} {M : Addr → Prop} {H : Hp} {f : Str} {d : D} : ∀ {fs : List (Str × V)} {ds : List D}, DatAll K M H (fs.map (·.2)) ds → lookD (fs.map (·.1)) ds f = some d → ∃ v, fs.lookup f = some v ∧ Dat K M H v d
  | [], _, _, h => by cases h
  | (n, x) :: r, [], h, e => by cases h
  | (n, x) :: r, d0 :: ds, .cons h1 h2, e => by
    rw [List.map_cons] at e
    unfold lookD at e
    by_cases z : f = n
    · rw [if_pos z] at e
      cases e
      exact ⟨x, by simp [List.lookup, z], h1⟩
    · rw [if_neg z] at e
      obtain ⟨v, hv, dv⟩ := lookD_at h2 e
      exact ⟨v, by rw [List.lookup, beq_eq_false_iff_ne.mpr z]; exact hv, dv⟩
/-- x is an instance of the class at C without an attribute of this name -/
def isObj (C : Addr) (m : Str) : D → Bool
  | .ins B ns _ => B == C && !(ns.contains m)
  | _ => false
/-- what a call with defaults is given -/
def plus (F : List D → Option D) (dds : List D) (ds : List D) : Option D := F (ds ++ dds)
/-- how many values a def takes -/
def Takes (m : Nat) (F : List D → Option D) : Prop := ∀ ds d, F ds = some d → ds.length = m
def TakesO (m : Nat) (F : D → List D → Option (D × D)) : Prop := ∀ d0 ds r, F d0 ds = some r → ds.length + 1 = m
theorem takesF {m n : Nat} {b : Mo Fl} : Takes m (runF m n b) := fun ds d h => by
  unfold runF at h
  split at h
  · assumption
  · cases h
theorem takesN {m n : Nat} {b : Mo Fl} : Takes m (runN m n b) := fun ds d h => by
  unfold runN at h
  split at h
  · assumption
  · cases h
theorem takesO {m n : Nat} {b : Mo Fl} : TakesO m (runO m n b) := fun d0 ds d h => by
  unfold runO at h
  split at h
  · assumption
  · cases h
section
variable {K : PySem.W.Frag} {c : Ctx K} {ta : TE} {ma : Mo D} {tl tk : TA} {ml mk : Mo (List D)} {m : Nat} {F : List D → Option D} {FO : D → List D → Option (D × D)} {dvs : List V} {dds : List D}
theorem r_call (hF : Takes m F) (h : RAv c tl ml) : REv c (tCall (spF K m F) [] E0 tl) (mFn F ml) := by
  intro M σ H ρ S d ρ' hm Q q
  obtain ⟨xs, ρ1, h1, hm⟩ := mBd_some hm
  obtain ⟨hg, rfl⟩ := mL_some hm
  exact h M σ H ρ S xs _ h1 _ fun M1 vs H1 E1 S1 d1 => ⟨M1, xs, d, S1.kind, by rw [List.append_nil]; exact d1, hF _ _ hg, hg, fun u H' s h => q M1 u H' (E1.trans (.same s) S.kind) (S1.same s) h⟩
theorem r_callN (hF : Takes m F) (h : RAv c tl ml) : RNw c (tCall (spN K m F) [] E0 tl) (mFn F ml) := by
  intro M σ H ρ S d ρ' hm Q q
  obtain ⟨xs, ρ1, h1, hm⟩ := mBd_some hm
  obtain ⟨hg, rfl⟩ := mL_some hm
  exact h M σ H ρ S xs _ h1 _ fun M1 vs H1 E1 S1 d1 => ⟨M1, xs, d, S1.kind, by rw [List.append_nil]; exact d1, hF _ _ hg, hg, fun a H' o n s ho h => by
    obtain ⟨E2, S2, nh⟩ := S1.hold n s ho h.mut
    exact q _ a H' (E1.dm a n) (E1.trans E2 S.kind) S2 ⟨.inr rfl, nh, (S1.free0 n).1, (S1.free0 n).2, o, ho, h⟩⟩
/-- f(x, ..), x the name in slot i, which f may change -/
def mCallO (F : D → List D → Option (D × D)) (i : Nat) (a : Mo (List D)) : Mo D := fun ρ => if owns i ρ = true then mBd a (fun ds ρ1 => match ρ1[i]? with
  | some (.own p d0) => (match F d0 ds with
    | some (r, d1) => some (r, ρ1.set i (.own p d1))
    | none => none)
  | _ => none) ρ else none
theorem r_callO {i : Nat} (hF : TakesO m FO) (h : RAv c tl ml) : REv c (tCall (spO K m FO) [] E0 (tCons (tVar i) tl)) (mCallO FO i ml) := by
  intro M σ H ρ S d ρ' hm Q q
  unfold mCallO at hm
  split at hm
  case isFalse => cases hm
  rename_i hw
  obtain ⟨p0, d0, e0⟩ := owns_some hw
  obtain ⟨a, ha, _⟩ := S.own e0
  obtain ⟨xs, ρ1, h1, h2⟩ := mBd_some hm
  split at h2
  · rename_i p d2 e1
    split at h2
    · rename_i r d1 hF2
      cases h2
      refine ⟨_, ha, h M σ H ρ S xs ρ1 h1 _ fun M1 vs H1 E1 S1 dd => ?_⟩
      obtain ⟨a', ha', hM, _, ho⟩ := S1.own e1
      rw [ha] at ha'; cases ha'
      refine ⟨M1, _, d2, vs ++ [], xs, d, d1, rfl, S1.kind, hM, ho, by rw [List.append_nil]; exact dd, hF _ _ _ hF2, hF2, fun u H' hb hn hu => ?_⟩
      have E2 := S1.mutE ha e1 hb hn
      exact q M1 u H' (E1.trans E2.1 S.kind) E2.2 hu
    · cases h2
  · cases h2
/-- an object that no slot holds is changed -/
theorem Sta.putO {M : Addr → Prop} {σ : L2.St} {H H' : Hp} {ρ : Cs} {a : Addr} {d d' : D} (S : Sta c M σ H ρ) (n : Nw c M σ H ρ a d) (ho : ∀ b o, b ≠ a → H b = some o → H' b = some o) (hn : Own K M H' a d') : Ev M H M H' ∧ Sta c M σ H' ρ := by
  have hM := n.m
  have E : Ev M H M H' := ⟨fun b h => .inl h, fun b u nb h => ho b u (fun z => nb (by rw [z]; exact hM)) h⟩
  refine ⟨E, S.pm, S.sub, S.new, fun b hb => ?_, fun b u nb h => ?_, S.len, fun i x y h1 h2 => ?_, S.inj⟩
  · by_cases z : b = a
    · subst z
      obtain ⟨o, q, w⟩ := hn
      exact ⟨o, q, w.mut⟩
    · obtain ⟨u, q, w⟩ := S.kind b hb
      exact ⟨u, ho b u z q, w⟩
  · exact ho b u (fun z => by rw [z, n.h0] at h; cases h) (S.base b u nb h)
  · cases S.cell i x y h1 h2 with
    | no => exact .no _
    | dat q => exact .dat (q.ev S.kind E)
    | own m' q w =>
      rename_i p' a' d''
      have ne : a' ≠ a := fun z => n.nh ⟨i, p', d'', by rw [← z]; exact h1, h2⟩
      exact .own m' q (w.elim fun u r => ⟨u, ho _ _ ne r.1, r.2.ev S.kind E⟩)
/-- f(e, ..), e's value a new object -/
def mCallNew (F : D → List D → Option (D × D)) (e : Mo D) (a : Mo (List D)) : Mo D := mBd e fun d0 => mBd a fun ds => mL ((F d0 ds).map (·.1))
theorem r_callNew (hF : TakesO m FO) (he : RNw c ta ma) (h : RAv c tl ml) : REv c (tCall (spO K m FO) [] E0 (tCons ta tl)) (mCallNew FO ma ml) := by
  intro M σ H ρ S d ρ' hm Q q
  obtain ⟨d0, ρ1, h1, hm1⟩ := mBd_some hm
  obtain ⟨xs, ρ2, h2, hm2⟩ := mBd_some hm1
  obtain ⟨hg, e3⟩ := mL_some hm2
  subst e3
  obtain ⟨⟨r, d1⟩, hF2, er⟩ := map_some hg
  cases er
  refine he M σ H ρ S d0 ρ1 h1 _ fun M1 a H1 hf E1 S1 n1 => h M1 σ H1 ρ1 S1 xs _ h2 _ fun M2 vs H2 E2 S2 dd => ?_
  have n2 := n1.es S1.kind E2
  refine ⟨M2, a, d0, vs ++ [], xs, r, d1, rfl, S2.kind, n2.m, n2.o, by rw [List.append_nil]; exact dd, hF _ _ _ hF2, hF2, fun u H' hb hn hu => ?_⟩
  have E12 := E1.trans E2 S.kind
  obtain ⟨E3, S3⟩ := S2.putO n2 hb hn
  refine q M2 u H' ⟨E12.ev.trans E3, fun b o nb hbo => hb b o (fun z => by rw [z, hf] at hbo; cases hbo) (E12.kp b o nb hbo), E12.hs, E12.mc, fun b hb' => E12.dm b ?_⟩ S3 hu
  cases z : H2 b with
  | none => rfl
  | some o =>
    by_cases w : b = a
    · subst w
      obtain ⟨o', ho', _⟩ := hn
      rw [ho'] at hb'; cases hb'
    · rw [hb b o w z] at hb'; cases hb'
/-- o.m(..) -/
def mMeth (C : Addr) (nm : Str) (F : List D → Option D) (o : Mo D) (a : Mo (List D)) : Mo D := mBd o fun x => if isObj C nm x = true then mBd a fun ds => mL (F (x :: ds)) else fun _ => none
/-- o.p, a property -/
def isIns (C : Addr) : D → Bool
  | .ins B _ _ => B == C
  | _ => false
theorem isIns_of {C : Addr} {x : D} (h : isIns C x = true) : ∃ ns es, x = .ins C ns es := by
  unfold isIns at h
  split at h
  · rename_i B ns es
    have := beq_iff_eq.mp h
    subst this
    exact ⟨ns, es, rfl⟩
  · cases h
def mProp (C : Addr) (F : List D → Option D) (o : Mo D) : Mo D := mBd o fun x => if isIns C x = true then mL (F [x]) else fun _ => none
theorem r_prop {C : Addr} (hF : Takes m F) (ho : REv c ta ma) : REv c (tProp C (spF K m F) [] E0 ta) (mProp C F ma) := by
  intro M σ H ρ S d ρ' hm Q q
  obtain ⟨x, ρ1, h1, hm1⟩ := mBd_some hm
  split at hm1
  case isFalse => cases hm1
  rename_i hx
  obtain ⟨ns, es, rfl⟩ := isIns_of hx
  obtain ⟨hg, e3⟩ := mL_some hm1
  subst e3
  refine ho M σ H ρ S _ _ h1 _ fun M1 v H1 E1 S1 dx => ?_
  obtain ⟨a, dx', fs, rfl, nM, hH, hns, hes⟩ := dat_ins dx
  exact ⟨a, dx', fs, rfl, hH, M1, _, d, S1.kind, .cons dx .nil, hF _ _ hg, hg, fun u H' s hu => q M1 u H' (E1.trans (.same s) S.kind) (S1.same s) hu⟩
/-- o.f, an attribute -/
def mFld (C : Addr) (f : Str) (o : Mo D) : Mo D := mBd o fun x => match x with
  | .ins B ns es => if B = C then mL (lookD ns es f) else fun _ => none
  | _ => fun _ => none
theorem r_fld {C : Addr} {f : Str} (hC : Cls K C) (hn : NoAttr K C f) (ho : REv c ta ma) : REv c (tFld K ta f) (mFld C f ma) := by
  intro M σ H ρ S d ρ' hm Q q
  obtain ⟨x, ρ1, h1, hm1⟩ := mBd_some hm
  split at hm1
  · rename_i B ns es
    split at hm1
    · rename_i e
      subst e
      obtain ⟨hg, e3⟩ := mL_some hm1
      subst e3
      refine ho M σ H ρ S _ _ h1 _ fun M1 v H1 E1 S1 dx => ?_
      obtain ⟨a, dx', fs, rfl, nM, hH, hns, hes⟩ := dat_ins dx
      subst hns
      obtain ⟨w, hw, dw⟩ := lookD_at hes hg
      exact ⟨a, _, dx', fs, w, rfl, hH, hC, hn, hw, q M1 w H1 E1 S1 dw⟩
    · cases hm1
  · cases hm1
/-- o.f = e, o the name in slot i -/
def putN (f : Str) : List Str → List Str
  | [] => [f]
  | g :: r => if g = f then g :: r else g :: putN f r
def putD (f : Str) (d : D) : List Str → List D → List D
  | g :: r, x :: s => if g = f then d :: s else x :: putD f d r s
  | _, _ => [d]
theorem putF_at {K : PySem.W.Frag} {M : Addr → Prop} {H : Hp} {f : Str} {v : V} {d : D} (hv : Dat K M H v d) : ∀ {fs : List (Str × V)} {ds : List D}, DatAll K M H (fs.map (·.2)) ds → (putF f v fs).map (·.1) = putN f (fs.map (·.1)) ∧ DatAll K M H ((putF f v fs).map (·.2)) (putD f d (fs.map (·.1)) ds)
  | [], _, h => by
    cases h
    exact ⟨rfl, .cons hv .nil⟩
  | (g, x) :: r, _, h => by
    cases h with
    | cons h1 h2 =>
      by_cases z : g = f
      · subst z
        simp only [putF, putN, putD, List.map_cons, if_pos trivial, if_true]
        exact ⟨trivial, .cons hv h2⟩
      · obtain ⟨a, b⟩ := putF_at hv h2
        simp only [putF, putN, putD, List.map_cons, if_neg z]
        exact ⟨by rw [a], .cons h1 b⟩
def sFldV (C : Addr) (i : Nat) (f : Str) (e : Mo D) : Mo Fl := mBd e fun d ρ => match ρ[i]? with
  | some (.own p (.ins B ns es)) => if B = C ∧ es.length < 1000 then some (.nx, ρ.set i (.own p (.ins B (putN f ns) (putD f d ns es)))) else none
  | _ => none
theorem r_sfld {C : Addr} {i : Nat} {f : Str} (hC : Cls K C) (hn : NoAttr K C f) (he : REv c ta ma) : RSt c (sFld K (tVar i) ta f) (sFldV C i f ma) := by
  intro M σ H ρ S fl ρ' hm D q
  obtain ⟨d, ρ1, h1, h2⟩ := mBd_some hm
  split at h2
  · rename_i p B ns es e1
    obtain ⟨⟨rfl, hl⟩, e2⟩ := if_some h2
    cases e2
    refine he M σ H ρ S d ρ1 h1 _ fun M1 v H1 E1 S1 dv => ?_
    obtain ⟨a, ha, hM, _, o, ho, hc⟩ := S1.own e1
    cases hc with
    | ins hns hes =>
      rename_i dx fs
      subst hns
      refine ⟨_, ha, a, _, dx, fs, rfl, ho, hC, hn, by have := hes.length; rw [List.length_map] at this; omega, ?_⟩
      have ev2 : Ev M1 H1 M1 (upd H1 a (.ins B dx (putF f v fs))) := ⟨fun b h => .inl h, fun b o nb h => by rw [upd_ne (fun z => nb (by rw [z]; exact hM))]; exact h⟩
      obtain ⟨p1, p2⟩ := putF_at (f := f) dv hes
      have E2 := S1.mut (d' := .ins B (putN f (fs.map (·.1))) (putD f d (fs.map (·.1)) es)) (H' := upd H1 a (.ins B dx (putF f v fs))) ha e1 (fun b o nb h => by rw [upd_ne nb]; exact h) ⟨_, upd_same, .ins p1 (p2.ev S1.kind ev2)⟩
      exact q M1 σ _ (E1.ev.trans E2.1) E2.2
  · cases h2
/-- C(..) -/
def mMake (C : Addr) (F : D → List D → Option (D × D)) (dds : List D) (a : Mo (List D)) : Mo D := mBd a fun ds => mL (match F (.ins C [] []) (ds ++ dds) with
  | some (.non, d1) => some d1
  | _ => none)
theorem r_make {C : Addr} (hF : TakesO m FO) (hd : ∀ M H, DatAll K M H dvs dds) (h : RAv c tl ml) : RNw c (tMake C (spO K m FO) dvs E0 tl) (mMake C FO dds ml) := by
  intro M σ H ρ S d ρ' hm Q q
  obtain ⟨xs, ρ1, h1, hm1⟩ := mBd_some hm
  obtain ⟨hg, e3⟩ := mL_some hm1
  subst e3
  split at hg
  case h_2 => cases hg
  rename_i d1 hF2
  cases hg
  refine h M σ H ρ S xs _ h1 _ fun M1 vs H1 E1 S1 dd => fun x dx hx hdx ne => ?_
  have s1 : Same H1 (upd (upd H1 dx (.own x)) x (.ins C dx [])) := (same_new hdx).new (by rw [upd_ne (Ne.symm ne)]; exact hx)
  obtain ⟨E2, S2, n2⟩ := S1.nw (o := .ins C dx []) (d := .ins C [] []) hx s1 upd_same (.ins rfl .nil)
  refine ⟨_, x, .ins C [] [], vs ++ dvs, xs ++ dds, .non, d, rfl, S2.kind, n2.m, n2.o, (dd.ev S1.kind E2.ev).append (hd _ _), hF _ _ _ hF2, hF2, fun u H' hb hn hu => ⟨by cases hu; rfl, ?_⟩⟩
  obtain ⟨E3, S3⟩ := S2.putO n2 hb hn
  have E12 := E1.trans E2 S.kind
  refine q _ x H' (E1.dm x hx) ⟨E12.ev.trans E3, fun b o nb hbo => hb b o (fun z => by rw [z, E1.dm x hx] at hbo; cases hbo) (E12.kp b o nb hbo), E12.hs, E12.mc, fun b hb' => E12.dm b ?_⟩ S3 ⟨n2.m, n2.nh, n2.h0, n2.n0, hn⟩
  cases z : upd (upd H1 dx (.own x)) x (.ins C dx []) b with
  | none => rfl
  | some o =>
    by_cases w : b = x
    · subst w
      obtain ⟨o', ho', _⟩ := hn
      rw [ho'] at hb'; cases hb'
    · rw [hb b o w z] at hb'; cases hb'
end
end DL
set_option autoImplicit false
namespace DL
open PySem PySem.Spec PyProof.Rows L2
def pick {α : Type} : List Nat → List α → List α
  | [], _ => []
  | i :: is, l => match l[i]? with
    | some a => a :: pick is l
    | none => pick is l
theorem pick_vals {vs : List V} {us : List Value} (h : Vals vs us) : ∀ is : List Nat, Vals (pick is vs) (pick is us)
  | [] => .nil
  | i :: is => by
    unfold pick
    cases hv : vs[i]? with
    | some v =>
      obtain ⟨u, hu, r⟩ := h.get hv
      rw [hu]
      exact .cons r (pick_vals h is)
    | none =>
      have : us[i]? = none := by
        rw [List.getElem?_eq_none_iff] at hv ⊢
        rw [← h.length]; exact hv
      rw [this]
      exact pick_vals h is
theorem pick_dat {K : PySem.W.Frag} {M : Addr → Prop} {H : Hp} {vs : List V} {ds : List D} (h : DatAll K M H vs ds) : ∀ is : List Nat, DatAll K M H (pick is vs) (pick is ds)
  | [] => .nil
  | i :: is => by
    unfold pick
    cases hv : vs[i]? with
    | some v =>
      obtain ⟨u, hu, r⟩ := h.get hv
      rw [hu]
      exact .cons r (pick_dat h is)
    | none =>
      have : ds[i]? = none := by
        rw [List.getElem?_eq_none_iff] at hv ⊢
        rw [← h.length]; exact hv
      rw [this]
      exact pick_dat h is
theorem kbn_of {K : PySem.W.Frag} {x qual : Str} {st : Stmt} {f : Addr} {fd : FuncData} {ps : List Str} (F : Fun K x qual st f fd) (n : Nat) (ks : List Str) (is : List Nat)
    (h : ∀ (kV doc pm : Value) (an : Option Addr) (cdv ct : Value) (us ws : List Value), us.length = n → ws.length = ks.length → bindArgs (PySem.W.fnOf x qual (defArgs st) (defBody st) (defScope st) .none kV doc pm an cdv ct) ⟨us, ks.zip ws⟩ = pure (ps.zip (pick is (us ++ ws)))) :
    KBn K fd ps n ks (fun us ws => pick is (us ++ ws)) (fun vs zs => pick is (vs ++ zs)) := by
  obtain ⟨oc, od, kV, doc, pm, an, cdv, ct, osl, rfl, lk, hcd⟩ := F.ex
  exact ⟨fun s us ws X l1 l2 => .of_eq (h kV doc pm an cdv ct us ws l1 l2), fun r1 r2 => pick_vals (r1.append r2) is⟩
/-- f(k = v, ..) -/
theorem pe_callN0 {X : Cx} {CX : CXT} {k : Nat} {f : Addr} {fd : FuncData} {ps ks : List Str} {sp : Sp} {E : XK} {x : Str} {p pos : Pos} {kws : List Keyword} {tk : TA} {g : List Value → List Value → List Value} {gV : List V → List V → List V}
    (F : FnOk X.prog X.w X.K X.mg X.base CX k f fd ps sp) (hr : Room k X.A) (hg : Gl X x) (hm : X.mg x = some (.ref f)) (hk : PySem.W.keepIn X.K (.ref f) = true) (hb : KBn X.K fd ps 0 ks g gV) (hx : Passes CX X E) (hkw : PK X kws tk)
    (hall : (backToKw pos (keywordEach kws X.env)).all (·.1.isSome) = true := by rfl) (hks : (backToKw pos (keywordEach kws X.env)).filterMap (·.1) = ks := by rfl) (hdb : (x == ("__debug__" : Str)) = false := by decide)
    (hpl : ((backTo pos (starEach [] X.env)).any (·.1) || (backToKw pos (keywordEach kws X.env)).any (·.1.isNone)) = false := by rfl) :
    PE X (.Call (.Name x p) [] kws pos) (tCallN 0 ks.length sp gV E tNil tk) := by
  constructor
  intro pins s σ H Q I h
  refine wpAny_Call_Name_kw (ld_glob I hg hm (PySem.W.callWith_KW0 (h₀ := X.base) I.ok.mod.kin hk hall ?_ hpl) hdb)
  refine thn (hkw.run pos pins s σ H _ I h) fun ws s2 z => ?_
  obtain ⟨zs, H2, I2, rz, l1, l2, q2⟩ := z
  refine ⟨I2.kIn, ?_⟩
  rw [hks]
  exact run_fnN (us := []) (vs := []) F hr hb hx I2 .nil rz rfl l2 q2
/-- all keywords' values -/
structure DK (X : Cx) {K : PySem.W.Frag} (c : Ctx K) (kws : List Keyword) (t : TA) (m : Mo (List D)) : Prop where
  p : PK X kws t
  r : RAv c t m
def mKw (is : List Nat) (n nk : Nat) (F : List D → Option D) (a k : Mo (List D)) : Mo D := mBd a fun xs => mBd k fun ys => if xs.length = n ∧ ys.length = nk then mL (F (pick is (xs ++ ys))) else fun _ => none
section
variable {K : PySem.W.Frag} {c : Ctx K} {ta : TE} {ma : Mo D} {tl tk : TA} {ml mk : Mo (List D)} {m n nk : Nat} {F : List D → Option D} {FO : D → List D → Option (D × D)} {is : List Nat}
theorem r_callK (hF : Takes m F) (h : RAv c tl ml) (hk : RAv c tk mk) : REv c (tCallN n nk (spF K m F) (fun vs zs => pick is (vs ++ zs)) E0 tl tk) (mKw is n nk F ml mk) := by
  intro M σ H ρ S d ρ' hm Q q
  obtain ⟨xs, ρ1, h1, hm1⟩ := mBd_some hm
  obtain ⟨ys, ρ2, h2, hm2⟩ := mBd_some hm1
  split at hm2
  case isFalse => cases hm2
  rename_i hl
  obtain ⟨hg, e3⟩ := mL_some hm2
  subst e3
  refine h M σ H ρ S xs ρ1 h1 _ fun M1 vs H1 E1 S1 d1 => hk M1 σ H1 ρ1 S1 ys _ h2 _ fun M2 zs H2 E2 S2 d2 => ?_
  exact ⟨by rw [d1.length]; exact hl.1, by rw [d2.length]; exact hl.2, M2, _, d, S2.kind, pick_dat ((d1.ev S1.kind E2.ev).append d2) is, hF _ _ hg, hg, fun u H' s h => q M2 u H' ((E1.trans E2 S.kind).trans (.same s) S.kind) (S2.same s) h⟩
end
end DL
set_option autoImplicit false
namespace DL
open PySem PySem.Spec PyProof.Rows L2
section
variable {X : Cx} {K : PySem.W.Frag} {c : Ctx K} {k m n : Nat} {f C g : Addr} {fd : FuncData} {ps ks : List Str} {dvs : List V} {vds : List Value} {dds : List D} {F : List D → Option D} {FO : D → List D → Option (D × D)} {is : List Nat}
  {x y nm : Str} {p p2 pos apos kpos : Pos} {e o : Expr} {es : List Expr} {kws : List Keyword} {ta te : TE} {ma me : Mo D} {tl tk : TA} {ml mk : Mo (List D)}
theorem d_call (G : FnOk X.prog X.w X.K X.mg X.base CX0 k f fd ps (spF X.K m F)) (hF : Takes m F) (hr : Room k X.A) (hm : X.mg x = some (.ref f)) (hk : PySem.W.keepIn X.K (.ref f) = true) (hb : Binds X.K fd ps []) (ha : DA X c (e :: es) tl ml)
    (hg : Gl X x := by rfl) (hdb : (x == ("__debug__" : Str)) = false := by decide) (he : starEach (e :: es) X.env = (false, eval e X.env) :: starEach es X.env := by rfl) (hpl : (backTo pos (starEach es X.env)).any (·.1) = false := by rfl) (hK : X.K = K := by rfl) :
    DE X c (.Call (.Name x p) (e :: es) [] pos) (tCall (spF K m F) [] E0 tl) (mFn F ml) := ⟨by rw [← hK]; exact pe_call G hr hg hm hk hb .nil pass0 ha.p hdb he hpl, r_call hF ha.r⟩
theorem d_callN (G : FnOk X.prog X.w X.K X.mg X.base CX0 k f fd ps (spN X.K m F)) (hF : Takes m F) (hr : Room k X.A) (hm : X.mg x = some (.ref f)) (hk : PySem.W.keepIn X.K (.ref f) = true) (hb : Binds X.K fd ps []) (ha : DA X c (e :: es) tl ml)
    (hg : Gl X x := by rfl) (hdb : (x == ("__debug__" : Str)) = false := by decide) (he : starEach (e :: es) X.env = (false, eval e X.env) :: starEach es X.env := by rfl) (hpl : (backTo pos (starEach es X.env)).any (·.1) = false := by rfl) (hK : X.K = K := by rfl) :
    DN X c (.Call (.Name x p) (e :: es) [] pos) (tCall (spN K m F) [] E0 tl) (mFn F ml) := ⟨by rw [← hK]; exact pe_call G hr hg hm hk hb .nil pass0 ha.p hdb he hpl, r_callN hF ha.r⟩
theorem d_callO (i : Nat) (G : FnOk X.prog X.w X.K X.mg X.base CX0 k f fd ps (spO X.K m FO)) (hF : TakesO m FO) (hr : Room k X.A) (hm : X.mg x = some (.ref f)) (hk : PySem.W.keepIn X.K (.ref f) = true) (hb : Binds X.K fd ps []) (ha : DA X c es tl ml)
    (hN : X.N[i]? = some y := by rfl) (hv : Vis X.env.scope y := by first | exact Or.inl rfl | exact Or.inr (Or.inl rfl) | exact Or.inr (Or.inr rfl)) (hd : (y == ("__debug__" : Str)) = false := by decide) (hcd : (y == ("__classdict__" : Str)) = false := by decide)
    (hg : Gl X x := by rfl) (hdb : (x == ("__debug__" : Str)) = false := by decide) (he : starEach (.Name y p2 :: es) X.env = (false, eval (.Name y p2) X.env) :: starEach es X.env := by rfl) (hpl : (backTo pos (starEach es X.env)).any (·.1) = false := by rfl) (hK : X.K = K := by rfl) :
    DE X c (.Call (.Name x p) (.Name y p2 :: es) [] pos) (tCall (spO K m FO) [] E0 (tCons (tVar i) tl)) (mCallO FO i ml) := ⟨by rw [← hK]; exact pe_call G hr hg hm hk hb .nil pass0 (pa_cons (pv i hN hv hd hcd) ha.p he) hdb he hpl, r_callO hF ha.r⟩
theorem d_gcallNew (hgd : X.A.guards = some []) (G : FnG X.prog X.w X.K X.mg X.base CX0 k f fd ps (spO X.K m FO)) (hF : TakesO m FO) (hr : Room k X.A) (hm : X.mg x = some (.ref f)) (hk : PySem.W.keepIn X.K (.ref f) = true) (hb : Binds X.K fd ps []) (h0 : DN X c e te me) (ha : DA X c es tl ml)
    (hg : Gl X x := by rfl) (hdb : (x == ("__debug__" : Str)) = false := by decide) (he : starEach (e :: es) X.env = (false, eval e X.env) :: starEach es X.env := by rfl) (hpl : (backTo pos (starEach es X.env)).any (·.1) = false := by rfl) (hK : X.K = K := by rfl) :
    DE X c (.Call (.Name x p) (e :: es) [] pos) (tCall (spO K m FO) [] E0 (tCons te tl)) (mCallNew FO me ml) := ⟨by rw [← hK]; exact L2.pe_callG hgd G hr hg hm hk hb .nil pass0 (pa_cons h0.p ha.p he) hdb he hpl, r_callNew hF h0.r ha.r⟩
theorem d_prop (ho : DE X c o ta ma) (hC : Cls X.K C) (hp : PropOf X.K C nm g f) (G : FnOk X.prog X.w X.K X.mg X.base CX0 k f fd ps (spF X.K m F)) (hF : Takes m F) (hr : Room (k + 1) X.A) (hb : Binds X.K fd ps []) (hab : attributeBase o nm X.env (eval o X.env) = eval o X.env := by rfl) (hK : X.K = K := by rfl) :
    DE X c (.Attribute o nm pos) (tProp C (spF K m F) [] E0 ta) (mProp C F ma) := ⟨by rw [← hK]; exact pe_prop ho.p hC hp G hr hb .nil pass0 hab, r_prop hF ho.r⟩
theorem d_fld (ho : DE X c o ta ma) (hC : Cls X.K C) (hn : NoAttr X.K C nm) (hab : attributeBase o nm X.env (eval o X.env) = eval o X.env := by rfl) (hK : X.K = K := by rfl) : DE X c (.Attribute o nm pos) (tFld K ta nm) (mFld C nm ma) := ⟨by rw [← hK]; exact pe_fld ho.p hab, r_fld (by rw [← hK]; exact hC) (by rw [← hK]; exact hn) ho.r⟩
theorem s_fld {v : Expr} {pos' : Pos} (i : Nat) (hC : Cls X.K C) (hn : NoAttr X.K C nm) (he : DE X c v te me) (hs : swapsWith v (some (.Attribute (.Name y p) nm pos')) pos.line X.env = pure false := by rfl)
    (hN : X.N[i]? = some y := by rfl) (hv : Vis X.env.scope y := by first | exact Or.inl rfl | exact Or.inr (Or.inl rfl) | exact Or.inr (Or.inr rfl)) (hd : (y == ("__debug__" : Str)) = false := by decide) (hcd : (y == ("__classdict__" : Str)) = false := by decide) (hK : X.K = K := by rfl) :
    DS X c (.Assign [.Attribute (.Name y p) nm pos'] v pos) (sFld K (tVar i) te nm) (sFldV C i nm me) := ⟨by rw [← hK]; exact ps_fld (pv i hN hv hd hcd) he.p hs, r_sfld (by rw [← hK]; exact hC) (by rw [← hK]; exact hn) he.r⟩
theorem d_make (M : Mk X.K C f) (G : FnOk X.prog X.w X.K X.mg X.base CX0 k f fd ps (spO X.K m FO)) (hF : TakesO m FO) (hr : Room (k + 1) X.A) (hm : X.mg x = some (.ref C)) (hb : Binds X.K fd ps vds) (hv : Vals dvs vds) (hd : ∀ M H, DatAll K M H dvs dds) (ha : DA X c (e :: es) tl ml)
    (hg : Gl X x := by rfl) (hdb : (x == ("__debug__" : Str)) = false := by decide) (he : starEach (e :: es) X.env = (false, eval e X.env) :: starEach es X.env := by rfl) (hpl : (backTo pos (starEach es X.env)).any (·.1) = false := by rfl) (hK : X.K = K := by rfl) :
    DN X c (.Call (.Name x p) (e :: es) [] pos) (tMake C (spO K m FO) dvs E0 tl) (mMake C FO dds ml) := ⟨by rw [← hK]; exact pe_make M G hr hg hm hb hv pass0 ha.p hdb he hpl, r_make hF hd ha.r⟩
theorem k_nil : DK X c [] tNil aNil := ⟨pk_nil, r_anil⟩
theorem k_cons {nm : Option Str} (he : DE X c e te me) (hr : DK X c kws tk mk) : DK X c (⟨nm, e, kpos⟩ :: kws) (tCons te tk) (aCons me mk) := ⟨pk_cons he.p hr.p, r_acons he.r hr.r⟩
theorem d_callK0 (is : List Nat) (G : FnOk X.prog X.w X.K X.mg X.base CX0 k f fd ps (spF X.K m F)) (hF : Takes m F) (hr : Room k X.A) (hm : X.mg x = some (.ref f)) (hk : PySem.W.keepIn X.K (.ref f) = true) (hb : KBn X.K fd ps 0 ks (fun us ws => pick is (us ++ ws)) (fun vs zs => pick is (vs ++ zs))) (hkw : DK X c kws tk mk)
    (hg : Gl X x := by rfl) (hall : (backToKw pos (keywordEach kws X.env)).all (·.1.isSome) = true := by rfl) (hks : (backToKw pos (keywordEach kws X.env)).filterMap (·.1) = ks := by rfl) (hdb : (x == ("__debug__" : Str)) = false := by decide)
    (hpl : ((backTo pos (starEach [] X.env)).any (·.1) || (backToKw pos (keywordEach kws X.env)).any (·.1.isNone)) = false := by rfl) (hK : X.K = K := by rfl) :
    DE X c (.Call (.Name x p) [] kws pos) (tCallN 0 ks.length (spF K m F) (fun vs zs => pick is (vs ++ zs)) E0 tNil tk) (mKw is 0 ks.length F aNil mk) := ⟨by rw [← hK]; exact pe_callN0 G hr hg hm hk hb pass0 hkw.p hall hks hdb hpl, r_callK hF r_anil hkw.r⟩
end
end DL
set_option autoImplicit false
namespace DL
open PySem PySem.Spec PyProof.Rows L2
def str? : D → Option Str
  | .str x => some x
  | _ => none
def mJs : List (Mo D) → Str → Mo Str
  | [], acc => mC acc
  | m :: ms, acc => mBd m fun d => mBd (mL (str? d)) fun y => if (acc ++ y).length ≤ sizeLine then mJs ms (acc ++ y) else fun _ => none
inductive DJ (X : Cx) {K : PySem.W.Frag} (c : Ctx K) : List Expr → List TE → List (Mo D) → Prop where
  | nil : DJ X c [] [] []
  | cons {e : Expr} {t : TE} {m : Mo D} {es : List Expr} {ts : List TE} {ms : List (Mo D)} (h : DE X c e t m) (r : DJ X c es ts ms) : DJ X c (e :: es) (t :: ts) (m :: ms)
theorem DJ.p {X : Cx} {K : PySem.W.Frag} {c : Ctx K} : ∀ {es : List Expr} {ts : List TE} {ms : List (Mo D)}, DJ X c es ts ms → PJ X es ts
  | _, _, _, .nil => .nil
  | _, _, _, .cons h r => .cons h.p r.p
theorem str_of {K : PySem.W.Frag} {M : Addr → Prop} {H : Hp} {v : V} {d : D} {b : Str} (h : Dat K M H v d) (e : str? d = some b) : v = .str b := by
  cases h <;> simp [str?] at e
  subst e; rfl
theorem DJ.r {X : Cx} {K : PySem.W.Frag} {c : Ctx K} {es : List Expr} {ts : List TE} {ms : List (Mo D)} (j : DJ X c es ts ms) : ∀ (acc : Str) (M : Addr → Prop) (σ : L2.St) (H : Hp) (ρ : Cs), Sta c M σ H ρ → ∀ y ρ', mJs ms acc ρ = some (y, ρ') → ∀ Q : Str → Hp → Prop, (∀ M' H', Es σ M H ρ σ M' H' ρ' → Sta c M' σ H' ρ' → Q y H') → tJs ts acc σ H Q := by
  induction j with
  | nil =>
    intro acc M σ H ρ S y ρ' hm Q q
    obtain ⟨e1, e2⟩ := mC_some (show mC acc ρ = some (y, ρ') from hm)
    subst e1 e2
    exact q M H .refl S
  | cons h r ih =>
    intro acc M σ H ρ S y ρ' hm Q q
    obtain ⟨d, ρ1, h1, hm1⟩ := mBd_some (show mBd _ _ ρ = some (y, ρ') from hm)
    obtain ⟨z, ρ2, h2, hm2⟩ := mBd_some hm1
    obtain ⟨hz, e2⟩ := mL_some h2
    subst e2
    split at hm2
    case isFalse => cases hm2
    rename_i hl
    refine h.r M σ H ρ S d _ h1 _ fun M1 v H1 E1 S1 dv => ⟨z, str_of dv hz, hl, ?_⟩
    exact ih _ M1 σ H1 _ S1 y ρ' hm2 Q fun M2 H2 E2 S2 => q M2 H2 (E1.trans E2 S.kind) S2
structure DTs (X : Cx) {K : PySem.W.Frag} (c : Ctx K) (ifs : List Expr) (t : TT) (m : Mo Bool) : Prop where
  p : PTs X ifs t
  r : RTt c t m
section
variable {X : Cx} {K : PySem.W.Frag} {c : Ctx K} {elt tg iter e : Expr} {ifs : List Expr} {scope : Scope} {own : List (Str × Nat)} {pos spos : Pos} {wi : TI} {g : TG} {tt : TT} {te : TE} {mi : Mo (List D)} {mg : D → Mo Unit} {mt : Mo Bool} {me : Mo D}
theorem t_nil : DTs X c [] tYes (mC true) := ⟨pts_nil, r_yes⟩
theorem t_one (h : DT X c e tt mt) : DTs X c [e] tt mt := ⟨pts_one h.p, h.r⟩
/-- what a comprehension's block is -/
structure DBlk (X : Cx) {K : PySem.W.Frag} (c : Ctx K) (scope : Scope) (tg elt : Expr) (ifs : List Expr) (g : TG) (tt : TT) (te : TE) (mg : D → Mo Unit) (mt : Mo Bool) (me : Mo D) : Prop where
  g : ∀ (s : Shared) (H : Hp) (C : Addr) (cl : List (Str × Addr)) (fp : List Addr), DG (X.blk s H scope (compEnvC scope cl C X.env) fp) c tg g mg
  t : ∀ (s : Shared) (H : Hp) (C : Addr) (cl : List (Str × Addr)) (fp : List Addr), DTs (X.blk s H scope (compEnvC scope cl C X.env) fp) c ifs tt mt
  e : ∀ (s : Shared) (H : Hp) (C : Addr) (cl : List (Str × Addr)) (fp : List Addr), DE (X.blk s H scope (compEnvC scope cl C X.env) fp) c elt te me
theorem r_blk (hi : RIt c wi mi) (ho : OwnG g (own.map (·.2))) (B : DBlk X c scope tg elt ifs g tt te mg mt me) : RNw c (tLc wi g tt te (own.map (·.2))) (mLc (own.map (·.2)) mi mg mt me) :=
  r_lc hi (B.g {} (fun _ => none) 0 [] []).r ho (B.t {} (fun _ => none) 0 [] []).r (B.e {} (fun _ => none) 0 [] []).r
theorem d_lc (hc : X.calm = true) (hN : X.N.Nodup) (hi : DI X c tg iter wi mi) (ok : BlkOk X.N X.env.scope scope own) (ho : OwnG g (own.map (·.2))) (B : DBlk X c scope tg elt ifs g tt te mg mt me) (hs : ∀ x, foldedSetIterable iter X.env x = pure x := by intro _; rfl) :
    DN X c (.ListComp elt [⟨tg, iter, ifs, 0⟩] scope pos) (tLc wi g tt te (own.map (·.2))) (mLc (own.map (·.2)) mi mg mt me) :=
  ⟨pe_lc hc hN hi.p ok (fun s H C cl fp => (B.g s H C cl fp).p) (fun s H C cl fp => (B.t s H C cl fp).p) (fun s H C cl fp => (B.e s H C cl fp).p) hs, r_blk hi.r ho B⟩
end
def MonoG (g : TG) : Prop := ∀ v σ H (Q Q' : L2.St → Hp → Prop), (∀ s h, Q s h → Q' s h) → g v σ H Q → g v σ H Q'
def MonoGs (g : TGs) : Prop := ∀ v σ H (Q Q' : L2.St → Hp → Prop), (∀ s h, Q s h → Q' s h) → g v σ H Q → g v σ H Q'
theorem mono_nil : MonoGs gNil := fun _ _ _ _ _ h q => ⟨q.1, h _ _ q.2⟩
theorem mono_cons {g : TG} {gs : TGs} (a : MonoG g) (b : MonoGs gs) : MonoGs (gCons g gs) := fun v σ H Q Q' h q => by
  obtain ⟨x, r, e, q⟩ := q
  exact ⟨x, r, e, a _ _ _ _ _ (fun s h' z => b _ _ _ _ _ h z) q⟩
theorem mono_tup {K : PySem.W.Frag} {n : Nat} {gs : TGs} (b : MonoGs gs) : MonoG (gTup K n gs) := fun v σ H Q Q' h q => by
  obtain ⟨a, xs, h1, h2, h3, q⟩ := q
  exact ⟨a, xs, h1, h2, h3, b _ _ _ _ _ h q⟩
theorem own_con {g : TG} {gs : TGs} {vs : List Nat} (h : OwnG g vs ∧ MonoG g) (hs : OwnGs gs vs ∧ MonoGs gs) : OwnGs (gCons g gs) vs ∧ MonoGs (gCons g gs) := ⟨own_cons h.1 hs.1 h.2, mono_cons h.2 hs.2⟩
theorem own_nam {i : Nat} {vs : List Nat} (h : i ∈ vs) : OwnG (gName i) vs ∧ MonoG (gName i) := ⟨own_name h, mono_name⟩
theorem own_ni {vs : List Nat} : OwnGs gNil vs ∧ MonoGs gNil := ⟨own_nil, mono_nil⟩
theorem own_tu {K : PySem.W.Frag} {n : Nat} {gs : TGs} {vs : List Nat} (h : OwnGs gs vs ∧ MonoGs gs) : OwnG (gTup K n gs) vs ∧ MonoG (gTup K n gs) := ⟨own_tup h.1, mono_tup h.2⟩
end DL
namespace PySem.W
open PySem PySem.Spec PySem.Calls PyProof.Rows
section
variable {prog : Program} {w : World} {A : Around} {E : Value → Shared → Prop} {s : Shared}
theorem rev_items (xs : Array Value) : ((List.range xs.size).filterMap fun (k : Nat) => xs[(((xs.size : Int) - 1) + (k : Int) * (-1)).toNat]?) = xs.toList.reverse := by
  have h := congrArg Array.toList (krv_pick xs)
  unfold slicePick at h
  rw [krv_bounds] at h
  rw [show xs.toList.reverse.toArray.toList = xs.toList.reverse from by simp] at h
  rw [← h]
  show _ = ((sliceRange ((xs.size : Int) - 1) (-1) (-1)).filterMap (xs[·]?))
  rw [krv_sliceRange, List.filterMap_map]
  have go : ∀ l : List Nat, (∀ k ∈ l, k < xs.size) → (l.filterMap fun (k : Nat) => xs[(((xs.size : Int) - 1) + (k : Int) * (-1)).toNat]?) = l.filterMap ((fun x => xs[x]?) ∘ fun k => xs.size - 1 - k) := by
    intro l
    induction l with
    | nil => intro _; rfl
    | cons k l ih =>
      intro h
      have hk := h k List.mem_cons_self
      rw [List.filterMap_cons, List.filterMap_cons, ih fun j hj => h j (List.mem_cons_of_mem _ hj)]
      have e : xs[(((xs.size : Int) - 1) + (k : Int) * (-1)).toNat]? = ((fun x => xs[x]?) ∘ fun k => xs.size - 1 - k) k := by
        show _ = xs[xs.size - 1 - k]?
        rw [show (((xs.size : Int) - 1) + (k : Int) * (-1)).toNat = xs.size - 1 - k by omega]
      rw [e]
  exact go _ fun k hk => List.mem_range.mp hk
theorem applied_back {sl : Addr} {k : Tok} {n : Nat} {Q : Int × Int × Nat → Shared → Prop} (hs : s.heap.IsSliceOf sl .none .none (.int (-1) k)) (h : Q ((n : Int) - 1, -1, n) s) : wpAny (model prog w) A (Builtin.Slice.sliceApplied (.ref sl) (pure (n : Int))) Q E s := by
  obtain ⟨os, hos, _, hds⟩ := id hs
  have f0 : ∀ {Q : Value → Shared → Prop}, Q .none s → wpAny (model prog w) A (field (.ref sl) 0) Q E s := fun q => wpAny_field hos hds (x := .none) rfl q
  have f1 : ∀ {Q : Value → Shared → Prop}, Q .none s → wpAny (model prog w) A (field (.ref sl) 1) Q E s := fun q => wpAny_field hos hds (x := .none) rfl q
  have f2 : ∀ {Q : Value → Shared → Prop}, Q (.int (-1) k) s → wpAny (model prog w) A (field (.ref sl) 2) Q E s := fun q => wpAny_field hos hds (x := .int (-1) k) rfl q
  unfold Builtin.Slice.sliceApplied Builtin.Slice.sliceFields
  refine wpAny_bind (wpAny_bind (f0 (wpAny_bind (f1 (wpAny_bind (f2 (wpAny_pure ?_)))))))
  refine wpAny_bind (slicePart_int ?_)
  show wpAny _ _ (if ((-1 : Int) == 0) = true then _ else _) _ _ s
  rw [if_neg (by decide)]
  have e2 : Builtin.Slice.slicePlaces ((n : Int) - 1) (-1) (-1) = n := by
    unfold Builtin.Slice.slicePlaces
    rw [if_neg (by decide)]
    by_cases z : (n : Int) - 1 > -1
    · rw [if_pos z, show (-(-1 : Int)) = 1 from rfl, Int.ediv_one]
      omega
    · rw [if_neg z]
      omega
  refine wpAny_bind (slicePart_none (wpAny_bind (slicePart_none (wpAny_bind (wpAny_pure ?_)))))
  show wpAny _ _ (pure ((n : Int) - 1, (-1 : Int), Builtin.Slice.slicePlaces ((n : Int) - 1) (-1) (-1))) _ _ s
  rw [e2]
  exact wpAny_pure h
theorem item_back {t sl : Addr} {items : Array Value} {k : Tok} {Q : Value → Shared → Prop} (ht : IsTup s.heap t items) (hs : s.heap.IsSliceOf sl .none .none (.int (-1) k)) (hz : items.size ≤ sizeLine)
    (h : Q (.ref s.heap.objs.size) { s with heap := s.heap.push { cls := .type "tuple", data := .seq items.toList.reverse.toArray } }) : wpAny (model prog w) A (getItem (.ref t) (.ref sl)) Q E s := by
  have fits : sizeOk (.seq items.toList.reverse.toArray) := by
    show items.toList.reverse.toArray.size ≤ sizeLine
    simpa using hz
  obtain ⟨os, hos, hcs, _⟩ := id hs
  have isSl : s.TypeIs (.ref sl) "slice" := ⟨os, hos, hcs⟩
  unfold getItem
  have key : ∀ R : Value → Shared → Prop, R (.ref s.heap.objs.size) { s with heap := s.heap.push { cls := .type "tuple", data := .seq items.toList.reverse.toArray } } →
      wpAny (model prog w) A.in1 (Builtin.«tuple.__getitem__» ⟨[.ref t, .ref sl], []⟩) (fun f s' => ∃ v, f = Fin.done (.ret v) ∧ R v s') E s := by
    intro R h
    show wpAny _ _ (Builtin.Tuple.tupleItemsOf (.ref t) >>= _) _ _ s
    refine wpAny_bind (tupleItemsOf_ ht (wpAny_bind (wpAny_typeOf isSl ?_)))
    rw [if_pos (by decide)]
    refine wpAny_bind (applied_back hs ?_)
    show wpAny _ _ (if (((items.size : Int) - 1) == 0 && (-1 : Int) == 1 && items.size == items.size) = true then _ else _) _ _ s
    rw [if_neg (by rw [show ((-1 : Int) == 1) = false from rfl, Bool.and_false, Bool.false_and]; exact Bool.false_ne_true), rev_items]
    first
      | exact wpAny_bind (m := Builtin.Tuple.tupleExact _) (wpAny_newObj_type (wpAny_pure ⟨_, rfl, h⟩) fits)
      | exact wpAny_bind (wpAny_bind (m := Builtin.Tuple.tupleExact _) (wpAny_newObj_type (wpAny_pure ⟨_, rfl, h⟩) fits))
      | exact wpAny_bind (wpAny_bind (m := Builtin.Tuple.tupleExact _) (wpAny_newObj_type (wpAny_pure (wpAny_pure ⟨_, rfl, h⟩)) fits))
      | exact wpAny_bind (m := Builtin.Tuple.tupleExact _) (wpAny_newObj_type (wpAny_bind (wpAny_pure (wpAny_pure ⟨_, rfl, h⟩))) fits)
  refine wpAny_holding (wpAny_bind (wpAny_sequenceKey ht.typeIs (by decide) (wpAny_bind ?_)))
  refine wpAny_callSpecial?_slot (name := Str.ofString "__getitem__") ht.typeIs slot_tuple_getitem ?_
  refine wpAny_call_entry slot_tuple_getitem ht.typeIs PyProof.Rows.entry_tuple_getitem (key _ ?_) (PyProof.Rows.args_tuple_getitem _ _)
  exact wpAny_pure h
end
end PySem.W
namespace L2
open PySem PySem.Spec PyProof.Rows
def tRevT (K : PySem.W.Frag) (te : TE) : TE := fun σ H Q => te σ H fun x H1 => ∃ a xs, x = .ref a ∧ SqT K H1 a xs ∧ ∀ p, H1 p = none → Q (.ref p) (upd H1 p (.tup xs.reverse))
theorem pe_revT {X : Cx} {e : Expr} {te : TE} {k : Nat} {p1 p2 p3 pos : Pos} (he : PE X e te) : PE X (.Subscript e (.Slice none none (some (.UnaryOp .USub (.Constant (.int 1) k p1) p2)) p3) pos) (tRevT X.K te) := by
  constructor
  intro pins s σ H Q I h
  refine Subscript_ (thn (he.run pins s σ H _ I h) fun v s1 z => ?_)
  obtain ⟨x, H1, I1, r1, a, xs, ex, hx, q⟩ := z
  subst ex
  cases r1
  have step : PO X (some (.UnaryOp .USub (.Constant (.int 1) k p1) p2)) (tPart (tUn (rU fun i => .int (-i)) (tC (.int 1)))) := po_some (pe_un un_neg pe_int)
  refine wpAny_Slice (thn (po_none.run pins s1 σ H1 (fun o H2 => o = none ∧ H2 = H1) I1 ⟨rfl, rfl⟩) fun vl s2 z2 => ?_)
  obtain ⟨l, H2, I2, pl, rfl, rfl⟩ := z2
  refine thn (po_none.run pins s2 σ H2 (fun o H3 => o = none ∧ H3 = H2) I2 ⟨rfl, rfl⟩) fun vu s3 z3 => ?_
  obtain ⟨u, H3, I3, pu, rfl, rfl⟩ := z3
  refine thn (step.run pins s3 σ H3 (fun o H4 => o = some (-1) ∧ H4 = H3) I3 ⟨1, rfl, -1, rfl, rfl, rfl⟩) fun vs s4 z4 => ?_
  obtain ⟨o, H4, I4, ps, rfl, rfl⟩ := z4
  cases pl
  cases pu
  cases ps with
  | int _ t =>
    have I5 : Inv X pins σ H4 { s4 with heap := s4.heap.push { cls := .type "slice", data := .fields #[.none, .none, .int (-1) t] } } := I4.kept (t' := s4.toks) fun b ob z => Heap.get?_push_of_some _ z
    obtain ⟨its, r, ht, hz⟩ := I5.tuple hx
    have hlen := r.length
    show wpAny (model X.prog X.w) X.A (subscriptTail e (.Slice none none (some (.UnaryOp .USub (.Constant (.int 1) k p1) p2)) p3) (.ref a) (.ref s4.heap.objs.size)) (EP X pins σ Q) X.xe { s4 with heap := s4.heap.push { cls := .type "slice", data := .fields #[.none, .none, .int (-1) t] } }
    refine tail_any (ops := [.ref a, .ref s4.heap.objs.size]) ht.typeIs PyProof.Rows.slot_tuple_getitem.lookup ?_ (by with_unfolding_all rfl)
    refine PySem.W.item_back ht (Heap.IsSliceOf.new _ .none .none (.int (-1) t)) (by rw [List.size_toArray]; omega) ?_
    rw [show its.toArray.toList = its from by simp]
    refine ⟨.ref _, _, I5.laid (t' := s4.toks) (o := .tup xs.reverse) (fun b ob z => Heap.get?_push_of_some _ z) (Nat.le_refl _) ?_, rfl, q _ (I5.hok.fresh (Nat.le_refl _))⟩
    exact ⟨by rw [List.length_reverse]; exact hz, _, r.reverse, IsTup.new _ _⟩
end L2
set_option autoImplicit false
namespace DL
open PySem PySem.Spec PyProof.Rows L2
theorem hu100 {k : Nat} {A : Around} (hr : Room k A) : A.units + 100 < cLine := by have := hr.un; omega
theorem hu64_of {k : Nat} {A : Around} (hr : Room k A) : A.units + 64 < cLine := by have := hr.un; omega
theorem hu1_of {k : Nat} {A : Around} (hr : Room k A) : A.units + 1 < cLine := by have := hr.un; omega
/-- how often a while turns at most: the int in slot i, and once more -/
def fuelI (i : Nat) (ρ : Cs) : Nat := match ρ[i]? with
  | some (.dat (.int n)) => n.natAbs + 1
  | _ => 0
def alikes (ps : List PyData) : Bool := ps.all fun a => ps.all fun b => PySem.W.alike a b
def hasHead : PyData → Bool
  | .tuple (_ :: _) => true
  | _ => false
def noTup : PyData → Bool
  | .tuple _ | .none => false
  | _ => true
def sortable (ps : List PyData) : Bool := ps.all hasHead || ps.all noTup
def lowP (ps : List PyData) : Bool := ps.all fun p => decide (p.depth ≤ 64)
theorem alikes_of {ps : List PyData} (h : alikes ps = true) : PySem.W.AllAlike ps := fun d hd e he => by
  have := List.all_eq_true.mp h d hd
  exact List.all_eq_true.mp this e he
theorem sortable_of {ps : List PyData} (h : sortable ps = true) : PySem.W.Sortable ps := by
  unfold sortable at h
  rcases Bool.or_eq_true_iff.mp h with h | h
  · refine .inl fun d hd => ?_
    have := List.all_eq_true.mp h d hd
    unfold hasHead at this
    split at this
    · exact ⟨_, _, rfl⟩
    · cases this
  · refine .inr fun d hd => ?_
    have := List.all_eq_true.mp h d hd
    unfold noTup at this
    split at this
    · cases this
    · cases this
    · rename_i h1 h2
      exact ⟨h2, fun xs e => h1 xs e⟩
/-- Python's order of data -/
abbrev leD : D → D → Bool := PySem.W.dataLe false toP
def dSorted : List D → Option D
  | [.lst ds] => if plains ds = true ∧ alikes (toPs ds) = true ∧ sortable (toPs ds) = true ∧ lowP (toPs ds) = true ∧ ds.length ≤ sizeLine then some (.lst (ds.mergeSort leD)) else none
  | _ => none
theorem toPs_map : ∀ ds : List D, toPs ds = ds.map toP
  | [] => by simp [toPs]
  | d :: r => by rw [toPs, toPs_map r, List.map_cons]
theorem plains_mem : ∀ {ds : List D} {d : D}, plains ds = true → d ∈ ds → plain d = true
  | e :: r, d, h, m => by
    simp only [plains, Bool.and_eq_true] at h
    rcases List.mem_cons.mp m with rfl | m
    · exact h.1
    · exact plains_mem h.2 m
theorem zip_map2 {K : PySem.W.Frag} {M : Addr → Prop} {H : Hp} : ∀ {xs : List V} {ds : List D}, DatAll K M H xs ds → (xs.zip ds).map (·.2) = ds ∧ (xs.zip ds).map (·.1) = xs ∧ ∀ p ∈ xs.zip ds, Dat K M H p.1 p.2
  | _, _, .nil => ⟨rfl, rfl, fun _ h => by simp at h⟩
  | _, _, .cons h t => by
    obtain ⟨a, b, c⟩ := zip_map2 t
    refine ⟨by rw [List.zip_cons_cons, List.map_cons, a], by rw [List.zip_cons_cons, List.map_cons, b], fun p hp => ?_⟩
    rcases List.mem_cons.mp hp with rfl | hp
    · exact h
    · exact c p hp
theorem each_zip {K : PySem.W.Frag} {M : Addr → Prop} {H : Hp} : ∀ {xs : List V} {ds : List D} {us : List Value}, DatAll K M H xs ds → Vals xs us → PySem.W.EachIs (fun u (b : V × D) => RelV b.1 u) us (xs.zip ds)
  | _, _, _, .nil, .nil => .nil
  | _, _, _, .cons _ t, .cons r rs => .cons r (each_zip t rs)
theorem each_vals : ∀ {bs : List (V × D)} {us : List Value}, PySem.W.EachIs (fun u (b : V × D) => RelV b.1 u) us bs → Vals (bs.map (·.1)) us
  | [], _, .nil => .nil
  | _ :: _, _, .cons r t => .cons r (each_vals t)
theorem dat_of_mem {K : PySem.W.Frag} {M : Addr → Prop} {H : Hp} : ∀ {bs : List (V × D)}, (∀ p ∈ bs, Dat K M H p.1 p.2) → DatAll K M H (bs.map (·.1)) (bs.map (·.2))
  | [], _ => .nil
  | b :: bs, h => .cons (h b List.mem_cons_self) (dat_of_mem fun p hp => h p (List.mem_cons_of_mem _ hp))
theorem call_SORTED {X : Cx} (hu : X.A.units + 100 < cLine) : CallR X (.builtin "sorted") (rCN X.K dSorted) := by
  intro pins s σ H xs us Q I r h
  obtain ⟨M, ds, z, k, hd, hg, q⟩ := h
  unfold dSorted at hg
  split at hg <;> try (cases hg; done)
  rename_i ds
  obtain ⟨⟨h1, h2, h3, h4, h5⟩, rfl⟩ := if_some hg
  obtain ⟨v, rfl, hv⟩ := one_of hd
  obtain ⟨u, rfl, ru⟩ := vals1 r
  cases hv with
  | @lst a vs _ n hH hx =>
    cases ru
    obtain ⟨its, rv, pl, hz⟩ := I.list (SqL.of hH)
    obtain ⟨z1, z2, z3⟩ := zip_map2 hx
    have em : (vs.zip ds).map (fun b => toP b.2) = toPs ds := by
      rw [toPs_map, ← z1, List.map_map, z1]
      rfl
    refine PySem.W.sorted_data (bs := vs.zip ds) (enc := fun b => toP b.2) (R := fun u b => RelV b.1 u) pl.isList (each_zip hx rv) ?_ (by rw [em]; exact alikes_of h2) (by rw [em]; exact sortable_of h3) ?_ ?_ fun out hl e => ?_
    · -- they read as their data
      refine (PySem.W.each_mem (each_zip hx rv)).mono fun u b hb => ?_
      exact (z3 b hb.2).reads I b.2 b.1 u (plains_mem h1 (by rw [← z1]; exact List.mem_map.mpr ⟨b, hb.2, rfl⟩)) hb.1
    · have : (vs.zip ds).length = ds.length := by rw [← z1, List.length_map, z1]
      rw [this]; exact h5
    · intro b hb
      have : toP b.2 ∈ toPs ds := by rw [← em]; exact List.mem_map.mpr ⟨b, hb, rfl⟩
      have := of_decide_eq_true (List.all_eq_true.mp h4 _ this)
      omega
    · have es : (((vs.zip ds).mergeSort (PySem.W.dataLe false fun b : V × D => toP b.2)).map (·.2)) = ds.mergeSort leD := by
        refine (List.map_mergeSort (r := PySem.W.dataLe false fun b : V × D => toP b.2) (s := leD) (f := fun b : V × D => b.2) fun a _ b _ => rfl).trans ?_
        rw [z1]
      have ev := each_vals e
      have hall : DatAll X.K M H (((vs.zip ds).mergeSort (PySem.W.dataLe false fun b : V × D => toP b.2)).map (·.1)) (ds.mergeSort leD) := by
        rw [← es]
        exact dat_of_mem fun p hp => z3 p (List.mem_mergeSort.mp hp)
      obtain ⟨m, hm⟩ := PyProof.Rows.sortedAll_at s.heap its out.toArray
      have fresh := I.hok.fresh (Nat.le_succ s.heap.objs.size)
      have hlen : (((vs.zip ds).mergeSort (PySem.W.dataLe false fun b : V × D => toP b.2)).map (·.1)).length ≤ sizeLine := by
        rw [hall.length, List.length_mergeSort]; exact h5
      refine ⟨.ref (s.heap.objs.size + 1), upd H (s.heap.objs.size + 1) (.lst (((vs.zip ds).mergeSort (PySem.W.dataLe false fun b : V × D => toP b.2)).map (·.1))), I.laid (t' := s.toks) (fun b o e => PyProof.Rows.sortedAll_old e) (Nat.le_succ _) ⟨hlen, out, m, ev, hm⟩, rfl, ?_⟩
      exact q _ _ _ fresh (same_new fresh) upd_same (.lst hall)
def dRevT : D → Option D
  | .tup ds => some (.tup ds.reverse)
  | _ => none
def aStar (a : Mo D) (r : Mo (List D)) : Mo (List D) := mBd a fun x => mBd (mL (match x with
  | .tup ds => some ds
  | .lst ds => some ds
  | _ => none)) fun ds => mBd r fun ys => mC (ds ++ ys)
section
variable {X : Cx} {K : PySem.W.Frag} {c : Ctx K} {a b e : Expr} {es : List Expr} {pos : Pos} {ta te : TE} {ma me : Mo D} {tl : TA} {ml : Mo (List D)}
theorem r_revT (h : REv c ta ma) : REv c (tRevT K ta) (mUn dRevT ma) := by
  intro M σ H ρ S d ρ' hm Q q
  obtain ⟨x, ρ1, h1, hm1⟩ := mBd_some hm
  obtain ⟨hg, e⟩ := mL_some hm1
  subst e
  refine h M σ H ρ S x _ h1 _ fun M1 v H1 E1 S1 dv => ?_
  cases x <;> try (simp [dRevT] at hg; done)
  cases hg
  cases dv with
  | tup hH hx =>
    refine ⟨_, _, rfl, hH, fun p hp => ?_⟩
    have t := dat_tup hp hx.reverse
    exact q M1 _ _ (E1.trans (.same t.1) S.kind) (S1.same t.1) t.2
theorem d_revT {k : Nat} {kk} {p1 p2 p3 : Pos} (h : DE X c e ta ma) (hK : X.K = K := by rfl) : DE X c (.Subscript e (.Slice none none (some (.UnaryOp .USub (.Constant (.int 1) kk p1) p2)) p3) pos) (tRevT K ta) (mUn dRevT ma) := ⟨by rw [← hK]; exact pe_revT h.p, r_revT h.r⟩
theorem r_astar (ha : REv c ta ma) (hr : RAv c tl ml) : RAv c (StX.tStar K ta tl) (aStar ma ml) := by
  intro M σ H ρ S ds ρ' hm Q q
  obtain ⟨x, ρ1, h1, hm1⟩ := mBd_some hm
  obtain ⟨es, ρ2, h2, hm2⟩ := mBd_some hm1
  obtain ⟨hg, e⟩ := mL_some h2
  subst e
  obtain ⟨ys, ρ3, h3, hm3⟩ := mBd_some hm2
  obtain ⟨e1, e2⟩ := mC_some hm3
  subst e1 e2
  refine ha M σ H ρ S x _ h1 _ fun M1 v H1 E1 S1 dv => ?_
  split at hg <;> try (cases hg; done)
  · cases hg
    cases dv with
    | tup hH hx => exact ⟨_, _, rfl, .inl hH, hr M1 σ H1 _ S1 ys _ h3 _ fun M2 vs H2 E2 S2 d2 => q M2 _ H2 (E1.trans E2 S.kind) S2 ((hx.ev S1.kind E2.ev).append d2)⟩
  · cases hg
    cases dv with
    | lst n hH hx => exact ⟨_, _, rfl, .inr (SqL.of hH), hr M1 σ H1 _ S1 ys _ h3 _ fun M2 vs H2 E2 S2 d2 => q M2 _ H2 (E1.trans E2 S.kind) S2 ((hx.ev S1.kind E2.ev).append d2)⟩
theorem d_astar {p : Pos} (ha : DE X c e ta ma) (hr : DA X c es tl ml) (hs : starEach (.Starred e p :: es) X.env = (true, eval e X.env) :: starEach es X.env := by rfl) (hK : X.K = K := by rfl) : DA X c (.Starred e p :: es) (StX.tStar K ta tl) (aStar ma ml) := ⟨by rw [← hK]; exact StX.pa_star ha.p hr.p hs, r_astar ha.r hr.r⟩
/-- a tuple of the top -/
theorem d_gtu {x : Str} {a : Addr} {vs : List V} {ds : List D} (hm : X.mg x = some (.ref a)) (hq : ∀ H : Hp, SqT X.K H a vs) (h : ∀ M H, DatAll K M H vs ds) (hg : Gl X x := by rfl) (hd : (x == ("__debug__" : Str)) = false := by decide) (hK : X.K = K := by rfl) : DE X c (.Name x pos) (tC (.ref a)) (mC (.tup ds)) :=
  d_gd hm rfl (fun M H => .tup (by rw [← hK]; exact hq H) (h M H)) hg hd
/-- a built-in that gives a new object -/
theorem d_bltN {x : Str} {id : String} {g : List D → Option D} {p : Pos} (hc : CallR X (.builtin id) (rCN X.K g)) (hm : X.mg x = none) (hv : bootBuiltins x = some (.builtin id)) (ha : DA X c (e :: es) tl ml) (hg : Gl X x := by rfl) (hn : x ≠ "__name__" := by decide) (hdb : (x == ("__debug__" : Str)) = false := by decide)
    (he : starEach (e :: es) X.env = (false, eval e X.env) :: starEach es X.env := by rfl) (hpl : (backTo pos (starEach es X.env)).any (·.1) = false := by rfl) (hK : X.K = K := by rfl) : DN X c (.Call (.Name x p) (e :: es) [] pos) (tCB (rCN K g) tl) (mFn g ml) := ⟨by rw [← hK]; exact pe_callB hc hg hm hv ha.p hn hdb he hpl, r_fnN ha.r⟩
variable {elts : List Expr} {kk : Nat} {tpos p : Pos}
theorem i_enumT (hm : X.mg "enumerate" = none) (ha : DA X c [e] tl ml) (hg : Gl X "enumerate" := by rfl) (hs : starEach [e] X.env = [(false, eval e X.env)] := by rfl) (hK : X.K = K := by rfl) : DI X c (.Tuple elts kk tpos) (.Call (.Name "enumerate" p) [e] [] pos) (iEnumT K tl) (iFn enumT? ml) := ⟨by rw [← hK]; exact pi_enumT hg hm ha.p hs, r_ienumT ha.r⟩
def seqS : D → Option (List D)
  | .str z => some (z.cps.toList.map fun c => D.str ⟨#[c]⟩)
  | _ => none
theorem i_str {tg : Expr} (h : DE X c e te me) : DI X c tg e (iStr te) (iSeq seqS me) := ⟨pi_str h.p, by
  intro M σ H ρ S ds ρ' hm R q
  obtain ⟨d, ρ1, h1, h2⟩ := mBd_some hm
  obtain ⟨h3, e⟩ := mL_some h2
  subst e
  refine h.r M σ H ρ S d _ h1 _ fun M' v H' E S' hd => ?_
  cases d <;> simp [seqS] at h3
  subst h3
  cases hd
  rename_i z
  refine ⟨z, rfl, q M' H' _ _ _ E S' ⟨by rw [List.length_map, Array.length_toList]; exact walk_str, fun _ _ _ => trivial, fun i M1 H1 x H2 e k hi y => ?_⟩⟩
  obtain ⟨rfl, c, hc, rfl⟩ := y
  exact ⟨.refl _, .str ⟨#[c]⟩, by rw [List.getElem?_map, Array.getElem?_toList, hc]; rfl, .str _⟩⟩
end
section
variable {X : Cx} {K : PySem.W.Frag} {c : Ctx K} {elt tg iter e : Expr} {es : List Expr} {ifs : List Expr} {scope : Scope} {own : List (Str × Nat)} {pos spos : Pos} {wi : TI} {g : TG} {tt : TT} {te : TE} {mi : Mo (List D)} {mg : D → Mo Unit} {mt : Mo Bool} {me : Mo D} {tl : TA} {ml : Mo (List D)}
/-- name = [..], never changed -/
theorem s_setLcD {i : Nat} {y : Str} {py : Pos} (hc : X.calm = true) (hN : X.N.Nodup) (hy : X.N[i]? = some y) (hyl : X.env.scope.names.lookup y = some .local)
    (hsw : swapsWith (.ListComp elt [⟨tg, iter, ifs, 0⟩] scope pos) (some (.Name y py)) spos.line X.env = pure true) (hi : DI X c tg iter wi mi) (ok : BlkOk X.N X.env.scope scope own) (ho : OwnG g (own.map (·.2))) (B : DBlk X c scope tg elt ifs g tt te mg mt me) (hs : ∀ x, foldedSetIterable iter X.env x = pure x := by intro _; rfl) :
    DS X c (.Assign [.Name y py] (.ListComp elt [⟨tg, iter, ifs, 0⟩] scope pos) spos) (tAsg (tLc wi g tt te (own.map (·.2))) (gName i)) (sSet i (mLc (own.map (·.2)) mi mg mt me)) :=
  ⟨ps_setLc hc hN hy hyl hsw hi.p ok (fun s H C cl fp => (B.g s H C cl fp).p) (fun s H C cl fp => (B.t s H C cl fp).p) (fun s H C cl fp => (B.e s H C cl fp).p) hs, r_set (r_blk hi.r ho B).ev i⟩
/-- i, .. = a, .. by way of a tuple -/
theorem s_parT {fs : List Bool} {is : List Nat} {n : Nat} {k1 k2 : Nat} {ts : List Expr} {pt pe : Pos} (hn : is.length = n) (ha : DF X c es tl fs ml) (hg : PGs X ts (gNames is)) (hc : X.calm = true := by rfl) (hz : n ≤ 1000 := by decide) (hl : (assignEach ts X.env).length = n := by rfl) (hst : (assignEach ts X.env).findIdx? (·.1) = none := by rfl)
    (hs : swapsWithSole [.Tuple ts k1 pt] (.Tuple es k2 pe) pos.line X.env = pure false := by rfl) (hw : swappedStores [.Tuple ts k1 pt] (.Tuple es k2 pe) X.env = pure none := by rfl) (h1 : (assignEach [.Tuple ts k1 pt] X.env).map (·.2) = [assign (.Tuple ts k1 pt) X.env] := by rfl) (hK : X.K = K := by rfl) :
    DS X c (.Assign [.Tuple ts k1 pt] (.Tuple es k2 pe) pos) (tAsg (tTup tl) (gTup K n (gNames is))) (sPar is fs ml) := ⟨by rw [← hK]; exact ps_asg (pe_tup ha.p) (pg_tup hc hg hl hst) hs hw h1, r_parT hn hz ha.r⟩
theorem s_app {y : Str} {p apos cpos : Pos} (i : Nat) (he : DE X c e te me) (hN : X.N[i]? = some y := by rfl) (hv : Vis X.env.scope y := by first | exact Or.inl rfl | exact Or.inr (Or.inl rfl) | exact Or.inr (Or.inr rfl)) (hd : (y == ("__debug__" : Str)) = false := by decide) (hcd : (y == ("__classdict__" : Str)) = false := by decide)
    (hbase : attributeBase (.Name y p) "append" X.env (eval (.Name y p) X.env) = eval (.Name y p) X.env := by rfl)
    (hfew : ((backTo cpos (starEach [e] X.env)).all (fun x => !x.1) && (backToKw cpos (keywordEach [] X.env)).all (fun x => x.1.isSome) && decide (([e] : List Expr).length + ([] : List Keyword).length + (if ([] : List Keyword).isEmpty then 0 else 1) < 30)) = true := by rfl)
    (hline : (apos.endLine == cpos.line) = true := by rfl) (hs : starEach [e] X.env = (false, eval e X.env) :: starEach [] X.env := by rfl) (hplain : (backTo cpos (starEach [] X.env)).any (·.1) = false := by rfl)
    (hsw : swapsWith (.Call (.Attribute (.Name y p) "append" apos) [e] [] cpos) none pos.line X.env = pure false := by rfl) (hK : X.K = K := by rfl) :
    DS X c (.Expr (.Call (.Attribute (.Name y p) "append" apos) [e] [] cpos) pos) (tDrop (tBM K "list" rAppend (tVar i) (tCons te tNil))) (sAppV i me) :=
  ⟨by rw [← hK]; exact ps_expr (pe_bm PySem.F.plainAttrs_list PySem.F.slot_list_append PySem.F.type_list_append mt_append (pv i hN hv hd hcd) (pa_cons he.p pa_nil hs) hbase hfew hline hs hplain) hsw, r_app he.r⟩
theorem g_put {y : Str} {i : Expr} {p : Pos} {ti : TE} {mi : Mo D} (j : Nat) (hi : DE X c i ti mi) (hN : X.N[j]? = some y := by rfl) (hv : Vis X.env.scope y := by first | exact Or.inl rfl | exact Or.inr (Or.inl rfl) | exact Or.inr (Or.inr rfl)) (hd : (y == ("__debug__" : Str)) = false := by decide) (hcd : (y == ("__classdict__" : Str)) = false := by decide)
    (ha : ∀ v, assign (.Subscript (.Name y p) i pos) X.env v = (do
      let ov ← holding [v] (eval (.Name y p) X.env)
      let iv ← holding [v, ov] (eval i X.env)
      standAt pos
      holding [v, ov, iv] (setItem ov iv v)
      release [v, ov, iv] []) := by intro _; rfl) : DG X c (.Subscript (.Name y p) i pos) (gSub (tVar j) ti rSetL) (gPut j mi) := ⟨pg_sub (pv j hN hv hd hcd) hi.p set_list ha, r_gput hi.r⟩
end
section
variable {P : Program} {w : World} {K : PySem.W.Frag} {mg : Str → Option Value} {base : Heap} {x qual : Str} {st : Stmt} {f : Addr} {fd : FuncData} {N ps : List Str} {k m n : Nat} {b : Mo Fl} {dvs : List V} {kws : List (Str × V)}
theorem okOD (F : FunD K x qual (defArgs st) (defBody st) (defScope st) dvs kws f fd) (S : FnScope N ps (defScope st)) (hm : ps.length = m) (hn : N.length = m + n) (B : BodyD P w K mg base qual st f N k b) : FnOk P w K mg base CX0 (k + 1) f fd ps (spO K m (runO m n b)) := by
  refine F.ok S (fun vs H Q E h => ?_) (fun cdv A outer s H vs Q E hr h => ?_)
  · obtain ⟨M, a, d0, xs, ds, r, d1, rfl, _, _, _, hd, hl, _⟩ := h
    rw [List.length_cons, hd.length, hl, hm]
  · obtain ⟨t, d⟩ := B cdv A outer s H E hr
    exact ⟨t, (d (fun _ => False) (fun _ => False) H).p.nox, run_O hn (fun M0 P0 H0 => (d M0 P0 H0).r) h⟩
end
end DL
set_option autoImplicit false
namespace DL
open PySem PySem.Spec PyProof.Rows L2
structure IsCT (K : PySem.W.Frag) (C : Addr) : Prop where
  cl : Cls K C
  ca : PySem.W.findIn K (.ref C) "__class__" = some (some (.builtin "object.__class__"))
  cn : PySem.W.specialIn K (.builtin "object.__class__") "__get__" = some (some (.builtin "getset_descriptor.__get__"))
  ct : PySem.W.takesIn K (.builtin "object.__class__") = some true
  cm : PySem.W.mroIn K C (.type "object") = some true
def dIsCT (C : Addr) : List D → Option D
  | [.ins B _ _, .cls E] => if E = C ∧ B = C then some (.bl true) else none
  | _ => none
theorem call_ISICT {X : Cx} {C : Addr} (hC : IsCT X.K C) : CallR X (.builtin "isinstance") (rC X.K (dIsCT C)) := by
  intro pins s σ H xs us Q I r h
  obtain ⟨M, ds, z, k, hd, hg, q⟩ := h
  unfold dIsCT at hg
  split at hg
  · obtain ⟨⟨rfl, rfl⟩, rfl⟩ := if_some hg
    obtain ⟨v, w, rfl, hv, hw⟩ := two_of hd
    cases hw
    cases hv with
    | ins n h _ _ => exact call_isi pins s σ H _ us Q I r ⟨_, .ref _, .ref _, .ref _, true, rfl, .own _, .base (.ins h hC.cl hC.ca hC.cn hC.ct hC.cm), by simp [PySem.W.kitOne], q _ H (.refl H) (.bl _)⟩
  · cases hg
end DL
set_option autoImplicit false
namespace DL
open PySem PySem.Spec PyProof.Rows L2
def key? : D → Option Key
  | .int i => some (.inl i)
  | .str x => some (.inr x)
  | _ => none
theorem key_kV {K : PySem.W.Frag} {M : Addr → Prop} {H : Hp} {v : V} {d : D} {k : Key} (h : Dat K M H v d) (e : key? d = some k) : v = kV k := by
  cases h <;> simp [key?] at e
  · subst e; rfl
  · subst e; rfl
structure Sw (d : Addr) (kvs : List (Key × V)) (H H' : Hp) : Prop where
  off : ∀ b, b ≠ d → H' b = H b
  l : Rd H d (.dK kvs)
  r : Rd H' d (.dK kvs)
section
variable {K : PySem.W.Frag} {M M' : Addr → Prop} {H H' : Hp} {d : Addr} {kvs : List (Key × V)}
theorem Rd.one {a : Addr} {u u' : HO} (h : Rd H a u) (h' : Rd H a u') (n : ∀ o w, u ≠ .frz o w) (n' : ∀ o w, u' ≠ .frz o w) : u = u' := by
  rcases h with h | ⟨o, h⟩ <;> rcases h' with h' | ⟨o', h'⟩ <;> rw [h] at h' <;> cases h' <;> first | rfl | exact absurd rfl (n _ _) | exact absurd rfl (n' _ _)
theorem Sw.rd (s : Sw d kvs H H') {a : Addr} {u : HO} (h : Rd H a u) (n : ∀ o w, u ≠ .frz o w) : Rd H' a u := by
  by_cases z : a = d
  · subst z
    rw [Rd.one h s.l n (fun o w q => by cases q)]
    exact s.r
  · unfold Rd at h ⊢
    rw [s.off a z]
    exact h
end
end DL
set_option autoImplicit false
namespace DL
open PySem PySem.Spec PyProof.Rows L2
end DL
set_option autoImplicit false
namespace DL
open PySem PySem.Spec PyProof.Rows L2
section
variable {ρ ρ1 ρ2 ρ3 : Cs} {a b e : Mo D} {t t' : Mo Bool} {l : Mo (List D)} {x y z d : D} {ds es : List D} {g : D → D → Option D} {u : D → Option D} {f : List D → Option D} {i : Nat} {p q : Bool}
theorem e_c {α : Type} {v : α} : mC v ρ = some (v, ρ) := rfl
theorem e_var (h : ρ[i]? = some (.dat d)) : mVar i ρ = some (d, ρ) := by unfold mVar; rw [h]
theorem e_varO (h : ρ[i]? = some (.own false d)) : mVar i ρ = some (d, ρ.set i (.dat d)) := by unfold mVar; rw [h]
theorem e_as {α : Type} {m : Mo α} {v w : α} (h : m ρ = some (v, ρ1)) (e : ρ1 = ρ2) (e' : v = w) : m ρ = some (w, ρ2) := by rw [h, e, e']
theorem e_bd {α β : Type} {m : Mo α} {k : α → Mo β} {v : α} {r : Option (β × Cs)} (h : m ρ = some (v, ρ1)) (hk : k v ρ1 = r) : mBd m k ρ = r := by unfold mBd; rw [h]; exact hk
theorem e_l {α : Type} {o : Option α} {v : α} (h : o = some v) : mL o ρ = some (v, ρ) := by unfold mL; rw [h]
theorem e_op (ha : a ρ = some (x, ρ1)) (hb : b ρ1 = some (y, ρ2)) (hg : g x y = some z) : mOp g a b ρ = some (z, ρ2) := e_bd ha (e_bd hb (e_l hg))
theorem e_un (ha : a ρ = some (x, ρ1)) (hg : u x = some z) : mUn u a ρ = some (z, ρ1) := e_bd ha (e_l hg)
theorem e_tst (ha : a ρ = some (.bl p, ρ1)) : mTst a ρ = some (p, ρ1) := e_bd ha (e_l rfl)
theorem e_anil : aNil ρ = some ([], ρ) := rfl
theorem e_acons (ha : a ρ = some (x, ρ1)) (hl : l ρ1 = some (ds, ρ2)) : aCons a l ρ = some (x :: ds, ρ2) := e_bd ha (e_bd hl rfl)
theorem e_tup (h : l ρ = some (ds, ρ1)) (hl : ds.length ≤ sizeLine) : mTup l ρ = some (.tup ds, ρ1) := e_bd h (e_l (if_pos hl))
theorem e_lst (h : l ρ = some (ds, ρ1)) (hl : ds.length ≤ sizeLine) : mLst l ρ = some (.lst ds, ρ1) := e_bd h (e_l (if_pos hl))
theorem e_fn (h : l ρ = some (ds, ρ1)) (hg : f ds = some z) : mFn f l ρ = some (z, ρ1) := e_bd h (e_l hg)
theorem e_chain {h : D → D → Option D} {c : Mo D} (ha : a ρ = some (x, ρ)) (hb : b ρ = some (y, ρ)) (hg : g x y = some (.bl p)) (hc : c ρ = some (z, ρ)) (hh : h y z = some (.bl q)) : mChain g h a b c ρ = some (.bl (p && q), ρ) := by
  refine e_bd ha (e_bd hb (e_bd (e_l hg) (e_bd (e_l rfl) ?_)))
  cases p with
  | true => exact e_bd hc (e_l hh)
  | false => rfl
theorem e_notV (ha : a ρ = some (.bl p, ρ1)) : mNotV a ρ = some (.bl (!p), ρ1) := e_bd (e_tst ha) rfl
theorem e_andV (ha : a ρ = some (.bl p, ρ1)) (hb : b ρ1 = some (.bl q, ρ1)) : mAndV a b ρ = some (.bl (p && q), ρ1) := by
  refine e_bd (e_tst ha) ?_
  cases p with
  | true => exact hb
  | false => rfl
theorem e_orV (ha : a ρ = some (.bl p, ρ1)) (hb : b ρ1 = some (.bl q, ρ1)) : mOrV a b ρ = some (.bl (p || q), ρ1) := by
  refine e_bd (e_tst ha) ?_
  cases p with
  | true => rfl
  | false => exact hb
theorem e_not (ha : t ρ = some (p, ρ1)) : mNot t ρ = some (!p, ρ1) := e_bd ha rfl
theorem e_and (ha : t ρ = some (p, ρ1)) (hb : t' ρ1 = some (q, ρ1)) : mAnd t t' ρ = some (p && q, ρ1) := by
  refine e_bd ha ?_
  cases p with
  | true => exact hb
  | false => rfl
theorem e_or (ha : t ρ = some (p, ρ1)) (hb : t' ρ1 = some (q, ρ1)) : mOr t t' ρ = some (p || q, ρ1) := by
  refine e_bd ha ?_
  cases p with
  | true => rfl
  | false => exact hb
theorem e_if (ht : t ρ = some (p, ρ1)) (ha : p = true → a ρ1 = some (x, ρ2)) (hb : p = false → b ρ1 = some (y, ρ2)) : mIf t a b ρ = some (if p = true then x else y, ρ2) := by
  refine e_bd ht ?_
  cases p with
  | true => exact ha rfl
  | false => exact hb rfl
theorem e_if1 {r : Option (D × Cs)} (ht : t ρ = some (true, ρ1)) (ha : a ρ1 = r) : mIf t a b ρ = r := e_bd ht ha
theorem e_if0 {r : Option (D × Cs)} (ht : t ρ = some (false, ρ1)) (ha : b ρ1 = r) : mIf t a b ρ = r := e_bd ht ha
theorem e_no : mNo ρ = some (none, ρ) := rfl
theorem e_part {k : Int} (ha : a ρ = some (.int k, ρ1)) : mPart a ρ = some (some k, ρ1) := e_bd ha (e_bd (e_l rfl) rfl)
theorem e_sl {g : D → Option Int → Option Int → Option D} {lo hi : Option Int} {ml mh : Mo (Option Int)} (ha : a ρ = some (x, ρ1)) (h1 : ml ρ1 = some (lo, ρ2)) (h2 : mh ρ2 = some (hi, ρ3)) (hg : g x lo hi = some z) : mSl g a ml mh ρ = some (z, ρ3) := e_bd ha (e_bd h1 (e_bd h2 (e_l hg)))
theorem e_ixO {v : List D} {k : Int} (h0 : ρ[i]? = some (.own p (.lst v))) (hb : b ρ = some (.int k, ρ1)) (h1 : ρ1[i]? = some (.own q (.lst es))) (hx : atI es k = some z) : mIxV i b ρ = some (z, ρ1) := by
  unfold mIxV
  rw [h0]
  exact e_bd hb (by simp only [h1]; exact e_l hx)
theorem e_ixD (h0 : ρ[i]? = some (.dat x)) (hb : b ρ = some (y, ρ1)) (hg : dIx x y = some z) : mIxV i b ρ = some (z, ρ1) := by
  unfold mIxV
  rw [h0]
  exact e_op (e_var h0) hb hg
theorem e_fnPo (h0 : ρ[i]? = some (.own p x)) (hg : f [x] = some z) (hs : scal z = true) : mFnP f i ρ = some (z, ρ) := by
  unfold mFnP
  rw [h0]
  exact e_l (by rw [hg]; exact if_pos hs)
theorem e_fnPd (h0 : ρ[i]? = some (.dat x)) (hg : f [x] = some z) : mFnP f i ρ = some (z, ρ) := by
  unfold mFnP
  rw [h0]
  exact e_fn (e_acons (e_var h0) e_anil) hg
theorem e_rtO (ha : a ρ = some (x, ρ1)) (h0 : ρ1[i]? = some (.own p y)) (hg : g x y = some z) (hs : scal z = true) : mOpRt g a i ρ = some (z, ρ1) := by
  refine e_bd ha ?_
  simp only [h0]
  exact e_l (by rw [hg]; exact if_pos hs)
theorem e_rtD (ha : a ρ = some (x, ρ1)) (h0 : ρ1[i]? = some (.dat y)) (hg : g x y = some z) : mOpRt g a i ρ = some (z, ρ1) := by
  refine e_bd ha ?_
  simp only [h0]
  exact e_bd (e_var h0) (e_l hg)
theorem e_ltO (h0 : ρ[i]? = some (.own p d)) (hb : b ρ = some (y, ρ1)) (h1 : ρ1[i]? = some (.own q x)) (hg : g x y = some z) (hs : scal z = true) : mOpL g i b ρ = some (z, ρ1) := by
  unfold mOpL
  rw [h0]
  exact e_bd hb (by simp only [h1]; exact e_l (by rw [hg]; exact if_pos hs))
theorem e_ltD (h0 : ρ[i]? = some (.dat x)) (hb : b ρ = some (y, ρ1)) (hg : g x y = some z) : mOpL g i b ρ = some (z, ρ1) := by
  unfold mOpL
  rw [h0]
  exact e_op (e_var h0) hb hg
theorem e_callO {F : D → List D → Option (D × D)} {d0 d1 d2 : D} (h0 : ρ[i]? = some (.own p d0)) (ha : l ρ = some (ds, ρ1)) (h1 : ρ1[i]? = some (.own q d1)) (hF : F d1 ds = some (z, d2)) : mCallO F i l ρ = some (z, ρ1.set i (.own q d2)) := by
  unfold mCallO
  rw [if_pos (by unfold owns; rw [h0])]
  refine e_bd ha ?_
  simp only [h1, hF]
theorem e_callNew {F : D → List D → Option (D × D)} {d0 d1 : D} (he : e ρ = some (d0, ρ1)) (ha : l ρ1 = some (ds, ρ2)) (hF : F d0 ds = some (z, d1)) : mCallNew F e l ρ = some (z, ρ2) := e_bd he (e_bd ha (e_l (by rw [hF]; rfl)))
theorem e_star (ha : a ρ = some (.tup ds, ρ1)) (hl : l ρ1 = some (es, ρ2)) : aStar a l ρ = some (ds ++ es, ρ2) := e_bd ha (e_bd (e_l rfl) (e_bd hl rfl))
theorem e_prop {C : Addr} {ns : List Str} {F : List D → Option D} (ha : a ρ = some (.ins C ns ds, ρ1)) (hF : F [.ins C ns ds] = some z) : mProp C F a ρ = some (z, ρ1) := by
  refine e_bd ha ?_
  rw [if_pos (by simp [isIns])]
  exact e_l hF
theorem e_fld {C : Addr} {ns : List Str} {s : Str} (ha : a ρ = some (.ins C ns ds, ρ1)) (hF : lookD ns ds s = some z) : mFld C s a ρ = some (z, ρ1) := by
  refine e_bd ha ?_
  simp only [if_true, eq_self]
  exact e_l hF
theorem e_meth {C : Addr} {ns : List Str} {nm : Str} {F : List D → Option D} (ha : a ρ = some (.ins C ns ds, ρ1)) (hn : ns.contains nm = false) (hl : l ρ1 = some (es, ρ2)) (hF : F (.ins C ns ds :: es) = some z) : mMeth C nm F a l ρ = some (z, ρ2) := by
  refine e_bd ha ?_
  rw [if_pos (by simp only [isObj, hn, beq_self_eq_true, Bool.not_false, Bool.and_self])]
  exact e_bd hl (e_l hF)
theorem e_make {C : Addr} {F : D → List D → Option (D × D)} {dds : List D} (hl : l ρ = some (ds, ρ1)) (hF : F (.ins C [] []) (ds ++ dds) = some (.non, d)) : mMake C F dds l ρ = some (d, ρ1) := e_bd hl (e_l (by rw [hF]))
theorem e_kw {is : List Nat} {n nk : Nat} {k : Mo (List D)} {F : List D → Option D} (hl : l ρ = some (ds, ρ1)) (hk : k ρ1 = some (es, ρ2)) (h1 : ds.length = n) (h2 : es.length = nk) (hF : F (pick is (ds ++ es)) = some z) : mKw is n nk F l k ρ = some (z, ρ2) := by
  refine e_bd hl (e_bd hk ?_)
  rw [if_pos ⟨h1, h2⟩]
  exact e_l hF
end
section
variable {ρ ρ1 ρ2 : Cs} {a b e : Mo D} {t : Mo Bool} {l : Mo (List D)} {x y z d : D} {ds : List D} {i : Nat} {p q : Bool} {k m m' : Mo Fl} {P : Option (Fl × Cs) → Prop}
theorem st_one (h : P (sSeq m sNx ρ)) : P (m ρ) := by
  have e : sSeq m sNx ρ = m ρ := by
    unfold sSeq
    cases h : m ρ with
    | none => rfl
    | some r =>
      obtain ⟨f, ρ'⟩ := r
      cases f <;> rfl
  rw [← e]; exact h
theorem st_assoc (h : P (sSeq m (sSeq m' k) ρ)) : P (sSeq (sSeq m m') k ρ) := by
  have e : sSeq (sSeq m m') k ρ = sSeq m (sSeq m' k) ρ := by
    unfold sSeq
    cases h : m ρ with
    | none => rfl
    | some r =>
      obtain ⟨f, ρ'⟩ := r
      cases f <;> rfl
  rw [e]; exact h
theorem st_run (h : m ρ = some (.nx, ρ1)) (hk : P (k ρ1)) : P (sSeq m k ρ) := by
  unfold sSeq
  rw [h]; exact hk
theorem st_end (h : m ρ = some (.rt d, ρ1)) (hk : P (some (.rt d, ρ1))) : P (sSeq m k ρ) := by
  unfold sSeq
  rw [h]; exact hk
theorem st_nx (hk : P (k ρ)) : P (sSeq sNx k ρ) := st_run rfl hk
theorem st_set (h : a ρ = some (d, ρ1)) (hk : P (k (ρ1.set i (.dat d)))) : P (sSeq (sSet i a) k ρ) := st_run (e_bd h rfl) hk
theorem st_setN (h : a ρ = some (d, ρ1)) (hk : P (k (ρ1.set i (.own false d)))) : P (sSeq (sSetN i a) k ρ) := st_run (e_bd h rfl) hk
theorem st_drop (h : a ρ = some (d, ρ1)) (hk : P (k ρ1)) : P (sSeq (sDrop a) k ρ) := st_run (e_bd h rfl) hk
theorem st_ret (h : a ρ = some (d, ρ1)) (hk : P (some (.rt d, ρ1))) : P (sSeq (sRet a) k ρ) := st_end (e_bd h rfl) hk
theorem st_retNew (h : a ρ = some (d, ρ1)) (hk : P (some (.rn d, ρ1))) : P (sSeq (sRetNew a) k ρ) := by
  have e : sRetNew a ρ = some (.rn d, ρ1) := e_bd h rfl
  unfold sSeq
  rw [e]; exact hk
theorem st_retN (hk : P (some (.rt .non, ρ))) : P (sSeq sRetN k ρ) := st_end rfl hk
theorem st_if (ht : t ρ = some (p, ρ1)) (h1 : p = true → P (sSeq m k ρ1)) (h2 : p = false → P (sSeq m' k ρ1)) : P (sSeq (sIf t m m') k ρ) := by
  cases p with
  | true =>
    have := h1 rfl
    unfold sSeq at this ⊢
    have e : sIf t m m' ρ = m ρ1 := e_bd ht rfl
    rw [e]; exact this
  | false =>
    have := h2 rfl
    unfold sSeq at this ⊢
    have e : sIf t m m' ρ = m' ρ1 := e_bd ht rfl
    rw [e]; exact this
theorem st_par {is : List Nat} {fs : List Bool} (h : l ρ = some (ds, ρ1)) (hs : stAll is fs ds ρ1 = some ρ2) (hk : P (k ρ2)) : P (sSeq (sPar is fs l) k ρ) := st_run (e_bd h (by simp only [hs])) hk
theorem st_asg {g : D → Mo Unit} {u : Unit} (h : a ρ = some (d, ρ1)) (hg : g d ρ1 = some (u, ρ2)) (hk : P (k ρ2)) : P (sSeq (sAsg a g) k ρ) := st_run (e_bd h (e_bd hg rfl)) hk
theorem st_app {ds : List D} (h0 : ρ[i]? = some (.own p (.lst ds))) (h : a ρ = some (d, ρ1)) {es : List D} (h1 : ρ1[i]? = some (.own q (.lst es))) (hl : es.length < sizeLine) (hk : P (k (ρ1.set i (.own q (.lst (es ++ [d])))))) : P (sSeq (sAppV i a) k ρ) := by
  refine st_run ?_ hk
  unfold sAppV
  rw [if_pos (by unfold ownsL; rw [h0])]
  refine e_bd h ?_
  simp only [h1]
  exact if_pos hl
theorem st_fld {C : Addr} {s : Str} {ns : List Str} {es : List D} (h : a ρ = some (d, ρ1)) (h1 : ρ1[i]? = some (.own q (.ins C ns es))) (hl : es.length < 1000) (hk : P (k (ρ1.set i (.own q (.ins C (putN s ns) (putD s d ns es)))))) : P (sSeq (sFldV C i s a) k ρ) := by
  refine st_run (e_bd h ?_) hk
  rw [h1]
  exact if_pos ⟨rfl, hl⟩
theorem g_nm {d : D} : gNm i d ρ = some ((), ρ.set i (.dat d)) := rfl
theorem g_putE {d0 : D} {ds es : List D} {n : Int} {j : Nat} (h0 : ρ[i]? = some (.own p d0)) (hb : b ρ = some (.int n, ρ1)) (h1 : ρ1[i]? = some (.own q (.lst es))) (hj : ixN es.length n = some j) : gPut i b d ρ = some ((), ρ1.set i (.own q (.lst (es.set j d)))) := by
  unfold gPut
  rw [if_pos (by unfold owns; rw [h0])]
  refine e_bd hb ?_
  unfold putL
  simp only [h1, int?, hj]
/-- a loop's body: on; broken; returned -/
def BodyQ (N B : Cs → Prop) (R : Option (Fl × Cs) → Prop) : Option (Fl × Cs) → Prop
  | some (.nx, ρ) | some (.ct, ρ) => N ρ
  | some (.bk, ρ) => B ρ
  | some (.rt d, ρ) => R (some (.rt d, ρ))
  | _ => False
theorem goFor_inv {α : Type} {g : D → Mo Unit} {b : Mo Fl} {enc : α → D} {R : Option (Fl × Cs) → Prop} {k : Mo Fl} : ∀ (xs done : List α) (ρ : Cs) (I : List α → Cs → Prop), I done ρ →
    (∀ ys x zs ρ, done ++ xs = ys ++ x :: zs → I ys ρ → ∃ u ρ1, g (enc x) ρ = some (u, ρ1) ∧ BodyQ (I (ys ++ [x])) (fun ρ' => R (k ρ')) R (b ρ1)) → (∀ ρ, I (done ++ xs) ρ → R (k ρ)) → R (match goFor g b (xs.map enc) ρ with
      | some (.nx, ρ') => k ρ'
      | r => r)
  | [], done, ρ, I, h0, hs, hd => by
    rw [List.append_nil] at hd
    exact hd ρ h0
  | x :: xs, done, ρ, I, h0, hs, hd => by
    obtain ⟨u, ρ1, hg, hb⟩ := hs done x xs ρ rfl h0
    rw [List.map_cons]
    unfold goFor
    rw [hg]
    simp only
    have go : ∀ ρ2, I (done ++ [x]) ρ2 → R (match goFor g b (xs.map enc) ρ2 with
      | some (.nx, ρ') => k ρ'
      | r => r) := fun ρ2 h2 => goFor_inv xs (done ++ [x]) ρ2 I h2 (fun ys y zs ρ e hy => hs ys y zs ρ (by rw [← e, List.append_assoc]; rfl) hy) fun ρ h => hd ρ (by rw [List.append_assoc] at h; exact h)
    cases eb : b ρ1 with
    | none => rw [eb] at hb; exact hb.elim
    | some r =>
      obtain ⟨f, ρ2⟩ := r
      rw [eb] at hb
      cases f with
      | nx => exact go ρ2 hb
      | ct => exact go ρ2 hb
      | bk => exact hb
      | rt d => exact hb
      | rn d => exact hb.elim
/-- for x in xs -/
theorem st_for {α : Type} {it : Mo (List D)} {g : D → Mo Unit} {enc : α → D} {xs : List α} (hi : it ρ = some (xs.map enc, ρ1)) (I : List α → Cs → Prop) (h0 : I [] ρ1)
    (hs : ∀ ys x zs ρ, xs = ys ++ x :: zs → I ys ρ → ∃ u ρ1, g (enc x) ρ = some (u, ρ1) ∧ BodyQ (I (ys ++ [x])) (fun ρ' => P (k ρ')) P (m ρ1)) (hd : ∀ ρ, I xs ρ → P (k ρ)) : P (sSeq (sFor it g m) k ρ) := by
  have := goFor_inv (g := g) (b := m) (enc := enc) (R := P) (k := k) xs [] ρ1 I h0 hs hd
  have e : sFor it g m ρ = goFor g m (xs.map enc) ρ1 := e_bd hi rfl
  unfold sSeq
  rw [e]
  exact this
/-- while -/
theorem goWh_inv {tt : Mo Bool} {b : Mo Fl} {R : Option (Fl × Cs) → Prop} {k : Mo Fl} (I : Nat → Cs → Prop) (hs : ∀ n ρ, I n ρ → ∃ p ρ1, tt ρ = some (p, ρ1) ∧ (p = false → R (k ρ1)) ∧ (p = true → BodyQ (fun ρ' => ∃ j, j < n ∧ I j ρ') (fun ρ' => R (k ρ')) R (b ρ1))) :
    ∀ (n f : Nat) (ρ : Cs), n < f → I n ρ → R (match goWh tt b f ρ with
      | some (.nx, ρ') => k ρ'
      | r => r) := by
  intro n
  induction n using Nat.strongRecOn with
  | _ n ih =>
    intro f ρ hf h
    cases f with
    | zero => omega
    | succ f =>
      obtain ⟨p, ρ1, ht, h1, h2⟩ := hs n ρ h
      unfold goWh
      rw [ht]
      cases p with
      | false => exact h1 rfl
      | true =>
        simp only
        have hb := h2 rfl
        cases eb : b ρ1 with
        | none => rw [eb] at hb; exact hb.elim
        | some r =>
          obtain ⟨fl, ρ2⟩ := r
          rw [eb] at hb
          cases fl with
          | nx =>
            obtain ⟨j, hj, hI⟩ := hb
            exact ih j hj f ρ2 (by omega) hI
          | ct =>
            obtain ⟨j, hj, hI⟩ := hb
            exact ih j hj f ρ2 (by omega) hI
          | bk => exact hb
          | rt d => exact hb
          | rn d => exact hb.elim
theorem st_while {n : Cs → Nat} (I : Nat → Cs → Prop) (j : Nat) (hj : j < n ρ) (h0 : I j ρ) (hs : ∀ n ρ, I n ρ → ∃ p ρ1, t ρ = some (p, ρ1) ∧ (p = false → P (k ρ1)) ∧ (p = true → BodyQ (fun ρ' => ∃ j, j < n ∧ I j ρ') (fun ρ' => P (k ρ')) P (m ρ1))) : P (sSeq (sWh n t m) k ρ) := by
  have := goWh_inv (tt := t) (b := m) (R := P) (k := k) I hs j (n ρ) ρ hj h0
  unfold sSeq sWh
  exact this
theorem goLc_inv {α : Type} {vs : List Nat} {g : D → Mo Unit} {t : Mo Bool} {e : Mo D} {enc : α → D} : ∀ (xs done : List α) (acc : List D) (ρ : Cs) (I : List α → List D → Cs → Prop), I done acc ρ → acc.length + xs.length ≤ sizeLine → (∀ done acc ρ, I done acc ρ → acc.length ≤ done.length) → done.length + xs.length ≤ sizeLine →
    (∀ ys x zs acc ρ, done ++ xs = ys ++ x :: zs → I ys acc ρ → ∃ u ρ1 p ρ2, g (enc x) (clr vs ρ) = some (u, ρ1) ∧ t ρ1 = some (p, ρ2) ∧ (p = false → I (ys ++ [x]) acc ρ2) ∧ (p = true → ∃ y ρ3, e ρ2 = some (y, ρ3) ∧ I (ys ++ [x]) (acc ++ [y]) ρ3)) →
    ∃ acc' ρ', goLc vs g t e (xs.map enc) acc ρ = some (acc', ρ') ∧ I (done ++ xs) acc' ρ'
  | [], done, acc, ρ, I, h0, _, _, _, _ => ⟨acc, ρ, rfl, by rw [List.append_nil]; exact h0⟩
  | x :: xs, done, acc, ρ, I, h0, hl, hln, hdl, hs => by
    obtain ⟨u, ρ1, p, ρ2, hg, ht, hf, hp⟩ := hs done x xs acc ρ rfl h0
    rw [List.length_cons] at hl hdl
    rw [List.map_cons]
    unfold goLc
    simp only [hg, ht]
    have go : ∀ acc2 ρ2, I (done ++ [x]) acc2 ρ2 → acc2.length + xs.length ≤ sizeLine → ∃ acc' ρ', goLc vs g t e (xs.map enc) acc2 ρ2 = some (acc', ρ') ∧ I (done ++ x :: xs) acc' ρ' := fun acc2 ρ2 h2 hl2 => by
      have := goLc_inv xs (done ++ [x]) acc2 ρ2 I h2 hl2 hln (by rw [List.length_append, List.length_singleton]; omega) (fun ys y zs acc ρ e hy => hs ys y zs acc ρ (by rw [← e, List.append_assoc]; rfl) hy)
      rw [List.append_assoc] at this
      exact this
    cases p with
    | false => exact go acc ρ2 (hf rfl) (by omega)
    | true =>
      obtain ⟨y, ρ3, he, hI⟩ := hp rfl
      simp only [he]
      rw [if_pos (by omega)]
      exact go _ ρ3 hI (by rw [List.length_append, List.length_singleton]; omega)
/-- [e for x in xs if t] -/
theorem e_lc {α : Type} {vs : List Nat} {it : Mo (List D)} {g : D → Mo Unit} {t : Mo Bool} {e : Mo D} {enc : α → D} {xs : List α} (hi : it ρ = some (xs.map enc, ρ1)) (hf : free vs ρ1 = true) (I : List α → List D → Cs → Prop) (h0 : I [] [] (clr vs ρ1)) (hln : ∀ done acc ρ, I done acc ρ → acc.length ≤ done.length) (hxl : xs.length ≤ sizeLine)
    (hs : ∀ ys x zs acc ρ, xs = ys ++ x :: zs → I ys acc ρ → ∃ u ρ1 p ρ2, g (enc x) (clr vs ρ) = some (u, ρ1) ∧ t ρ1 = some (p, ρ2) ∧ (p = false → I (ys ++ [x]) acc ρ2) ∧ (p = true → ∃ y ρ3, e ρ2 = some (y, ρ3) ∧ I (ys ++ [x]) (acc ++ [y]) ρ3)) :
    ∃ acc ρ', mLc vs it g t e ρ = some (.lst acc, back vs ρ1 (clr vs ρ')) ∧ I xs acc ρ' := by
  obtain ⟨acc, ρ', h1, h2⟩ := goLc_inv (vs := vs) (g := g) (t := t) (e := e) (enc := enc) xs [] [] (clr vs ρ1) I h0 (by rw [List.length_nil, Nat.zero_add]; exact hxl) hln (by rw [List.length_nil, Nat.zero_add]; exact hxl) hs
  refine ⟨acc, ρ', e_bd hi ?_, h2⟩
  rw [if_pos hf, h1]
/-- .. when nothing but its own slots changes, and each item gives one -/
theorem goLc_map {α : Type} {vs : List Nat} {g : D → Mo Unit} {e : Mo D} {enc f : α → D} {ρ0 : Cs} : ∀ (xs : List α) (acc : List D) (ρ : Cs), clr vs ρ = ρ0 → acc.length + xs.length ≤ sizeLine →
    (∀ x ∈ xs, ∃ u ρ1, g (enc x) ρ0 = some (u, ρ1) ∧ ∃ ρ3, e ρ1 = some (f x, ρ3) ∧ clr vs ρ3 = ρ0) → ∃ ρ', goLc vs g (mC true) e (xs.map enc) acc ρ = some (acc ++ xs.map f, ρ') ∧ clr vs ρ' = ρ0
  | [], acc, ρ, h, _, _ => ⟨ρ, by rw [List.map_nil, List.map_nil, List.append_nil]; rfl, h⟩
  | x :: xs, acc, ρ, h, hl, hs => by
    obtain ⟨u, ρ1, hg, ρ3, he, hc⟩ := hs x List.mem_cons_self
    rw [List.length_cons] at hl
    rw [List.map_cons, List.map_cons]
    unfold goLc
    rw [h]
    simp only [hg, e_c, he]
    rw [if_pos (by omega)]
    obtain ⟨ρ', q1, q2⟩ := goLc_map xs (acc ++ [f x]) ρ3 hc (by rw [List.length_append, List.length_singleton]; omega) fun y hy => hs y (List.mem_cons_of_mem _ hy)
    exact ⟨ρ', by rw [q1, List.append_assoc]; rfl, q2⟩
theorem e_lcm {α : Type} {vs : List Nat} {it : Mo (List D)} {g : D → Mo Unit} {e : Mo D} {enc f : α → D} {xs : List α} (hi : it ρ = some (xs.map enc, ρ1)) (hf : free vs ρ1 = true) (hxl : xs.length ≤ sizeLine)
    (hs : ∀ x ∈ xs, ∃ u ρ2, g (enc x) (clr vs ρ1) = some (u, ρ2) ∧ ∃ ρ3, e ρ2 = some (f x, ρ3) ∧ clr vs ρ3 = clr vs ρ1) (hcc : clr vs (clr vs ρ1) = clr vs ρ1) : mLc vs it g (mC true) e ρ = some (.lst (xs.map f), back vs ρ1 (clr vs ρ1)) := by
  obtain ⟨ρ', h1, h2⟩ := goLc_map (vs := vs) (g := g) (e := e) (enc := enc) (f := f) (ρ0 := clr vs ρ1) xs [] (clr vs ρ1) hcc (by rw [List.length_nil, Nat.zero_add]; exact hxl) hs
  refine e_bd hi ?_
  rw [if_pos hf, h1]
  simp only [List.nil_append, h2]
/-- .. with a test -/
theorem goLc_filter {α : Type} {vs : List Nat} {g : D → Mo Unit} {t : Mo Bool} {e : Mo D} {enc f : α → D} {ρ0 : Cs} {p : α → Bool} : ∀ (xs : List α) (acc : List D) (ρ : Cs), clr vs ρ = ρ0 → acc.length + xs.length ≤ sizeLine →
    (∀ x ∈ xs, ∃ u ρ1, g (enc x) ρ0 = some (u, ρ1) ∧ ∃ ρ2, t ρ1 = some (p x, ρ2) ∧ (p x = false → clr vs ρ2 = ρ0) ∧ (p x = true → ∃ ρ3, e ρ2 = some (f x, ρ3) ∧ clr vs ρ3 = ρ0)) → ∃ ρ', goLc vs g t e (xs.map enc) acc ρ = some (acc ++ (xs.filter p).map f, ρ') ∧ clr vs ρ' = ρ0
  | [], acc, ρ, h, _, _ => ⟨ρ, by rw [List.map_nil, List.filter_nil, List.map_nil, List.append_nil]; rfl, h⟩
  | x :: xs, acc, ρ, h, hl, hs => by
    obtain ⟨u, ρ1, hg, ρ2, ht, hf, hp⟩ := hs x List.mem_cons_self
    rw [List.length_cons] at hl
    rw [List.map_cons]
    unfold goLc
    rw [h]
    simp only [hg, ht]
    cases hc : p x with
    | false =>
      rw [List.filter_cons_of_neg (by rw [hc]; exact Bool.false_ne_true)]
      exact goLc_filter xs acc ρ2 (hf hc) (by omega) fun y hy => hs y (List.mem_cons_of_mem _ hy)
    | true =>
      obtain ⟨ρ3, he, h3⟩ := hp hc
      rw [List.filter_cons_of_pos hc]
      simp only [he]
      rw [if_pos (by omega)]
      obtain ⟨ρ', q1, q2⟩ := goLc_filter xs (acc ++ [f x]) ρ3 h3 (by rw [List.length_append, List.length_singleton]; omega) fun y hy => hs y (List.mem_cons_of_mem _ hy)
      exact ⟨ρ', by rw [q1, List.append_assoc]; rfl, q2⟩
theorem e_lcf {α : Type} {vs : List Nat} {it : Mo (List D)} {g : D → Mo Unit} {t : Mo Bool} {e : Mo D} {enc f : α → D} {xs : List α} {p : α → Bool} (hi : it ρ = some (xs.map enc, ρ1)) (hf : free vs ρ1 = true) (hxl : xs.length ≤ sizeLine)
    (hs : ∀ x ∈ xs, ∃ u ρ2, g (enc x) (clr vs ρ1) = some (u, ρ2) ∧ ∃ ρ3, t ρ2 = some (p x, ρ3) ∧ (p x = false → clr vs ρ3 = clr vs ρ1) ∧ (p x = true → ∃ ρ4, e ρ3 = some (f x, ρ4) ∧ clr vs ρ4 = clr vs ρ1)) (hcc : clr vs (clr vs ρ1) = clr vs ρ1) : mLc vs it g t e ρ = some (.lst ((xs.filter p).map f), back vs ρ1 (clr vs ρ1)) := by
  obtain ⟨ρ', h1, h2⟩ := goLc_filter (vs := vs) (g := g) (t := t) (e := e) (enc := enc) (f := f) (p := p) (ρ0 := clr vs ρ1) xs [] (clr vs ρ1) hcc (by rw [List.length_nil, Nat.zero_add]; exact hxl) hs
  refine e_bd hi ?_
  rw [if_pos hf, h1]
  simp only [List.nil_append, h2]
end
def RetQ (Q : D → Prop) (r : Option (Fl × Cs)) : Prop := ∃ d, fin1 r = some d ∧ Q d
def RetNw (Q : D → Prop) (r : Option (Fl × Cs)) : Prop := ∃ d, fin3 r = some d ∧ Q d
def RetO (Q : D → D → Prop) (r : Option (Fl × Cs)) : Prop := ∃ d e, fin2 r = some (d, e) ∧ Q d e
section
variable {ρ : Cs} {d e : D} {Q : D → Prop} {R : D → D → Prop} {m n : Nat} {b : Mo Fl} {ds : List D} {d0 : D}
theorem rq_rt (q : Q d) : RetQ Q (some (.rt d, ρ)) := ⟨d, rfl, q⟩
theorem rq_nx (q : Q .non) : RetQ Q (some (.nx, ρ)) := ⟨.non, rfl, q⟩
theorem rn_rn (q : Q d) : RetNw Q (some (.rn d, ρ)) := ⟨d, rfl, q⟩
theorem ro_rt (q : R d e) : RetO R (some (.rt d, .own true e :: ρ)) := ⟨d, e, rfl, q⟩
theorem ro_nx (q : R .non e) : RetO R (some (.nx, .own true e :: ρ)) := ⟨.non, e, rfl, q⟩
theorem retF (h : RetQ (fun r => r = d) (b (cells ds n))) (hl : ds.length = m := by rfl) : runF m n b ds = some d := by
  obtain ⟨x, h1, rfl⟩ := h
  unfold runF
  rw [if_pos hl, h1]
theorem retOE (h : RetO R (b (.own true d0 :: cells ds n))) (hl : ds.length + 1 = m := by rfl) : ∃ d e, runO m n b d0 ds = some (d, e) ∧ R d e := by
  obtain ⟨x, y, h1, q⟩ := h
  exact ⟨x, y, by unfold runO; rw [if_pos hl, h1], q⟩
theorem retNE (h : RetNw Q (b (cells ds n))) (hl : ds.length = m := by rfl) : ∃ d, runN m n b ds = some d ∧ Q d := by
  obtain ⟨x, h1, q⟩ := h
  exact ⟨x, by unfold runN; rw [if_pos hl, h1], q⟩
end
section
variable {ρ ρ1 : Cs} {a : Mo D} {t : Mo Bool} {i : Nat} {C : Addr} {s : Str} {l : Mo (List D)} {is : List Nat} {fs : List Bool} {g : D → Mo Unit} {it : Mo (List D)} {n : Cs → Nat} {m m' : Mo Fl} {P : Option (Fl × Cs) → Prop}
theorem sw_ret (h : P (sSeq (sRet a) sNx ρ)) : P (sRet a ρ) := st_one h
theorem sw_retNew (h : P (sSeq (sRetNew a) sNx ρ)) : P (sRetNew a ρ) := st_one h
theorem sw_retN (h : P (sSeq sRetN sNx ρ)) : P (sRetN ρ) := st_one h
theorem sw_if (h : P (sSeq (sIf t m m') sNx ρ)) : P (sIf t m m' ρ) := st_one h
theorem sw_set (h : P (sSeq (sSet i a) sNx ρ)) : P (sSet i a ρ) := st_one h
theorem sw_setN (h : P (sSeq (sSetN i a) sNx ρ)) : P (sSetN i a ρ) := st_one h
theorem sw_app (h : P (sSeq (sAppV i a) sNx ρ)) : P (sAppV i a ρ) := st_one h
theorem sw_asg (h : P (sSeq (sAsg a g) sNx ρ)) : P (sAsg a g ρ) := st_one h
theorem sw_par (h : P (sSeq (sPar is fs l) sNx ρ)) : P (sPar is fs l ρ) := st_one h
theorem sw_fld (h : P (sSeq (sFldV C i s a) sNx ρ)) : P (sFldV C i s a ρ) := st_one h
theorem sw_drop (h : P (sSeq (sDrop a) sNx ρ)) : P (sDrop a ρ) := st_one h
theorem sw_for (h : P (sSeq (sFor it g m) sNx ρ)) : P (sFor it g m ρ) := st_one h
theorem sw_nx (h : P (some (.nx, ρ))) : P (sNx ρ) := h
theorem sw_ct (h : P (some (.ct, ρ))) : P (sCt ρ) := h
theorem sw_bk (h : P (some (.bk, ρ))) : P (sBk ρ) := h
end
@[simp] theorem isTy_tt : isTy "tuple" "tuple" = true := rfl
@[simp] theorem isTy_ii : isTy "int" "int" = true := rfl
@[simp] theorem isTy_ib : isTy "int" "bool" = false := rfl
@[simp] theorem isTy_ss : isTy "str" "str" = true := rfl
@[simp] theorem isTy_nt : isTy "NoneType" "tuple" = false := rfl
@[simp] theorem isTy_ns : isTy "NoneType" "str" = false := rfl
@[simp] theorem isTy_is : isTy "int" "str" = false := rfl
theorem len_le {n : Nat} (h : n ≤ 1000) : n ≤ sizeLine := Nat.le_trans h (by decide)
theorem rng_ok {n : Nat} (h : n ≤ 1000000) : rng1? [.int (n : Int)] = some ((List.range n).map fun k : Nat => D.int (0 + (k : Int))) := by
  have e : rng1? [.int (n : Int)] = if -(2 ^ 62) ≤ (n : Int) ∧ (n : Int) < 2 ^ 62 then some (rngD 0 (n : Int).toNat) else none := rfl
  rw [e, if_pos (by omega), Int.toNat_natCast]
  rfl
end DL
open PySem PySem.Spec PyProof.Rows L2 DL
set_option hygiene false
local macro_rules
  | `(tactic| refine_lift' evl) => `(tactic| first | rfl | assumption | (exact if_pos (by assumption)) | decide | (exact DL.len_le (by simp)) | (exact Nat.le_of_ble_eq_true rfl))
  | `(tactic| refine_lift' evl [$ls,*]) => do
    let alts ← ls.getElems.mapM fun t => `(tacticSeq| exact $t)
    let mut r ← `(tactic| first | rfl | assumption | (exact if_pos (by assumption)) | decide | (exact DL.len_le (by simp)) | (exact Nat.le_of_ble_eq_true rfl))
    for t in ls.getElems.reverse do
      r ← `(tactic| first | exact $t | $r:tactic)
    for t in ls.getElems.reverse do
      r ← `(tactic| first | with_reducible exact $t | $r:tactic)
    return r
local macro_rules
  | `(tactic| refine_lift' evx) => `(tactic| assumption)
  | `(tactic| refine_lift' evx [$ls,*]) => do
    let mut r ← `(tactic| assumption)
    for t in ls.getElems.reverse do
      r ← `(tactic| first | exact $t | $r:tactic)
    return r
local macro_rules
  | `(tactic| refine_lift' ev) => `(tactic| refine_lift' ev [])
  | `(tactic| refine_lift' ev [$ls,*]) => `(tactic| with_reducible first
      | refine_lift' evx [$ls,*] | exact e_c | exact e_anil | exact e_no
      | (apply e_var; (focus (with_unfolding_all rfl)))
      | (apply e_op; (focus (refine_lift' ev [$ls,*])); (focus (refine_lift' ev [$ls,*])); (focus (with_unfolding_all refine_lift' evl [$ls,*])))
      | (apply e_acons; (focus (refine_lift' ev [$ls,*])); (focus (refine_lift' ev [$ls,*])))
      | (apply e_fn; (focus (refine_lift' ev [$ls,*])); (focus (with_unfolding_all refine_lift' evl [$ls,*])))
      | (apply e_un; (focus (refine_lift' ev [$ls,*])); (focus (with_unfolding_all refine_lift' evl [$ls,*])))
      | (apply e_tst; (focus (refine_lift' ev [$ls,*])))
      | (apply e_tup; (focus (refine_lift' ev [$ls,*])); (focus (with_unfolding_all refine_lift' evl [$ls,*])))
      | (apply e_lst; (focus (refine_lift' ev [$ls,*])); (focus (with_unfolding_all refine_lift' evl [$ls,*])))
      | (apply e_chain; (focus (refine_lift' ev [$ls,*])); (focus (refine_lift' ev [$ls,*])); (focus (with_unfolding_all refine_lift' evl [$ls,*])); (focus (refine_lift' ev [$ls,*])); (focus (with_unfolding_all refine_lift' evl [$ls,*])))
      | (apply e_notV; (focus (refine_lift' ev [$ls,*])))
      | (apply e_andV; (focus (refine_lift' ev [$ls,*])); (focus (refine_lift' ev [$ls,*])))
      | (apply e_orV; (focus (refine_lift' ev [$ls,*])); (focus (refine_lift' ev [$ls,*])))
      | (apply e_not; (focus (refine_lift' ev [$ls,*])))
      | (apply e_and; (focus (refine_lift' ev [$ls,*])); (focus (refine_lift' ev [$ls,*])))
      | (apply e_or; (focus (refine_lift' ev [$ls,*])); (focus (refine_lift' ev [$ls,*])))
      | (apply e_part; (focus (refine_lift' ev [$ls,*])))
      | (apply e_sl; (focus (refine_lift' ev [$ls,*])); (focus (refine_lift' ev [$ls,*])); (focus (refine_lift' ev [$ls,*])); (focus (with_unfolding_all refine_lift' evl [$ls,*])))
      | (apply e_ixO; (focus (with_unfolding_all rfl)); (focus (refine_lift' ev [$ls,*])); (focus (with_unfolding_all rfl)); (focus (with_unfolding_all refine_lift' evl [$ls,*])))
      | (apply e_ixD; (focus (with_unfolding_all rfl)); (focus (refine_lift' ev [$ls,*])); (focus (with_unfolding_all refine_lift' evl [$ls,*])))
      | (apply e_fnPo; (focus (with_unfolding_all rfl)); (focus (with_unfolding_all refine_lift' evl [$ls,*])); (focus (with_unfolding_all rfl)))
      | (apply e_fnPd; (focus (with_unfolding_all rfl)); (focus (with_unfolding_all refine_lift' evl [$ls,*])))
      | (apply e_rtO; (focus (refine_lift' ev [$ls,*])); (focus (with_unfolding_all rfl)); (focus (with_unfolding_all refine_lift' evl [$ls,*])); (focus (with_unfolding_all rfl)))
      | (apply e_rtD; (focus (refine_lift' ev [$ls,*])); (focus (with_unfolding_all rfl)); (focus (with_unfolding_all refine_lift' evl [$ls,*])))
      | (apply e_ltO; (focus (with_unfolding_all rfl)); (focus (refine_lift' ev [$ls,*])); (focus (with_unfolding_all rfl)); (focus (with_unfolding_all refine_lift' evl [$ls,*])); (focus (with_unfolding_all rfl)))
      | (apply e_ltD; (focus (with_unfolding_all rfl)); (focus (refine_lift' ev [$ls,*])); (focus (with_unfolding_all refine_lift' evl [$ls,*])))
      | (apply e_callO; (focus (with_unfolding_all rfl)); (focus (refine_lift' ev [$ls,*])); (focus (with_unfolding_all rfl)); (focus (with_unfolding_all refine_lift' evl [$ls,*])))
      | (apply e_callNew; (focus (refine_lift' ev [$ls,*])); (focus (refine_lift' ev [$ls,*])); (focus (with_unfolding_all refine_lift' evl [$ls,*])))
      | (apply e_star; (focus (refine_lift' ev [$ls,*])); (focus (refine_lift' ev [$ls,*])))
      | (apply e_prop; (focus (refine_lift' ev [$ls,*])); (focus (with_unfolding_all refine_lift' evl [$ls,*])))
      | (apply e_fld; (focus (refine_lift' ev [$ls,*])); (focus (with_unfolding_all refine_lift' evl [$ls,*])))
      | (apply e_meth; (focus (refine_lift' ev [$ls,*])); (focus (with_unfolding_all refine_lift' evl [$ls,*])); (focus (refine_lift' ev [$ls,*])); (focus (with_unfolding_all refine_lift' evl [$ls,*])))
      | (apply e_make; (focus (refine_lift' ev [$ls,*])); (focus (with_unfolding_all refine_lift' evl [$ls,*])))
      | (apply e_kw; (focus (refine_lift' ev [$ls,*])); (focus (refine_lift' ev [$ls,*])); (focus (with_unfolding_all rfl)); (focus (with_unfolding_all rfl)); (focus (with_unfolding_all refine_lift' evl [$ls,*])))
      | (apply e_if; (focus (refine_lift' ev [$ls,*])); (focus (intro _; refine_lift' ev [$ls,*])); (focus (intro _; refine_lift' ev [$ls,*])))
      | (apply e_varO; (focus (with_unfolding_all rfl))))
local macro_rules
  | `(tactic| refine_lift' eva) => `(tactic| refine_lift' eva [])
  | `(tactic| refine_lift' eva [$ls,*]) => `(tactic| (apply e_as; (focus (refine_lift' ev [$ls,*])); (focus (with_unfolding_all rfl)); (focus (with_unfolding_all rfl))))
local macro_rules
  | `(tactic| refine_lift' st) => `(tactic| refine_lift' st [])
  | `(tactic| refine_lift' st [$ls,*]) => `(tactic| with_reducible (first | apply sw_ret | apply sw_if | apply sw_set | apply sw_setN | apply sw_app | apply sw_asg | apply sw_par | apply sw_fld | apply sw_drop | apply sw_for | apply sw_retN | apply sw_retNew | skip) <;> first
      | apply sw_nx | apply sw_ct | apply sw_bk | apply st_assoc | apply st_nx | apply st_retN
      | (apply st_set; (focus (refine_lift' ev [$ls,*])))
      | (apply st_setN; (focus (refine_lift' ev [$ls,*])))
      | (apply st_par; (focus (refine_lift' ev [$ls,*])); (focus (with_unfolding_all rfl)))
      | (apply st_ret; (focus (refine_lift' ev [$ls,*])))
      | (apply st_drop; (focus (refine_lift' ev [$ls,*])))
      | (apply st_retNew; (focus (refine_lift' ev [$ls,*])))
      | (apply st_fld; (focus (refine_lift' ev [$ls,*])); (focus (with_unfolding_all rfl)); (focus (with_unfolding_all refine_lift' evl [$ls,*])))
      | (apply st_app; (focus (with_unfolding_all rfl)); (focus (refine_lift' ev [$ls,*])); (focus (with_unfolding_all rfl)); (focus (with_unfolding_all refine_lift' evl [$ls,*])))
      | (apply st_asg; (focus (refine_lift' ev [$ls,*])); (focus (with_unfolding_all first | rfl | (apply g_putE; (focus rfl); (focus (refine_lift' ev [$ls,*])); (focus rfl); (focus (refine_lift' evl [$ls,*]))))))
      | (apply st_if; (focus (refine_lift' ev [$ls,*]))))
set_option autoImplicit false
namespace DL
open PySem PySem.Spec PyProof.Rows L2
end DL
set_option autoImplicit false
namespace DL
open PySem PySem.Spec PyProof.Rows L2
/-- a zip that has given out f0, if anything -/
abbrev ZipO (TI TO : Addr) (f0 f1 : Value) : Obj := { cls := .type "zip", dict := none, data := .fields #[f0, f1, .bool false, .ref TI, .ref TO], slots := #[] }
section
variable {P : Program} {w : World} {A : Around} {E : Value → Shared → Prop} {s : Shared}
theorem if_alive {a : Addr} {Q : Option Obj → Shared → Prop} (h : Q (s.heap.get? a) s) : wpAny (model P w) A (loadIfAlive a) Q E s := by
  intro Γ p _
  simp only [loadIfAlive, Sem.wp_loadIfAlive]
  exact h
/-- none is left: it ends, the last pair kept or none given out yet -/
theorem zip_keeps_end {z TI TO i1 i2 l1 l2 T : Addr} {o : Obj} {f1 : Value} {k1 k2 : Nat} {xs ys : Array Value} {Q : Fin → Shared → Prop} (hd : A.handled = none) (D : ZipApart z TI TO i1 i2 l1 l2) (hz : s.heap.get? z = some (ZipO TI TO (rawInt T) f1)) (hT : s.heap.get? T = some o)
    (hTI : IsPair s.heap TI (.ref i1) (.ref i2)) (h1 : s.heap.IsListIter i1 l1 k1) (h2 : s.heap.IsListIter i2 l2 k2) (hl1 : s.heap.IsList l1 xs) (hl2 : s.heap.IsList l2 ys) (hend : xs[k1]? = none ∨ ys[k2]? = none)
    (q : ∀ h' e, (∀ c o, c ≠ z → c ≠ i1 → c ≠ i2 → s.heap.get? c = some o → h'.get? c = some o) → (∃ o, h'.get? e = some o ∧ o.cls = .type "StopIteration") → E (.ref e) { s with heap := h' }) :
    wpAny (model P w) A (Builtin.«zip.__next__» ⟨[.ref z], []⟩) Q E s := by
  show wpAny _ _ (field (.ref z) 2 >>= _) _ _ _
  refine wpAny_bind (wpAny_field hz rfl (x := .bool false) rfl (wpAny_bind (wpAny_field hz rfl (x := .ref TI) rfl (wpAny_bind (wpAny_seqItems hTI rfl (wpAny_bind ?_))))))
  unfold Builtin.SmallTypes.ownedTupleIsFree
  refine wpAny_bind (wpAny_field hz rfl (x := rawInt T) rfl (wpAny_bind (if_alive ?_)))
  have hT' : s.heap.get? (((T : Nat) : Int).toNat) = some o := by rw [Int.toNat_natCast]; exact hT
  rw [hT']
  simp only [Option.isNone_some, Bool.false_eq_true, if_false]
  refine wpAny_bind (wpAny_field hz rfl (x := f1) rfl ?_)
  refine wpAny_mono (Q := fun a s' => a = false ∧ ∃ h0 f, s' = { s with heap := h0 } ∧ h0.get? z = some (ZipO TI TO (rawInt T) f) ∧ Heap.SameBut z s.heap h0) (E := E) ?_ ?_ fun _ _ e => e
  · by_cases hf : (f1 != Value.bool true) = true
    · rw [if_pos hf]
      exact wpAny_bind (wpAny_setField_rec hz (by simp) fun h0 z0 s0 => wpAny_pure ⟨rfl, h0, _, rfl, z0, s0⟩)
    · rw [if_neg hf]
      exact wpAny_pure ⟨rfl, s.heap, f1, rfl, hz, rfl, fun _ _ => rfl⟩
  · rintro a s' ⟨rfl, h0, f, rfl, z0, s0⟩
    rw [if_neg (by decide)]
    simp only [← Array.forIn_toList, List.forIn_cons, List.forIn_nil]
    refine wpAny_bind (wpAny_bind (wpAny_bind (wpAny_holding ?_)))
    show wpAny _ _ (Builtin.SmallTypes.nextOf (.ref i1) >>= _) _ _ _
    cases hx : xs[k1]? with
    | none =>
      exact wpAny_bind (wpAny_nextOf_list_end hd (h1.extBut s0.extBut D.i1z) (hl1.extBut s0.extBut D.l1z) hx fun h2' e s1 he => q h2' e (fun c o c1 c2 _ x => s1 _ _ c2 (s0.extBut _ _ c1 x)) he)
    | some x =>
      have hy : ys[k2]? = none := hend.elim (fun z => by rw [hx] at z; cases z) id
      refine wpAny_bind (wpAny_nextOf_list_item (h1.extBut s0.extBut D.i1z) (hl1.extBut s0.extBut D.l1z) hx fun h2' j1 s1 => wpAny_pure (wpAny_pure ?_))
      refine wpAny_bind (wpAny_bind (wpAny_holding ?_))
      show wpAny _ _ (Builtin.SmallTypes.nextOf (.ref i2) >>= _) _ _ _
      exact wpAny_bind (wpAny_nextOf_list_end hd ((h2.extBut s0.extBut D.i2z).extBut s1.extBut D.i12.symm) ((hl2.extBut s0.extBut D.l2z).extBut s1.extBut D.l2i1) hy fun h3' e s2 he => q h3' e (fun c o c1 c2 c3 x => s2 _ _ c3 (s1.extBut _ _ c2 (s0.extBut _ _ c1 x))) he)
end
/-- where a zip stands at the i-th pair, while the list at S keeps all pairs given out so far -/
structure ZAt (h : Heap) (z TI TO i1 i2 l1 l2 S : Addr) (xs ys : Array Value) (i : Nat) : Prop where
  zip : (∃ a b, IsZip h z TI TO .none ∧ IsPair h TO a b) ∨ ∃ (T : Addr) (o : Obj) (f : Value), h.get? z = some (ZipO TI TO (rawInt (T : Nat)) f) ∧ h.get? T = some o ∧ T ≠ z ∧ T ≠ i1 ∧ T ≠ i2 ∧ T ≠ S
  pair : IsPair h TI (.ref i1) (.ref i2)
  it1 : h.IsListIter i1 l1 i
  it2 : h.IsListIter i2 l2 i
  ls1 : h.IsList l1 xs
  ls2 : h.IsList l2 ys
section
variable {P : Program} {w : World} {A : Around} {E : Value → Shared → Prop} {s : Shared} {z TI TO i1 i2 l1 l2 S : Addr} {xs ys : Array Value} {i : Nat}
theorem ZAt.ty (Z : ZAt s.heap z TI TO i1 i2 l1 l2 S xs ys i) : s.TypeIs (.ref z) "zip" := by
  rcases Z.zip with ⟨_, _, h, _⟩ | ⟨_, _, _, h, _⟩
  · exact ⟨_, h, rfl⟩
  · exact ⟨_, h, rfl⟩
theorem ZAt.done (hd : A.handled = none) (D : ZipApart z TI TO i1 i2 l1 l2) (Z : ZAt s.heap z TI TO i1 i2 l1 l2 S xs ys i) (he : xs[i]? = none ∨ ys[i]? = none) {Q : Option Value → Shared → Prop}
    (q : ∀ h', (∀ c o, c ≠ z → c ≠ TO → c ≠ i1 → c ≠ i2 → s.heap.get? c = some o → h'.get? c = some o) → Q none { s with heap := h' }) : wpAny (model P w) A (pyNext (.ref z)) Q E s := by
  rcases Z.zip with ⟨a, b, hz, hTO⟩ | ⟨T, o, f, hz, hT, _⟩
  · exact wpAny_pyNext_zip_end hd D hz Z.pair hTO Z.it1 Z.it2 Z.ls1 Z.ls2 he q
  · unfold pyNext
    refine wpAny_bind (wpAny_attempt (wpAny_callSpecial?_slot (name := Str.ofString "__next__") Z.ty F.slot_zip_next (wpAny_call_entry F.slot_zip_next Z.ty F.entry_zip_next (zip_keeps_end hd D hz hT Z.pair Z.it1 Z.it2 Z.ls1 Z.ls2 he fun h' e k x => ?_) (F.args_zip_next_1 _))))
    obtain ⟨o, ho, hc⟩ := x
    exact wpAny_bind (wpAny_isInstance (T := "StopIteration") (b := true) ⟨o, ho, hc⟩ isSubtype_stop (wpAny_pure (q _ fun c o c1 _ c3 c4 e => k c o c1 c3 c4 e)))
end
end DL
set_option autoImplicit false
namespace DL
open PySem PySem.Spec PyProof.Rows L2
/-- in order, each once -/
def putU (x : Int) : List Int → List Int
  | [] => [x]
  | y :: r => if x < y then x :: y :: r else if x = y then y :: r else y :: putU x r
def sortU (ns : List Int) : List Int := ns.foldr putU []
theorem mem_putU {x z : Int} : ∀ {l : List Int}, z ∈ putU x l ↔ z = x ∨ z ∈ l
  | [] => by simp [putU]
  | y :: r => by
    unfold putU
    split
    · simp
    · split
      · rename_i e
        subst e
        simp
      · rw [List.mem_cons, mem_putU, List.mem_cons]
        constructor
        · rintro (h | h | h)
          · exact .inr (.inl h)
          · exact .inl h
          · exact .inr (.inr h)
        · rintro (h | h | h)
          · exact .inr (.inl h)
          · exact .inl h
          · exact .inr (.inr h)
theorem putU_ris {x : Int} : ∀ {l : List Int}, l.Pairwise (· < ·) → (putU x l).Pairwise (· < ·)
  | [], _ => by simp [putU]
  | y :: r, h => by
    obtain ⟨h1, h2⟩ := List.pairwise_cons.mp h
    unfold putU
    split
    · rename_i hxy
      exact List.pairwise_cons.mpr ⟨fun z hz => (List.mem_cons.mp hz).elim (fun e => e ▸ hxy) fun hz => Int.lt_trans hxy (h1 z hz), h⟩
    · split
      · exact h
      · rename_i n1 n2
        refine List.pairwise_cons.mpr ⟨fun z hz => ?_, putU_ris h2⟩
        rcases mem_putU.mp hz with rfl | hz
        · omega
        · exact h1 z hz
theorem mem_sortU {z : Int} : ∀ {l : List Int}, z ∈ sortU l ↔ z ∈ l
  | [] => by simp [sortU]
  | y :: r => by
    show z ∈ putU y (sortU r) ↔ _
    rw [mem_putU, mem_sortU, List.mem_cons]
theorem sortU_ris : ∀ l : List Int, (sortU l).Pairwise (· < ·)
  | [] => List.Pairwise.nil
  | y :: r => putU_ris (sortU_ris r)
end DL
set_option autoImplicit false
namespace DL
open PySem PySem.Spec PyProof.Rows L2
end DL
set_option autoImplicit false
namespace DL
open PySem PySem.Spec PyProof.Rows L2
end DL
set_option autoImplicit false
namespace DL
open PySem PySem.Spec PyProof.Rows L2
end DL
set_option autoImplicit false
namespace DL
open PySem PySem.Spec PyProof.Rows L2
end DL
set_option autoImplicit false
namespace DL
open PySem PySem.Spec PyProof.Rows L2
end DL
set_option autoImplicit false
namespace DL
open PySem PySem.Spec PyProof.Rows L2
end DL
set_option autoImplicit false
namespace DL
open PySem PySem.Spec PyProof.Rows L2
end DL
set_option autoImplicit false
namespace DL
open PySem PySem.Spec PyProof.Rows L2
/-- the text of an entry -/
def txtE (e : Int × Value) : Str := match e.2 with
  | .str x _ => x
  | _ => ⟨#[]⟩
structure TxSet (w : World) (l : List (Int × Value)) (S : Str → Prop) : Prop where
  good : ∀ e ∈ l, ∃ x tk, e = (hashStr w x, Value.str x tk)
  nd : (l.map txtE).Nodup
  mem : ∀ x, x ∈ l.map txtE ↔ S x
theorem TxSet.perm {w : World} {l m : List (Int × Value)} {S : Str → Prop} (h : TxSet w l S) (p : m.Perm l) : TxSet w m S :=
  ⟨fun e z => h.good e (p.mem_iff.mp z), (p.map txtE).nodup_iff.mpr h.nd, fun x => (p.map txtE).mem_iff.trans (h.mem x)⟩
/-- the set of texts at a place, which can be walked -/
def SetT (w : World) (h : Heap) (a : Addr) (S : Str → Prop) (n : Nat) : Prop :=
  ∃ o es ep t, h.get? a = some o ∧ o.ExactSet ∧ o.data = .set es ep t ∧ TxSet w es.toList S ∧ t.fits es.size = true ∧ es.size = n ∧ n < scanBound ∧ Ris t.place.toList ∧ (w.params.followText "set-order" = true ∨ t.led = true)
theorem SetT.at {w : World} {h h' : Heap} {a : Addr} {S : Str → Prop} {n : Nat} (R : SetT w h a S n) (k : ∀ o, h.get? a = some o → h'.get? a = some o) : SetT w h' a S n := by
  obtain ⟨o, es, ep, t, z, r⟩ := R
  exact ⟨o, es, ep, t, k o z, r⟩
end DL
set_option autoImplicit false
namespace DL
open PySem PySem.Spec PyProof.Rows L2
end DL
set_option autoImplicit false
namespace DL
open PySem PySem.Spec PyProof.Rows L2
end DL
set_option autoImplicit false
namespace DL
open PySem PySem.Spec PyProof.Rows L2
end DL
set_option autoImplicit false
namespace DL
open PySem PySem.Spec PyProof.Rows L2
end DL
set_option autoImplicit false
namespace DL
open PySem PySem.Spec PyProof.Rows L2
end DL
set_option autoImplicit false
namespace DL
open PySem PySem.Spec PyProof.Rows L2
end DL
set_option autoImplicit false
namespace DL
open PySem PySem.Spec PyProof.Rows L2
end DL
set_option autoImplicit false
namespace DL
open PySem PySem.Spec PyProof.Rows L2
def keys? : List D → Option (List Key)
  | [] => some []
  | d :: ds => (key? d).bind fun k => (keys? ds).map fun r => k :: r
def keyT? : D → Option (List Key)
  | .tup ds => keys? ds
  | _ => none
theorem keys_kV {K : PySem.W.Frag} {M : Addr → Prop} {H : Hp} : ∀ {vs : List V} {ds : List D} {ks : List Key}, DatAll K M H vs ds → keys? ds = some ks → vs = ks.map kV
  | _, _, _, .nil, e => by cases e; rfl
  | _, _, _, .cons h t, e => by
    rw [keys?] at e
    obtain ⟨k, e1, e2⟩ := Option.bind_eq_some_iff.mp e
    obtain ⟨r, e3, rfl⟩ := map_some e2
    rw [key_kV h e1, keys_kV t e3]; rfl
def lookT : List (List Key) → List D → List Key → Option D
  | x :: ks, d :: ds, k => if x = k then some d else lookT ks ds k
  | _, _, _ => none
def hasT (ks : List (List Key)) (k : List Key) : Bool := ks.any fun x => decide (x = k)
def putTs (ks : List (List Key)) (k : List Key) : List (List Key) := if hasT ks k = true then ks else ks ++ [k]
def setTs : List (List Key) → List D → List Key → D → List D
  | x :: ks, d :: ds, k, e => (if x = k then e else d) :: setTs ks ds k e
  | _, ds, _, _ => ds
def putTd (ks : List (List Key)) (ds : List D) (k : List Key) (e : D) : List D := if hasT ks k = true then setTs ks ds k e else ds ++ [e]
section
variable {K : PySem.W.Frag} {M : Addr → Prop} {H : Hp}
theorem lookT_dat : ∀ {kvs : List (List Key × V)} {ds : List D} {k : List Key} {d : D}, DatAll K M H (kvs.map (·.2)) ds → lookT (kvs.map (·.1)) ds k = some d → ∃ v, valV kvs k = some v ∧ Dat K M H v d
  | [], _, _, _, _, e => by simp [lookT] at e
  | (x, v) :: r, d :: ds, k, d', .cons h t, e => by
    rw [List.map_cons, lookT] at e
    split at e
    · rename_i q
      cases e
      exact ⟨v, valV_pos q, h⟩
    · rename_i q
      obtain ⟨w, h1, h2⟩ := lookT_dat t e
      exact ⟨w, by rw [valV_neg q]; exact h1, h2⟩
theorem hasT_map (kvs : List (List Key × V)) (k : List Key) : hasT (kvs.map (·.1)) k = kvs.any fun kv => decide (kv.1 = k) := by
  unfold hasT
  rw [List.any_map]
  rfl
theorem setTs_dat {v : V} {e : D} (he : Dat K M H v e) : ∀ {kvs : List (List Key × V)} {ds : List D} {k : List Key}, DatAll K M H (kvs.map (·.2)) ds → DatAll K M H ((kvs.map fun kv => if kv.1 = k then (kv.1, v) else kv).map (·.2)) (setTs (kvs.map (·.1)) ds k e)
  | [], _, _, .nil => .nil
  | (x, w) :: r, d :: ds, k, .cons h t => by
    simp only [List.map_cons, setTs]
    by_cases q : x = k
    · rw [if_pos q, if_pos q]
      exact .cons he (setTs_dat he t)
    · rw [if_neg q, if_neg q]
      exact .cons h (setTs_dat he t)
theorem putT_keys (kvs : List (List Key × V)) (k : List Key) (v : V) : (putK kvs k v).map (·.1) = putTs (kvs.map (·.1)) k := by
  unfold putK putTs
  rw [hasT_map]
  split
  · rw [List.map_map]
    refine List.map_congr_left fun kv _ => ?_
    show (if kv.1 = k then (kv.1, v) else kv).1 = kv.1
    split <;> rfl
  · rw [List.map_append]; rfl
theorem putT_dat {kvs : List (List Key × V)} {ds : List D} {k : List Key} {v : V} {e : D} (h : DatAll K M H (kvs.map (·.2)) ds) (he : Dat K M H v e) : DatAll K M H ((putK kvs k v).map (·.2)) (putTd (kvs.map (·.1)) ds k e) := by
  unfold putK putTd
  rw [hasT_map]
  split
  · exact setTs_dat he h
  · rw [List.map_append]
    exact h.append (.cons he .nil)
end
theorem dat_dit {K : PySem.W.Frag} {M : Addr → Prop} {H : Hp} {v : V} {ks : List (List Key)} {ds : List D} (h : Dat K M H v (.dit ks ds)) : ∃ a kvs, v = .ref a ∧ ¬ M a ∧ Rd H a (.dT kvs) ∧ kvs.map (·.1) = ks ∧ DatAll K M H (kvs.map (·.2)) ds := by
  cases h with
  | dit n hr hk ha => exact ⟨_, _, rfl, n, hr, hk, ha⟩
theorem cont_dit {K : PySem.W.Frag} {M : Addr → Prop} {H : Hp} {o : HO} {ks : List (List Key)} {ds : List D} (h : Cont K M H o (.dit ks ds)) : ∃ kvs, o = .dT kvs ∧ kvs.map (·.1) = ks ∧ DatAll K M H (kvs.map (·.2)) ds := by
  cases h with
  | dit hk ha => exact ⟨_, rfl, hk, ha⟩
def mDNewT : Mo D := mC (.dit [] [])
def Hot (K : PySem.W.Frag) (M : Addr → Prop) (H : Hp) (v : V) (d : D) : Prop := ∃ b xs ds, d = .tup ds ∧ v = .ref b ∧ H b = some (.tup xs) ∧ DatAll K M H xs ds
def RKv {K : PySem.W.Frag} (c : Ctx K) (t : TE) (m : Mo D) : Prop := ∀ M σ H ρ, Sta c M σ H ρ → ∀ d ρ', m ρ = some (d, ρ') → ∀ Q : VK, (∀ M' v H', Es σ M H ρ σ M' H' ρ' → Sta c M' σ H' ρ' → Hot K M' H' v d → Q v H') → t σ H Q
structure DKy (X : Cx) {K : PySem.W.Frag} (c : Ctx K) (e : Expr) (t : TE) (m : Mo D) : Prop where
  p : PE X e t
  r : RKv c t m
def whole? (n : Nat) (lo hi : Option Int) : Bool := decide (HT.sIx n 0 lo = 0 ∧ HT.sIx n n hi = n)
def dSlK : D → Option Int → Option Int → Option D
  | .tup ds, lo, hi => if whole? ds.length lo hi = true then none else some (.tup (cutD ds lo hi))
  | _, _, _ => none
def rSK (K : PySem.W.Frag) : V → Option Int → Option Int → Hp → VK → Prop := fun x lo hi H Q => ∃ a xs, x = .ref a ∧ SqT K H a xs ∧
  ¬ (HT.sIx xs.length 0 lo = 0 ∧ HT.sIx xs.length xs.length hi = xs.length) ∧ ∀ p, H p = none → Q (.ref p) (upd H p (.tup (cutV xs lo hi)))
theorem sl_K {X : Cx} : SlR X (rSK X.K) := by
  intro pins s σ H x v vl vu lo hi sl Q I rx hs pl pu h
  obtain ⟨a, xs, rfl, hx, n, q⟩ := h
  exact sl_tupA pins s σ H _ v vl vu lo hi sl Q I rx hs pl pu ⟨a, xs, rfl, hx, fun w => absurd w n, fun _ => q⟩
section
variable {K : PySem.W.Frag} {c : Ctx K} {td ty tk tv ta : TE} {md my mk mv ma : Mo D} {tl : TA} {ml : Mo (List D)}
theorem r_ktup (h : RAv c tl ml) : RKv c (tTup tl) (mTup ml) := by
  intro M σ H ρ S d ρ' hm Q q
  obtain ⟨xs, ρ1, h1, hm⟩ := mBd_some hm
  obtain ⟨hg, rfl⟩ := mL_some hm
  obtain ⟨hl, rfl⟩ := if_some hg
  refine h M σ H ρ S xs _ h1 _ fun M1 vs H1 E1 S1 d1 => ⟨by rw [d1.length]; exact hl, fun p hp => ?_⟩
  have a := dat_tup hp d1
  exact q M1 _ _ (E1.trans (.same a.1) S.kind) (S1.same a.1) ⟨p, vs, xs, rfl, rfl, upd_same, d1.same a.1⟩
theorem r_ksl {tl th : TO} {ml mh : Mo (Option Int)} (ha : REv c ta ma) (hl : ROv c tl ml) (hh : ROv c th mh) : RKv c (tSl (rSK K) ta tl th) (mSl dSlK ma ml mh) := by
  intro M σ H ρ S d ρ' hm Q q
  obtain ⟨x, ρ1, h1, hm⟩ := mBd_some hm
  obtain ⟨i, ρ2, h2, hm⟩ := mBd_some hm
  obtain ⟨j, ρ3, h3, hm⟩ := mBd_some hm
  obtain ⟨hg, rfl⟩ := mL_some hm
  refine ha M σ H ρ S x ρ1 h1 _ fun M1 v H1 E1 S1 d1 => hl M1 σ H1 ρ1 S1 i ρ2 h2 _ fun M2 H2 E2 S2 => hh M2 σ H2 ρ2 S2 j _ h3 _ fun M3 H3 E3 S3 => ?_
  have d3 := (d1.ev S1.kind E2.ev).ev S2.kind E3.ev
  cases x with
  | tup ds =>
    have hg : (if whole? ds.length i j = true then none else some (D.tup (cutD ds i j))) = some d := hg
    by_cases hw : whole? ds.length i j = true
    · rw [if_pos hw] at hg; cases hg
    · rw [if_neg hw] at hg
      injection hg with hg
      subst hg
      cases d3 with
      | tup h4 a4 =>
        rename_i a xs
        refine ⟨a, xs, rfl, h4, by rw [a4.length]; simpa [whole?] using hw, fun p hp => ?_⟩
        have b := dat_tup hp (cut_dat i j a4)
        exact q M3 _ _ (((E1.trans E2 S.kind).trans E3 S.kind).trans (.same b.1) S.kind) (S3.same b.1) ⟨p, _, _, rfl, rfl, upd_same, (cut_dat i j a4).same b.1⟩
  | _ => simp [dSlK] at hg
theorem RKv.ev (h : RKv c ta ma) : REv c ta ma := fun M σ H ρ S d ρ' e Q q => h M σ H ρ S d ρ' e Q fun M' v H' E S' hot => q M' v H' E S' (by
  obtain ⟨b, xs, ds, rfl, rfl, hb, hd⟩ := hot
  exact .tup (.inl (.inl hb)) hd)
theorem r_dnewT : RNw c tDNewT mDNewT := by
  intro M σ H ρ S d ρ' hm Q q p hp
  obtain ⟨rfl, rfl⟩ := mC_some hm
  exact r_new S .refl S hp (same_new hp) upd_same (.dit rfl .nil) q
end
def isDt (i : Nat) (ρ : Cs) : Bool := match ρ[i]? with
  | some (.own _ (.dit _ _)) => true
  | some (.dat (.dit _ _)) => true
  | _ => false
def dGetT : D → D → Option D
  | .dit ks ds, k => (keyT? k).bind fun k => lookT ks ds k
  | _, _ => none
def dInT : D → D → Option D
  | .dit ks ds, k => (keyT? k).map fun k => .bl (lookT ks ds k).isSome
  | _, _ => none
def dNinT (d k : D) : Option D := (dInT d k).bind dNotD where
  dNotD : D → Option D
    | .bl b => some (.bl (!b))
    | _ => none
/-- d[k], k in d, k not in d: d in slot i, owned or not -/
def mDT (g : D → D → Option D) (i : Nat) (mk : Mo D) : Mo D := fun ρ => if isDt i ρ = true then mBd mk (fun k ρ2 => match ρ2[i]? with
  | some (.own _ d) => mL (g d k) ρ2
  | some (.dat d) => mL (g d k) ρ2
  | _ => none) ρ else none
/-- k in d, k first -/
def mDTk (g : D → D → Option D) (i : Nat) (mk : Mo D) : Mo D := mBd mk fun k ρ2 => match ρ2[i]? with
  | some (.own _ d) => mL (g d k) ρ2
  | some (.dat d) => mL (g d k) ρ2
  | _ => none
def ownsDt (i : Nat) (ρ : Cs) : Bool := match ρ[i]? with
  | some (.own _ (.dit _ _)) => true
  | _ => false
theorem ownsDt_some {i : Nat} {ρ : Cs} (h : ownsDt i ρ = true) : ∃ p ks ds, ρ[i]? = some (.own p (.dit ks ds)) := by
  unfold ownsDt at h
  split at h
  · exact ⟨_, _, _, by assumption⟩
  · cases h
def sDPutT (i : Nat) (mk mv : Mo D) : Mo Fl := fun ρ => if ownsDt i ρ = true then mBd mv (fun v => mBd mk fun k ρ2 => match ρ2[i]?, keyT? k with
  | some (.own p (.dit ks ds)), some kk => if ks.length < sizeLine then some (.nx, ρ2.set i (.own p (.dit (putTs ks kk) (putTd ks ds kk v)))) else none
  | _, _ => none) ρ else none
section
variable {K : PySem.W.Frag} {c : Ctx K} {td ty tk tv : TE} {md my mk mv : Mo D}
theorem isDt_ref {M : Addr → Prop} {σ : L2.St} {H : Hp} {ρ : Cs} {i : Nat} (S : Sta c M σ H ρ) (h : isDt i ρ = true) : ∃ a, σ[i]? = some (some (.ref a)) := by
  unfold isDt at h
  split at h
  · rename_i e
    obtain ⟨a, ha, _⟩ := S.own e
    exact ⟨a, ha⟩
  · rename_i e
    obtain ⟨v, hv, hd⟩ := S.dat e
    obtain ⟨a, _, rfl, _⟩ := dat_dit hd
    exact ⟨a, hv⟩
  · cases h
/-- what stands in slot i is a dict, read -/
theorem dt_at {M : Addr → Prop} {σ : L2.St} {H : Hp} {ρ : Cs} {i : Nat} {a : Addr} {d : D} {x : D} (S : Sta c M σ H ρ) (ha : σ[i]? = some (some (.ref a))) (h : ρ[i]? = some (.own true d) ∨ ρ[i]? = some (.own false d) ∨ ρ[i]? = some (.dat d)) {ks : List (List Key)} {ds : List D} (e : d = .dit ks ds) :
    ∃ kvs, Rd H a (.dT kvs) ∧ kvs.map (·.1) = ks ∧ DatAll K M H (kvs.map (·.2)) ds := by
  subst e
  rcases h with h | h | h
  · obtain ⟨a', ha', hM, _, o, ho, hc⟩ := S.own h
    rw [ha] at ha'; cases ha'
    obtain ⟨kvs, rfl, hz, hdd⟩ := cont_dit hc
    exact ⟨kvs, .inl ho, hz, hdd⟩
  · obtain ⟨a', ha', hM, _, o, ho, hc⟩ := S.own h
    rw [ha] at ha'; cases ha'
    obtain ⟨kvs, rfl, hz, hdd⟩ := cont_dit hc
    exact ⟨kvs, .inl ho, hz, hdd⟩
  · obtain ⟨v, hv2, hd⟩ := S.dat h
    rw [ha] at hv2
    injection hv2 with hv2
    injection hv2 with hv2
    subst hv2
    obtain ⟨a', kvs, ea, n, hr, hz, hdd⟩ := dat_dit hd
    injection ea with ea
    subst ea
    exact ⟨kvs, hr, hz, hdd⟩
theorem hot_key {M : Addr → Prop} {H : Hp} {v : V} {d : D} {k : List Key} (h : Hot K M H v d) (e : keyT? d = some k) : ∃ b, v = .ref b ∧ H b = some (.tup (k.map kV)) := by
  obtain ⟨b, xs, ds, rfl, rfl, hb, hd⟩ := h
  exact ⟨b, rfl, by rw [hb, keys_kV hd e]⟩
theorem look_noneT {M : Addr → Prop} {H : Hp} : ∀ {kvs : List (List Key × V)} {ds : List D} {k : List Key}, DatAll K M H (kvs.map (·.2)) ds → (valV kvs k).isSome = (lookT (kvs.map (·.1)) ds k).isSome
  | [], _, _, _ => by simp [lookT, valV_nil]
  | (x, v) :: r, d :: ds, k, .cons h t => by
    rw [List.map_cons, lookT]
    by_cases q : x = k
    · rw [if_pos q, valV_pos q]; rfl
    · rw [if_neg q, valV_neg q]
      exact look_noneT t
theorem cell_cases {i : Nat} {ρ : Cs} {k : D} {g : D → D → Option D} {d : D} {ρ' : Cs} (hm : (match ρ[i]? with
  | some (.own _ d) => mL (g d k) ρ
  | some (.dat d) => mL (g d k) ρ
  | _ => none) = some (d, ρ')) : ∃ x, (ρ[i]? = some (.own true x) ∨ ρ[i]? = some (.own false x) ∨ ρ[i]? = some (.dat x)) ∧ g x k = some d ∧ ρ' = ρ := by
  split at hm
  · rename_i p x e2
    obtain ⟨hg, rfl⟩ := mL_some hm
    cases p with
    | true => exact ⟨x, .inl e2, hg, rfl⟩
    | false => exact ⟨x, .inr (.inl e2), hg, rfl⟩
  · rename_i x e2
    obtain ⟨hg, rfl⟩ := mL_some hm
    exact ⟨x, .inr (.inr e2), hg, rfl⟩
  · cases hm
theorem r_dgetT {i : Nat} (hk : RKv c ty my) : REv c (tDGet (tVar i) ty) (mDT dGetT i my) := by
  intro M σ H ρ S d ρ' hm Q q
  unfold mDT at hm
  split at hm
  case isFalse => cases hm
  rename_i hw
  obtain ⟨a, ha⟩ := isDt_ref S hw
  obtain ⟨k, ρ2, h2, hm⟩ := mBd_some hm
  refine ⟨_, ha, hk M σ H ρ S k ρ2 h2 _ fun M2 w H2 E2 S2 dk => ?_⟩
  obtain ⟨x, hx, hg, rfl⟩ := cell_cases hm
  cases x with
  | dit ks ds =>
    obtain ⟨kvs, hr, hz, hdd⟩ := dt_at (x := d) S2 ha hx rfl
    subst hz
    unfold dGetT at hg
    obtain ⟨kk, ek, el⟩ := Option.bind_eq_some_iff.mp hg
    obtain ⟨v', hv, hd'⟩ := lookT_dat hdd el
    obtain ⟨b, rfl, hb⟩ := hot_key dk ek
    exact ⟨a, v', rfl, .inr ⟨kvs, kk, b, hr, rfl, hb, hv.symm⟩, q M2 v' H2 E2 S2 hd'⟩
  | _ => simp [dGetT] at hg
theorem r_dinT {i : Nat} (hk : RKv c ty my) : REv c (tDIn ty (tVar i)) (mDTk dInT i my) := by
  intro M σ H ρ S d ρ' hm Q q
  obtain ⟨k, ρ2, h2, hm⟩ := mBd_some hm
  refine hk M σ H ρ S k ρ2 h2 _ fun M2 w H2 E2 S2 dk => ?_
  obtain ⟨x, hx, hg, rfl⟩ := cell_cases hm
  cases x with
  | dit ks ds =>
    have hw : isDt i ρ' = true := by rcases hx with h | h | h <;> simp [isDt, h]
    obtain ⟨a, ha⟩ := isDt_ref S2 hw
    obtain ⟨kvs, hr, hz, hdd⟩ := dt_at (x := d) S2 ha hx rfl
    subst hz
    unfold dInT at hg
    obtain ⟨kk, ek, rfl⟩ := map_some hg
    obtain ⟨b, rfl, hb⟩ := hot_key dk ek
    refine ⟨_, ha, a, _, rfl, .inr ⟨kvs, kk, b, hr, rfl, hb, rfl⟩, ?_⟩
    rw [look_noneT hdd]
    exact q M2 _ H2 E2 S2 (.bl _)
  | _ => simp [dInT] at hg
theorem r_dninT {i : Nat} (hk : RKv c ty my) : REv c (tDNotIn ty (tVar i)) (mDTk dNinT i my) := by
  intro M σ H ρ S d ρ' hm Q q
  obtain ⟨k, ρ2, h2, hm⟩ := mBd_some hm
  refine hk M σ H ρ S k ρ2 h2 _ fun M2 w H2 E2 S2 dk => ?_
  obtain ⟨x, hx, hg, rfl⟩ := cell_cases hm
  cases x with
  | dit ks ds =>
    have hw : isDt i ρ' = true := by rcases hx with h | h | h <;> simp [isDt, h]
    obtain ⟨a, ha⟩ := isDt_ref S2 hw
    obtain ⟨kvs, hr, hz, hdd⟩ := dt_at (x := d) S2 ha hx rfl
    subst hz
    unfold dNinT dInT at hg
    obtain ⟨z, hg1, hg2⟩ := Option.bind_eq_some_iff.mp hg
    obtain ⟨kk, ek, rfl⟩ := map_some hg1
    cases hg2
    obtain ⟨b, rfl, hb⟩ := hot_key dk ek
    refine ⟨_, ha, a, _, rfl, .inr ⟨kvs, kk, b, hr, rfl, hb, rfl⟩, ?_⟩
    rw [look_noneT hdd]
    exact q M2 _ H2 E2 S2 (.bl _)
  | _ => simp [dNinT, dInT] at hg
theorem r_dputT {i : Nat} (hk : RKv c ty my) (hv : REv c tv mv) : RSt c (sDPut (tVar i) ty tv) (sDPutT i my mv) := by
  intro M σ H ρ S f ρ' hm D q
  unfold sDPutT at hm
  split at hm
  case isFalse => cases hm
  rename_i hw
  obtain ⟨p0, ks0, ds0, e0⟩ := ownsDt_some hw
  obtain ⟨a, ha, _, _, o0, ho0, hc0⟩ := S.own e0
  obtain ⟨v, ρ1, h1, hm⟩ := mBd_some hm
  obtain ⟨k, ρ2, h2, hm⟩ := mBd_some hm
  split at hm
  · rename_i p ks ds kk e2 ek
    obtain ⟨hl, e3⟩ := if_some hm
    cases e3
    refine hv M σ H ρ S v ρ1 h1 _ fun M1 vv H1 E1 S1 dv => ⟨_, ha, hk M1 σ H1 ρ1 S1 k ρ2 h2 _ fun M2 kv H2 E2 S2 dk => ?_⟩
    have E := E1.trans E2 S.kind
    obtain ⟨a', ha', hM, _, o, ho, hc⟩ := S2.own e2
    rw [ha] at ha'
    cases ha'
    obtain ⟨kvs, rfl, hz, hd⟩ := cont_dit hc
    · subst hz
      obtain ⟨b, rfl, hb⟩ := hot_key dk ek
      have ev2 : Ev M2 H2 M2 (upd H2 a (.dT (putK kvs kk vv))) := ⟨fun b h => .inl h, fun b o nb h => by rw [upd_ne (fun z => nb (by rw [z]; exact hM))]; exact h⟩
      have hd2 := (putT_dat (k := kk) hd (dv.ev S1.kind E2.ev)).ev S2.kind ev2
      have Z := S2.mut (d' := .dit (putTs (kvs.map (·.1)) kk) (putTd (kvs.map (·.1)) ds kk v)) (H' := upd H2 a (.dT (putK kvs kk vv))) ha e2 (fun b o nb h => by rw [upd_ne nb]; exact h) ⟨_, upd_same, .dit (putT_keys kvs kk vv) hd2⟩
      exact ⟨a, _, rfl, .inr ⟨kvs, kk, b, ho, rfl, hb, by simpa using hl, rfl⟩, q M2 σ _ (E.ev.trans Z.1) Z.2⟩
  · cases hm
end
section
variable {X : Cx} {K : PySem.W.Frag} {c : Ctx K} {o i k v e a : Expr} {es : List Expr} {pos pos' tpos : Pos} {td ty tk tv ta : TE} {md my mk mv ma : Mo D} {tl : TA} {ml : Mo (List D)}
theorem d_dnewT : DN X c (.Dict [] [] pos) tDNewT mDNewT := ⟨pe_dnewT, r_dnewT⟩
theorem k_tup {es : List Expr} {pos : Pos} {x1} (h : DA X c es tl ml) : DKy X c (.Tuple es x1 pos) (tTup tl) (mTup ml) := ⟨pe_tup h.p, r_ktup h.r⟩
theorem k_sl {lo hi : Option Expr} {p2 : Pos} {tl th : TO} {mlo mhi : Mo (Option Int)} (ha : DE X c a ta ma) (hl : DO' X c lo tl mlo) (hh : DO' X c hi th mhi) (hK : X.K = K := by rfl) : DKy X c (.Subscript a (.Slice lo hi none p2) pos) (tSl (rSK K) ta tl th) (mSl dSlK ma mlo mhi) := ⟨by rw [← hK]; exact pe_slice sl_K ha.p hl.p hh.p, r_ksl ha.r hl.r hh.r⟩
theorem d_dgetT {y : Str} {p : Pos} (hu : X.A.units + 1 < cLine) (j : Nat) (hi : DKy X c i ty my) (hs : NoSl i := by intro _ _; rfl) (hN : X.N[j]? = some y := by rfl) (hv : Vis X.env.scope y := by first | exact Or.inl rfl | exact Or.inr (Or.inl rfl) | exact Or.inr (Or.inr rfl)) (hd : (y == ("__debug__" : Str)) = false := by decide) (hcd : (y == ("__classdict__" : Str)) = false := by decide) :
    DE X c (.Subscript (.Name y p) i pos) (tDGet (tVar j) ty) (mDT dGetT j my) := ⟨pe_dget hu (pv j hN hv hd hcd) hi.p hs, r_dgetT hi.r⟩
theorem d_tdinT {y : Str} {p : Pos} (hu : X.A.units + 1 < cLine) (j : Nat) (hi : DKy X c i ty my) (h1 : behindInMarks .In (.Name y p) = false := by rfl) (hN : X.N[j]? = some y := by rfl) (hv : Vis X.env.scope y := by first | exact Or.inl rfl | exact Or.inr (Or.inl rfl) | exact Or.inr (Or.inr rfl)) (hd : (y == ("__debug__" : Str)) = false := by decide) (hcd : (y == ("__classdict__" : Str)) = false := by decide) :
    DT X c (.Compare i [.In] [.Name y p] pos) (tB (tDIn ty (tVar j))) (mTst (mDTk dInT j my)) := ⟨pt_cmp (pc_din hu hi.p (pv j hN hv hd hcd)) h1, r_tst (r_dinT hi.r)⟩
theorem d_tdninT {y : Str} {p : Pos} (hu : X.A.units + 1 < cLine) (j : Nat) (hi : DKy X c i ty my) (h1 : behindInMarks .NotIn (.Name y p) = false := by rfl) (hN : X.N[j]? = some y := by rfl) (hv : Vis X.env.scope y := by first | exact Or.inl rfl | exact Or.inr (Or.inl rfl) | exact Or.inr (Or.inr rfl)) (hd : (y == ("__debug__" : Str)) = false := by decide) (hcd : (y == ("__classdict__" : Str)) = false := by decide) :
    DT X c (.Compare i [.NotIn] [.Name y p] pos) (tB (tDNotIn ty (tVar j))) (mTst (mDTk dNinT j my)) := ⟨pt_cmp (pc_dnotin hu hi.p (pv j hN hv hd hcd)) h1, r_tst (r_dninT hi.r)⟩
theorem s_dputT {y : Str} {p : Pos} (hu : X.A.units + 1 < cLine) (j : Nat) (hk : DKy X c i ty my) (hv : DE X c e tv mv) (hN : X.N[j]? = some y := by rfl) (hvs : Vis X.env.scope y := by first | exact Or.inl rfl | exact Or.inr (Or.inl rfl) | exact Or.inr (Or.inr rfl)) (hd : (y == ("__debug__" : Str)) = false := by decide) (hcd : (y == ("__classdict__" : Str)) = false := by decide)
    (hs : swapsWith e (some (.Subscript (.Name y p) i pos')) pos.line X.env = pure false := by rfl) : DS X c (.Assign [.Subscript (.Name y p) i pos'] e pos) (sDPut (tVar j) ty tv) (sDPutT j my mv) := ⟨ps_dput hu (pv j hN hvs hd hcd) hk.p hv.p hs, r_dputT hk.r hv.r⟩
end
end DL
set_option autoImplicit false
namespace DL
open PySem PySem.Spec PyProof.Rows L2
end DL
set_option autoImplicit false
namespace DL
open PySem PySem.Spec PyProof.Rows L2
end DL
set_option autoImplicit false
namespace DL
open PySem PySem.Spec PyProof.Rows L2
end DL
set_option autoImplicit false
namespace DL
open PySem PySem.Spec PyProof.Rows L2
end DL
namespace My
open PySem PySem.Spec PyProof.Rows L2 DL
def topS (i : Nat) : Stmt := PySem.Challenge.pw_touchpasses_k11_whole_numbers_played.main.body.getD i (.Pass ⟨0, 0, 0, 0⟩)
abbrev sis_integer : Stmt := topS 21
theorem scis_integer : FnScope ["value"] ["value"] (defScope sis_integer) := ⟨rfl, rfl, rfl, by decide +kernel, rfl, by decide +kernel, by decide +kernel⟩
abbrev sis_between : Stmt := topS 22
theorem scis_between : FnScope ["value", "low", "high"] ["value", "low", "high"] (defScope sis_between) := ⟨rfl, rfl, rfl, by decide +kernel, rfl, by decide +kernel, by decide +kernel⟩
abbrev sis_name : Stmt := topS 23
theorem scis_name : FnScope ["value", "sign"] ["value"] (defScope sis_name) := ⟨rfl, rfl, rfl, by decide +kernel, rfl, by decide +kernel, by decide +kernel⟩
abbrev sis_word : Stmt := topS 24
theorem scis_word : FnScope ["value", "words"] ["value", "words"] (defScope sis_word) := ⟨rfl, rfl, rfl, by decide +kernel, rfl, by decide +kernel, by decide +kernel⟩
abbrev sis_stretch : Stmt := topS 25
theorem scis_stretch : FnScope ["value", "low", "high"] ["value", "low", "high"] (defScope sis_stretch) := ⟨rfl, rfl, rfl, by decide +kernel, rfl, by decide +kernel, by decide +kernel⟩
abbrev sis_length : Stmt := topS 35
theorem scis_length : FnScope ["value"] ["value"] (defScope sis_length) := ⟨rfl, rfl, rfl, by decide +kernel, rfl, by decide +kernel, by decide +kernel⟩
abbrev sare_touches : Stmt := topS 36
theorem scare_touches : FnScope ["value", "first", "last", "low", "stretch"] ["value", "first", "last"] (defScope sare_touches) := ⟨rfl, rfl, rfl, by decide +kernel, rfl, by decide +kernel, by decide +kernel⟩
abbrev sis_pass : Stmt := topS 37
theorem scis_pass : FnScope ["value", "length", "name", "mode", "first", "last", "touches", "glide", "tail"] ["value", "length"] (defScope sis_pass) := ⟨rfl, rfl, rfl, by decide +kernel, rfl, by decide +kernel, by decide +kernel⟩
abbrev sfirst_wrong : Stmt := topS 38
theorem scfirst_wrong : FnScope ["passes", "length", "names", "at", "one"] ["passes", "length"] (defScope sfirst_wrong) := ⟨rfl, rfl, rfl, by decide +kernel, rfl, by decide +kernel, by decide +kernel⟩
abbrev sTrack_init : Stmt := inClass (topS 53) 0
theorem scTrack_init : FnScope ["self", "length", "passes", "wrong"] ["self", "length", "passes"] (defScope sTrack_init) := ⟨rfl, rfl, rfl, by decide +kernel, rfl, by decide +kernel, by decide +kernel⟩
abbrev sTrack_length : Stmt := inClass (topS 53) 2
theorem scTrack_length : FnScope ["self"] ["self"] (defScope sTrack_length) := ⟨rfl, rfl, rfl, by decide +kernel, rfl, by decide +kernel, by decide +kernel⟩
abbrev sTrack_passes : Stmt := inClass (topS 53) 3
theorem scTrack_passes : FnScope ["self"] ["self"] (defScope sTrack_passes) := ⟨rfl, rfl, rfl, by decide +kernel, rfl, by decide +kernel, by decide +kernel⟩
abbrev scheck_track : Stmt := topS 55
theorem sccheck_track : FnScope ["value"] ["value"] (defScope scheck_track) := ⟨rfl, rfl, rfl, by decide +kernel, rfl, by decide +kernel, by decide +kernel⟩
abbrev scheck_tick : Stmt := topS 56
theorem sccheck_tick : FnScope ["track", "value"] ["track", "value"] (defScope scheck_tick) := ⟨rfl, rfl, rfl, by decide +kernel, rfl, by decide +kernel, by decide +kernel⟩
abbrev slowest : Stmt := topS 60
theorem sclowest : FnScope ["top", "bottom", "shared"] ["top", "bottom"] (defScope slowest) := ⟨rfl, rfl, rfl, by decide +kernel, rfl, by decide +kernel, by decide +kernel⟩
abbrev splus : Stmt := topS 61
theorem scplus : FnScope ["one", "other"] ["one", "other"] (defScope splus) := ⟨rfl, rfl, rfl, by decide +kernel, rfl, by decide +kernel, by decide +kernel⟩
abbrev stimes : Stmt := topS 62
theorem sctimes : FnScope ["one", "other"] ["one", "other"] (defScope stimes) := ⟨rfl, rfl, rfl, by decide +kernel, rfl, by decide +kernel, by decide +kernel⟩
abbrev send_of : Stmt := topS 64
theorem scend_of : FnScope ["one_pass", "length", "_", "last", "tail"] ["one_pass", "length"] (defScope send_of) := ⟨rfl, rfl, rfl, by decide +kernel, rfl, by decide +kernel, by decide +kernel⟩
abbrev slast_touch : Stmt := topS 65
theorem sclast_touch : FnScope ["touches", "tick", "found", "first", "end"] ["touches", "tick"] (defScope slast_touch) := ⟨rfl, rfl, rfl, by decide +kernel, rfl, by decide +kernel, by decide +kernel⟩
abbrev swritten : Stmt := topS 66
theorem scwritten : FnScope ["one_pass", "length", "tick", "_", "mode", "first", "touches", "glide", "hand", "gone", "rest"] ["one_pass", "length", "tick"] (defScope swritten) := ⟨rfl, rfl, rfl, by decide +kernel, rfl, by decide +kernel, by decide +kernel⟩
abbrev staken_by : Stmt := topS 67
theorem sctaken_by : FnScope ["one_pass", "length", "left", "tick", "weight", "told", "hand", "share", "place", "rest", "taken"] ["one_pass", "length", "left"] (defScope staken_by) := ⟨rfl, rfl, rfl, by decide +kernel, rfl, by decide +kernel, by decide +kernel⟩
abbrev sform_of : Stmt := topS 68
theorem scform_of : FnScope ["passes", "length", "tick", "terms", "left", "one", "taken"] ["passes", "length", "tick"] (defScope sform_of) := ⟨rfl, rfl, rfl, by decide +kernel, rfl, by decide +kernel, by decide +kernel⟩
abbrev sform : Stmt := topS 70
theorem scform : FnScope ["track", "tick"] ["track", "tick"] (defScope sform) := ⟨rfl, rfl, rfl, by decide +kernel, rfl, by decide +kernel, by decide +kernel⟩
abbrev sis_known : Stmt := topS 71
theorem scis_known : FnScope ["value", "source", "tick", "number"] ["value"] (defScope sis_known) := ⟨rfl, rfl, rfl, by decide +kernel, rfl, by decide +kernel, by decide +kernel⟩
abbrev snumbers_in : Stmt := topS 72
theorem scnumbers_in : FnScope ["known", "numbers", "at", "triple"] ["known"] (defScope snumbers_in) := ⟨rfl, rfl, rfl, by decide +kernel, rfl, by decide +kernel, by decide +kernel⟩
abbrev snumber_at : Stmt := topS 73
theorem scnumber_at : FnScope ["track", "tick", "known", "terms", "numbers", "total", "source", "place", "weight"] ["track", "tick", "known"] (defScope snumber_at) := ⟨rfl, rfl, rfl, by decide +kernel, rfl, by decide +kernel, by decide +kernel⟩
abbrev slaw_purse : Stmt := topS 75
theorem sclaw_purse : FnScope ["script", "k", "cell", "digits", "seed"] ["script", "k"] (defScope slaw_purse) := ⟨rfl, rfl, rfl, by decide +kernel, rfl, by decide +kernel, by decide +kernel⟩
abbrev slaw_draw : Stmt := topS 76
theorem sclaw_draw : FnScope ["purse", "size", "seed", "by", "digit"] ["purse", "size"] (defScope slaw_draw) := ⟨rfl, rfl, rfl, by decide +kernel, rfl, by decide +kernel, by decide +kernel⟩
abbrev slaw_pick : Stmt := topS 77
theorem sclaw_pick : FnScope ["purse", "menu"] ["purse", "menu"] (defScope slaw_pick) := ⟨rfl, rfl, rfl, by decide +kernel, rfl, by decide +kernel, by decide +kernel⟩
abbrev slaw_wide : Stmt := topS 78
theorem sclaw_wide : FnScope ["purse", "size"] ["purse", "size"] (defScope slaw_wide) := ⟨rfl, rfl, rfl, by decide +kernel, rfl, by decide +kernel, by decide +kernel⟩
abbrev slaw_low : Stmt := topS 79
theorem sclaw_low : FnScope ["top", "bottom", "high", "less"] ["top", "bottom"] (defScope slaw_low) := ⟨rfl, rfl, rfl, by decide +kernel, rfl, by decide +kernel, by decide +kernel⟩
abbrev slaw_touches : Stmt := topS 80
theorem sclaw_touches : FnScope ["purse", "first", "last", "many", "wide", "found", "at", "k", "a", "b"] ["purse", "first", "last", "many", "wide"] (defScope slaw_touches) := ⟨rfl, rfl, rfl, by decide +kernel, rfl, by decide +kernel, by decide +kernel⟩
abbrev slaw_pass : Stmt := topS 81
theorem sclaw_pass : FnScope ["purse", "name_here", "long", "wide", "first", "last", "touches_here", "mode", "slide", "tail"] ["purse", "name_here", "long", "wide"] (defScope slaw_pass) := ⟨rfl, rfl, rfl, by decide +kernel, rfl, by decide +kernel, by decide +kernel⟩
abbrev slaw_row : Stmt := topS 82
theorem sclaw_row : FnScope ["purse", "long", "many", "wide", "names_here", "at", "k"] ["purse", "long", "many", "wide"] (defScope slaw_row) := ⟨rfl, rfl, rfl, by decide +kernel, rfl, by decide +kernel, by decide +kernel⟩
abbrev slaw_words : Stmt := topS 83
theorem sclaw_words : FnScope ["purse", "some", "at"] ["purse"] (defScope slaw_words) := ⟨rfl, rfl, rfl, by decide +kernel, rfl, by decide +kernel, by decide +kernel⟩
abbrev slaw_fader : Stmt := topS 84
theorem sclaw_fader : FnScope ["purse", "word", "long", "first", "some", "k", "last", "wide", "marks", "mode", "slide", "tail"] ["purse", "word", "long"] (defScope slaw_fader) := ⟨rfl, rfl, rfl, by decide +kernel, rfl, by decide +kernel, by decide +kernel⟩
abbrev slaw_faders : Stmt := topS 85
theorem sclaw_faders : FnScope ["purse", "long", "many", "words", "k"] ["purse", "long", "many"] (defScope slaw_faders) := ⟨rfl, rfl, rfl, by decide +kernel, rfl, by decide +kernel, by decide +kernel⟩
abbrev slaw_move : Stmt := topS 86
theorem sclaw_move : FnScope ["ahead", "k", "spot", "hand", "fader", "mode", "slide", "top", "bottom", "share"] ["ahead", "k", "spot", "hand", "fader"] (defScope slaw_move) := ⟨rfl, rfl, rfl, by decide +kernel, rfl, by decide +kernel, by decide +kernel⟩
abbrev slaw_played : Stmt := topS 87
theorem sclaw_played : FnScope ["olds", "hands", "some", "ahead", "each", "fader", "word", "mode", "first", "last", "marks", "slide", "tail", "later", "spot", "k", "a", "b"] ["olds", "hands", "some"] (defScope slaw_played) := ⟨rfl, rfl, rfl, by decide +kernel, rfl, by decide +kernel, by decide +kernel⟩
abbrev slaw_right : Stmt := topS 88
theorem sclaw_right : FnScope ["purse", "long", "some", "size", "olds", "hands", "k", "facts", "each", "a", "b", "at", "mine", "due"] ["purse"] (defScope slaw_right) := ⟨rfl, rfl, rfl, by decide +kernel, rfl, by decide +kernel, by decide +kernel⟩
abbrev slaw : Stmt := topS 89
theorem sclaw : FnScope ["script", "mine", "k"] ["script"] (defScope slaw) := ⟨rfl, rfl, rfl, by decide +kernel, rfl, by decide +kernel, by decide +kernel⟩
structure Txt (pr : Params) (K : PySem.W.Frag) (mg : Str → Option Value) where
  C : Addr
  gC : mg "Track" = some (.ref C)
  cl : Cls K C
  kC : PySem.W.keepIn K (.ref C) = true
  makes : PySem.W.makesIn K C = true
  isC : IsCT K C
  n_length : NoAttr K C "_length"
  n_passes : NoAttr K C "_passes"
  is_integer : Df K mg "is_integer" sis_integer ["value"]
  is_between : Df K mg "is_between" sis_between ["value", "low", "high"]
  is_name : Df K mg "is_name" sis_name ["value"]
  is_word : Df K mg "is_word" sis_word ["value", "words"]
  is_stretch : Df K mg "is_stretch" sis_stretch ["value", "low", "high"]
  is_length : Df K mg "is_length" sis_length ["value"]
  are_touches : Df K mg "are_touches" sare_touches ["value", "first", "last"]
  is_pass : Df K mg "is_pass" sis_pass ["value", "length"]
  first_wrong : Df K mg "first_wrong" sfirst_wrong ["passes", "length"]
  e_Track_init : Addr
  et_Track_init : ∀ H : Hp, SqT K H e_Track_init []
  Track_init : Dd K C "__init__" "Track.__init__" sTrack_init ["self", "length", "passes"] (.ref e_Track_init)
  Track_length : Dp' K C "length" "Track.length" sTrack_length
  Track_passes : Dp' K C "passes" "Track.passes" sTrack_passes
  check_track : Df K mg "check_track" scheck_track ["value"]
  check_tick : Df K mg "check_tick" scheck_tick ["track", "value"]
  lowest : Df K mg "lowest" slowest ["top", "bottom"]
  plus : Df K mg "plus" splus ["one", "other"]
  times : Df K mg "times" stimes ["one", "other"]
  end_of : Df K mg "end_of" send_of ["one_pass", "length"]
  last_touch : Df K mg "last_touch" slast_touch ["touches", "tick"]
  written : Df K mg "written" swritten ["one_pass", "length", "tick"]
  taken_by : Df K mg "taken_by" staken_by ["one_pass", "length", "left"]
  form_of : Df K mg "form_of" sform_of ["passes", "length", "tick"]
  form : Df K mg "form" sform ["track", "tick"]
  is_known : Df K mg "is_known" sis_known ["value"]
  numbers_in : Df K mg "numbers_in" snumbers_in ["known"]
  number_at : Df K mg "number_at" snumber_at ["track", "tick", "known"]
  law_purse : Df K mg "_law_purse" slaw_purse ["script", "k"]
  law_draw : Df K mg "_law_draw" slaw_draw ["purse", "size"]
  law_pick : Df K mg "_law_pick" slaw_pick ["purse", "menu"]
  law_wide : Df K mg "_law_wide" slaw_wide ["purse", "size"]
  law_low : Df K mg "_law_low" slaw_low ["top", "bottom"]
  law_touches : Df K mg "_law_touches" slaw_touches ["purse", "first", "last", "many", "wide"]
  law_pass : Df K mg "_law_pass" slaw_pass ["purse", "name_here", "long", "wide"]
  law_row : Df K mg "_law_row" slaw_row ["purse", "long", "many", "wide"]
  law_words : Df K mg "_law_words" slaw_words ["purse"]
  law_fader : Df K mg "_law_fader" slaw_fader ["purse", "word", "long"]
  law_faders : Df K mg "_law_faders" slaw_faders ["purse", "long", "many"]
  law_move : Df K mg "_law_move" slaw_move ["ahead", "k", "spot", "hand", "fader"]
  law_played : Df K mg "_law_played" slaw_played ["olds", "hands", "some"]
  law_right : Df K mg "_law_right" slaw_right ["purse"]
  law : Df K mg "law" slaw ["script"]
  c_LETTERS : L2.Cs mg "LETTERS" "abcdefghijklmnopqrstuvwxyz"
  c_DIGITS : L2.Cs mg "DIGITS" "0123456789"
  c_MOST_SIGNS : L2.Ci mg "MOST_SIGNS" 8
  c_MOST_LENGTH : L2.Ci mg "MOST_LENGTH" 1000000000000
  c_MOST_PASSES : L2.Ci mg "MOST_PASSES" 8
  c_MOST_TOUCHES : L2.Ci mg "MOST_TOUCHES" 6
  c_MOST_GLIDE : L2.Ci mg "MOST_GLIDE" 100
  c_OLD : L2.Cs mg "OLD" "old"
  c_MODES : L2.Ct K mg "MODES" [.str "write", .str "latch", .str "touch", .str "trim"]
  c_TAILS : L2.Ct K mg "TAILS" [.str "stop", .str "on"]
  c_SIZE : L2.Ci mg "SIZE" 7
  c_NOTHING : L2.Ct K mg "NOTHING" [.int 0, .int 1]
  c_WHOLE : L2.Ct K mg "WHOLE" [.int 1, .int 1]
  z_len : mg "len" = none
  z_isinstance : mg "isinstance" = none
  z_int : mg "int" = none
  z_bool : mg "bool" = none
  z_str : mg "str" = none
  z_tuple : mg "tuple" = none
  z_list : mg "list" = none
  z_all : mg "all" = none
  z_range : mg "range" = none
  z_enumerate : mg "enumerate" = none
  z_abs : mg "abs" = none
  z_divmod : mg "divmod" = none
  z_max : mg "max" = none
  z_min : mg "min" = none
  z_repr : mg "repr" = none
  z_sorted : mg "sorted" = none
  g_gcd : mg "gcd" = some (.builtin "math.gcd")
end My
namespace My
open PySem PySem.Spec PyProof.Rows L2 DL
set_option maxHeartbeats 0 in
theorem mk_txt {pr : Params} {K : PySem.W.Frag} {h : Heap} {mg : Str → Option Value} (X : K.In h) (G : h.Ns mainGlobals mg)
    {C : Addr}
    {f_is_integer : Addr} {od_is_integer an_is_integer : Option Addr} {sl_is_integer : Array (Option Value)} {oc_is_integer kV_is_integer dc_is_integer pm_is_integer cd_is_integer ct_is_integer : Value}
    {f_is_between : Addr} {od_is_between an_is_between : Option Addr} {sl_is_between : Array (Option Value)} {oc_is_between kV_is_between dc_is_between pm_is_between cd_is_between ct_is_between : Value}
    {f_is_name : Addr} {od_is_name an_is_name : Option Addr} {sl_is_name : Array (Option Value)} {oc_is_name kV_is_name dc_is_name pm_is_name cd_is_name ct_is_name : Value}
    {f_is_word : Addr} {od_is_word an_is_word : Option Addr} {sl_is_word : Array (Option Value)} {oc_is_word kV_is_word dc_is_word pm_is_word cd_is_word ct_is_word : Value}
    {f_is_stretch : Addr} {od_is_stretch an_is_stretch : Option Addr} {sl_is_stretch : Array (Option Value)} {oc_is_stretch kV_is_stretch dc_is_stretch pm_is_stretch cd_is_stretch ct_is_stretch : Value}
    {f_is_length : Addr} {od_is_length an_is_length : Option Addr} {sl_is_length : Array (Option Value)} {oc_is_length kV_is_length dc_is_length pm_is_length cd_is_length ct_is_length : Value}
    {f_are_touches : Addr} {od_are_touches an_are_touches : Option Addr} {sl_are_touches : Array (Option Value)} {oc_are_touches kV_are_touches dc_are_touches pm_are_touches cd_are_touches ct_are_touches : Value}
    {f_is_pass : Addr} {od_is_pass an_is_pass : Option Addr} {sl_is_pass : Array (Option Value)} {oc_is_pass kV_is_pass dc_is_pass pm_is_pass cd_is_pass ct_is_pass : Value}
    {f_first_wrong : Addr} {od_first_wrong an_first_wrong : Option Addr} {sl_first_wrong : Array (Option Value)} {oc_first_wrong kV_first_wrong dc_first_wrong pm_first_wrong cd_first_wrong ct_first_wrong : Value}
    {f_Track_init : Addr} {od_Track_init an_Track_init : Option Addr} {sl_Track_init : Array (Option Value)} {oc_Track_init kV_Track_init dc_Track_init pm_Track_init cd_Track_init ct_Track_init : Value}
    {T_Track_init : Addr} {to_Track_init : Value} {td_Track_init : Option Addr} {ts_Track_init : Array (Option Value)} {tn_Track_init : Nat}
    {e_Track_init : Addr} {eo_Track_init : Option Addr} {es_Track_init : Array (Option Value)} {en_Track_init : Nat}
    {f_Track_length : Addr} {od_Track_length an_Track_length : Option Addr} {sl_Track_length : Array (Option Value)} {oc_Track_length kV_Track_length dc_Track_length pm_Track_length cd_Track_length ct_Track_length : Value}
    {p_Track_length : Addr} {pr_Track_length : List Value}
    {f_Track_passes : Addr} {od_Track_passes an_Track_passes : Option Addr} {sl_Track_passes : Array (Option Value)} {oc_Track_passes kV_Track_passes dc_Track_passes pm_Track_passes cd_Track_passes ct_Track_passes : Value}
    {p_Track_passes : Addr} {pr_Track_passes : List Value}
    {f_check_track : Addr} {od_check_track an_check_track : Option Addr} {sl_check_track : Array (Option Value)} {oc_check_track kV_check_track dc_check_track pm_check_track cd_check_track ct_check_track : Value}
    {f_check_tick : Addr} {od_check_tick an_check_tick : Option Addr} {sl_check_tick : Array (Option Value)} {oc_check_tick kV_check_tick dc_check_tick pm_check_tick cd_check_tick ct_check_tick : Value}
    {f_lowest : Addr} {od_lowest an_lowest : Option Addr} {sl_lowest : Array (Option Value)} {oc_lowest kV_lowest dc_lowest pm_lowest cd_lowest ct_lowest : Value}
    {f_plus : Addr} {od_plus an_plus : Option Addr} {sl_plus : Array (Option Value)} {oc_plus kV_plus dc_plus pm_plus cd_plus ct_plus : Value}
    {f_times : Addr} {od_times an_times : Option Addr} {sl_times : Array (Option Value)} {oc_times kV_times dc_times pm_times cd_times ct_times : Value}
    {f_end_of : Addr} {od_end_of an_end_of : Option Addr} {sl_end_of : Array (Option Value)} {oc_end_of kV_end_of dc_end_of pm_end_of cd_end_of ct_end_of : Value}
    {f_last_touch : Addr} {od_last_touch an_last_touch : Option Addr} {sl_last_touch : Array (Option Value)} {oc_last_touch kV_last_touch dc_last_touch pm_last_touch cd_last_touch ct_last_touch : Value}
    {f_written : Addr} {od_written an_written : Option Addr} {sl_written : Array (Option Value)} {oc_written kV_written dc_written pm_written cd_written ct_written : Value}
    {f_taken_by : Addr} {od_taken_by an_taken_by : Option Addr} {sl_taken_by : Array (Option Value)} {oc_taken_by kV_taken_by dc_taken_by pm_taken_by cd_taken_by ct_taken_by : Value}
    {f_form_of : Addr} {od_form_of an_form_of : Option Addr} {sl_form_of : Array (Option Value)} {oc_form_of kV_form_of dc_form_of pm_form_of cd_form_of ct_form_of : Value}
    {f_form : Addr} {od_form an_form : Option Addr} {sl_form : Array (Option Value)} {oc_form kV_form dc_form pm_form cd_form ct_form : Value}
    {f_is_known : Addr} {od_is_known an_is_known : Option Addr} {sl_is_known : Array (Option Value)} {oc_is_known kV_is_known dc_is_known pm_is_known cd_is_known ct_is_known : Value}
    {f_numbers_in : Addr} {od_numbers_in an_numbers_in : Option Addr} {sl_numbers_in : Array (Option Value)} {oc_numbers_in kV_numbers_in dc_numbers_in pm_numbers_in cd_numbers_in ct_numbers_in : Value}
    {f_number_at : Addr} {od_number_at an_number_at : Option Addr} {sl_number_at : Array (Option Value)} {oc_number_at kV_number_at dc_number_at pm_number_at cd_number_at ct_number_at : Value}
    {f_law_purse : Addr} {od_law_purse an_law_purse : Option Addr} {sl_law_purse : Array (Option Value)} {oc_law_purse kV_law_purse dc_law_purse pm_law_purse cd_law_purse ct_law_purse : Value}
    {f_law_draw : Addr} {od_law_draw an_law_draw : Option Addr} {sl_law_draw : Array (Option Value)} {oc_law_draw kV_law_draw dc_law_draw pm_law_draw cd_law_draw ct_law_draw : Value}
    {f_law_pick : Addr} {od_law_pick an_law_pick : Option Addr} {sl_law_pick : Array (Option Value)} {oc_law_pick kV_law_pick dc_law_pick pm_law_pick cd_law_pick ct_law_pick : Value}
    {f_law_wide : Addr} {od_law_wide an_law_wide : Option Addr} {sl_law_wide : Array (Option Value)} {oc_law_wide kV_law_wide dc_law_wide pm_law_wide cd_law_wide ct_law_wide : Value}
    {f_law_low : Addr} {od_law_low an_law_low : Option Addr} {sl_law_low : Array (Option Value)} {oc_law_low kV_law_low dc_law_low pm_law_low cd_law_low ct_law_low : Value}
    {f_law_touches : Addr} {od_law_touches an_law_touches : Option Addr} {sl_law_touches : Array (Option Value)} {oc_law_touches kV_law_touches dc_law_touches pm_law_touches cd_law_touches ct_law_touches : Value}
    {f_law_pass : Addr} {od_law_pass an_law_pass : Option Addr} {sl_law_pass : Array (Option Value)} {oc_law_pass kV_law_pass dc_law_pass pm_law_pass cd_law_pass ct_law_pass : Value}
    {f_law_row : Addr} {od_law_row an_law_row : Option Addr} {sl_law_row : Array (Option Value)} {oc_law_row kV_law_row dc_law_row pm_law_row cd_law_row ct_law_row : Value}
    {f_law_words : Addr} {od_law_words an_law_words : Option Addr} {sl_law_words : Array (Option Value)} {oc_law_words kV_law_words dc_law_words pm_law_words cd_law_words ct_law_words : Value}
    {f_law_fader : Addr} {od_law_fader an_law_fader : Option Addr} {sl_law_fader : Array (Option Value)} {oc_law_fader kV_law_fader dc_law_fader pm_law_fader cd_law_fader ct_law_fader : Value}
    {f_law_faders : Addr} {od_law_faders an_law_faders : Option Addr} {sl_law_faders : Array (Option Value)} {oc_law_faders kV_law_faders dc_law_faders pm_law_faders cd_law_faders ct_law_faders : Value}
    {f_law_move : Addr} {od_law_move an_law_move : Option Addr} {sl_law_move : Array (Option Value)} {oc_law_move kV_law_move dc_law_move pm_law_move cd_law_move ct_law_move : Value}
    {f_law_played : Addr} {od_law_played an_law_played : Option Addr} {sl_law_played : Array (Option Value)} {oc_law_played kV_law_played dc_law_played pm_law_played cd_law_played ct_law_played : Value}
    {f_law_right : Addr} {od_law_right an_law_right : Option Addr} {sl_law_right : Array (Option Value)} {oc_law_right kV_law_right dc_law_right pm_law_right cd_law_right ct_law_right : Value}
    {f_law : Addr} {od_law an_law : Option Addr} {sl_law : Array (Option Value)} {oc_law kV_law dc_law pm_law cd_law ct_law : Value}
    {t_LETTERS : Tok}
    {t_DIGITS : Tok}
    {t_MOST_SIGNS : Tok}
    {t_MOST_LENGTH : Tok}
    {t_MOST_PASSES : Tok}
    {t_MOST_TOUCHES : Tok}
    {t_MOST_GLIDE : Tok}
    {t_OLD : Tok}
    {a_MODES : Addr} {o_MODES : Option Addr} {s_MODES : Array (Option Value)} {n_MODES : Nat} {t0_MODES t1_MODES t2_MODES t3_MODES : Tok}
    {a_TAILS : Addr} {o_TAILS : Option Addr} {s_TAILS : Array (Option Value)} {n_TAILS : Nat} {t0_TAILS t1_TAILS : Tok}
    {t_SIZE : Tok}
    {a_NOTHING : Addr} {o_NOTHING : Option Addr} {s_NOTHING : Array (Option Value)} {n_NOTHING : Nat} {t0_NOTHING t1_NOTHING : Tok}
    {a_WHOLE : Addr} {o_WHOLE : Option Addr} {s_WHOLE : Array (Option Value)} {n_WHOLE : Nat} {t0_WHOLE t1_WHOLE : Tok}
    (aC : PySem.W.nsIn K mainGlobals "Track" = some (some (.ref C)))
    (cpg : PySem.W.plainGet K C Str.empty = true)
    (chd : PySem.W.hasDictIn K C = true)
    (cpo : PySem.W.plainOver K C = true)
    (csa : PySem.W.findIn K (.ref C) "__setattr__" = some (some (.builtin "object.__setattr__")))
    (cmk : PySem.W.makesIn K C = true)
    (ckc : PySem.W.keepIn K (.ref C) = true)
    (cca : PySem.W.findIn K (.ref C) "__class__" = some (some (.builtin "object.__class__")))
    (ccn : PySem.W.specialIn K (.builtin "object.__class__") "__get__" = some (some (.builtin "getset_descriptor.__get__")))
    (cct : PySem.W.takesIn K (.builtin "object.__class__") = some true)
    (ccm : PySem.W.mroIn K C (.type "object") = some true)
    (na_length : PySem.W.findIn K (.ref C) "_length" = some none)
    (na_passes : PySem.W.findIn K (.ref C) "_passes" = some none)
    (a_is_integer : PySem.W.nsIn K mainGlobals "is_integer" = some (some (.ref f_is_integer)))
    (l_is_integer : K.lookup f_is_integer = some ⟨oc_is_integer, od_is_integer, .func (PySem.W.fnOf "is_integer" "is_integer" (defArgs sis_integer) (defBody sis_integer) (defScope sis_integer) .none kV_is_integer dc_is_integer pm_is_integer an_is_integer cd_is_integer ct_is_integer), sl_is_integer⟩)
    (c_is_integer : PySem.W.codeIn K cd_is_integer "is_integer" = true)
    (k_is_integer : PySem.W.keepIn K (.ref f_is_integer) = true)
    (a_is_between : PySem.W.nsIn K mainGlobals "is_between" = some (some (.ref f_is_between)))
    (l_is_between : K.lookup f_is_between = some ⟨oc_is_between, od_is_between, .func (PySem.W.fnOf "is_between" "is_between" (defArgs sis_between) (defBody sis_between) (defScope sis_between) .none kV_is_between dc_is_between pm_is_between an_is_between cd_is_between ct_is_between), sl_is_between⟩)
    (c_is_between : PySem.W.codeIn K cd_is_between "is_between" = true)
    (k_is_between : PySem.W.keepIn K (.ref f_is_between) = true)
    (a_is_name : PySem.W.nsIn K mainGlobals "is_name" = some (some (.ref f_is_name)))
    (l_is_name : K.lookup f_is_name = some ⟨oc_is_name, od_is_name, .func (PySem.W.fnOf "is_name" "is_name" (defArgs sis_name) (defBody sis_name) (defScope sis_name) .none kV_is_name dc_is_name pm_is_name an_is_name cd_is_name ct_is_name), sl_is_name⟩)
    (c_is_name : PySem.W.codeIn K cd_is_name "is_name" = true)
    (k_is_name : PySem.W.keepIn K (.ref f_is_name) = true)
    (a_is_word : PySem.W.nsIn K mainGlobals "is_word" = some (some (.ref f_is_word)))
    (l_is_word : K.lookup f_is_word = some ⟨oc_is_word, od_is_word, .func (PySem.W.fnOf "is_word" "is_word" (defArgs sis_word) (defBody sis_word) (defScope sis_word) .none kV_is_word dc_is_word pm_is_word an_is_word cd_is_word ct_is_word), sl_is_word⟩)
    (c_is_word : PySem.W.codeIn K cd_is_word "is_word" = true)
    (k_is_word : PySem.W.keepIn K (.ref f_is_word) = true)
    (a_is_stretch : PySem.W.nsIn K mainGlobals "is_stretch" = some (some (.ref f_is_stretch)))
    (l_is_stretch : K.lookup f_is_stretch = some ⟨oc_is_stretch, od_is_stretch, .func (PySem.W.fnOf "is_stretch" "is_stretch" (defArgs sis_stretch) (defBody sis_stretch) (defScope sis_stretch) .none kV_is_stretch dc_is_stretch pm_is_stretch an_is_stretch cd_is_stretch ct_is_stretch), sl_is_stretch⟩)
    (c_is_stretch : PySem.W.codeIn K cd_is_stretch "is_stretch" = true)
    (k_is_stretch : PySem.W.keepIn K (.ref f_is_stretch) = true)
    (a_is_length : PySem.W.nsIn K mainGlobals "is_length" = some (some (.ref f_is_length)))
    (l_is_length : K.lookup f_is_length = some ⟨oc_is_length, od_is_length, .func (PySem.W.fnOf "is_length" "is_length" (defArgs sis_length) (defBody sis_length) (defScope sis_length) .none kV_is_length dc_is_length pm_is_length an_is_length cd_is_length ct_is_length), sl_is_length⟩)
    (c_is_length : PySem.W.codeIn K cd_is_length "is_length" = true)
    (k_is_length : PySem.W.keepIn K (.ref f_is_length) = true)
    (a_are_touches : PySem.W.nsIn K mainGlobals "are_touches" = some (some (.ref f_are_touches)))
    (l_are_touches : K.lookup f_are_touches = some ⟨oc_are_touches, od_are_touches, .func (PySem.W.fnOf "are_touches" "are_touches" (defArgs sare_touches) (defBody sare_touches) (defScope sare_touches) .none kV_are_touches dc_are_touches pm_are_touches an_are_touches cd_are_touches ct_are_touches), sl_are_touches⟩)
    (c_are_touches : PySem.W.codeIn K cd_are_touches "are_touches" = true)
    (k_are_touches : PySem.W.keepIn K (.ref f_are_touches) = true)
    (a_is_pass : PySem.W.nsIn K mainGlobals "is_pass" = some (some (.ref f_is_pass)))
    (l_is_pass : K.lookup f_is_pass = some ⟨oc_is_pass, od_is_pass, .func (PySem.W.fnOf "is_pass" "is_pass" (defArgs sis_pass) (defBody sis_pass) (defScope sis_pass) .none kV_is_pass dc_is_pass pm_is_pass an_is_pass cd_is_pass ct_is_pass), sl_is_pass⟩)
    (c_is_pass : PySem.W.codeIn K cd_is_pass "is_pass" = true)
    (k_is_pass : PySem.W.keepIn K (.ref f_is_pass) = true)
    (a_first_wrong : PySem.W.nsIn K mainGlobals "first_wrong" = some (some (.ref f_first_wrong)))
    (l_first_wrong : K.lookup f_first_wrong = some ⟨oc_first_wrong, od_first_wrong, .func (PySem.W.fnOf "first_wrong" "first_wrong" (defArgs sfirst_wrong) (defBody sfirst_wrong) (defScope sfirst_wrong) .none kV_first_wrong dc_first_wrong pm_first_wrong an_first_wrong cd_first_wrong ct_first_wrong), sl_first_wrong⟩)
    (c_first_wrong : PySem.W.codeIn K cd_first_wrong "first_wrong" = true)
    (k_first_wrong : PySem.W.keepIn K (.ref f_first_wrong) = true)
    (a_Track_init : PySem.W.findIn K (.ref C) "__init__" = some (some (.ref f_Track_init)))
    (i_Track_init : PySem.W.isFn K (.ref f_Track_init) = true)
    (l_Track_init : K.lookup f_Track_init = some ⟨oc_Track_init, od_Track_init, .func (PySem.W.fnOf "__init__" "Track.__init__" (defArgs sTrack_init) (defBody sTrack_init) (defScope sTrack_init) (.ref T_Track_init) kV_Track_init dc_Track_init pm_Track_init an_Track_init cd_Track_init ct_Track_init), sl_Track_init⟩)
    (c_Track_init : PySem.W.codeIn K cd_Track_init "Track.__init__" = true)
    (k_Track_init : PySem.W.keepIn K (.ref f_Track_init) = true)
    (t_Track_init : K.lookup T_Track_init = some ⟨to_Track_init, td_Track_init, .seq #[.ref e_Track_init] tn_Track_init, ts_Track_init⟩)
    (e_Track_init_at : K.lookup e_Track_init = some ⟨.type "tuple", eo_Track_init, .seq #[] en_Track_init, es_Track_init⟩)
    (a_Track_length : PySem.W.findIn K (.ref C) "length" = some (some (.ref p_Track_length)))
    (pg_Track_length : PySem.W.specialIn K (.ref p_Track_length) "__get__" = some (some (.builtin "property.__get__")))
    (pt_Track_length : PySem.W.takesIn K (.ref p_Track_length) = some true)
    (pr_Track_length_at : PySem.W.recIn K p_Track_length "property" = some (.ref f_Track_length :: pr_Track_length))
    (l_Track_length : K.lookup f_Track_length = some ⟨oc_Track_length, od_Track_length, .func (PySem.W.fnOf "length" "Track.length" (defArgs sTrack_length) (defBody sTrack_length) (defScope sTrack_length) .none kV_Track_length dc_Track_length pm_Track_length an_Track_length cd_Track_length ct_Track_length), sl_Track_length⟩)
    (c_Track_length : PySem.W.codeIn K cd_Track_length "Track.length" = true)
    (k_Track_length : PySem.W.keepIn K (.ref f_Track_length) = true)
    (a_Track_passes : PySem.W.findIn K (.ref C) "passes" = some (some (.ref p_Track_passes)))
    (pg_Track_passes : PySem.W.specialIn K (.ref p_Track_passes) "__get__" = some (some (.builtin "property.__get__")))
    (pt_Track_passes : PySem.W.takesIn K (.ref p_Track_passes) = some true)
    (pr_Track_passes_at : PySem.W.recIn K p_Track_passes "property" = some (.ref f_Track_passes :: pr_Track_passes))
    (l_Track_passes : K.lookup f_Track_passes = some ⟨oc_Track_passes, od_Track_passes, .func (PySem.W.fnOf "passes" "Track.passes" (defArgs sTrack_passes) (defBody sTrack_passes) (defScope sTrack_passes) .none kV_Track_passes dc_Track_passes pm_Track_passes an_Track_passes cd_Track_passes ct_Track_passes), sl_Track_passes⟩)
    (c_Track_passes : PySem.W.codeIn K cd_Track_passes "Track.passes" = true)
    (k_Track_passes : PySem.W.keepIn K (.ref f_Track_passes) = true)
    (a_check_track : PySem.W.nsIn K mainGlobals "check_track" = some (some (.ref f_check_track)))
    (l_check_track : K.lookup f_check_track = some ⟨oc_check_track, od_check_track, .func (PySem.W.fnOf "check_track" "check_track" (defArgs scheck_track) (defBody scheck_track) (defScope scheck_track) .none kV_check_track dc_check_track pm_check_track an_check_track cd_check_track ct_check_track), sl_check_track⟩)
    (c_check_track : PySem.W.codeIn K cd_check_track "check_track" = true)
    (k_check_track : PySem.W.keepIn K (.ref f_check_track) = true)
    (a_check_tick : PySem.W.nsIn K mainGlobals "check_tick" = some (some (.ref f_check_tick)))
    (l_check_tick : K.lookup f_check_tick = some ⟨oc_check_tick, od_check_tick, .func (PySem.W.fnOf "check_tick" "check_tick" (defArgs scheck_tick) (defBody scheck_tick) (defScope scheck_tick) .none kV_check_tick dc_check_tick pm_check_tick an_check_tick cd_check_tick ct_check_tick), sl_check_tick⟩)
    (c_check_tick : PySem.W.codeIn K cd_check_tick "check_tick" = true)
    (k_check_tick : PySem.W.keepIn K (.ref f_check_tick) = true)
    (a_lowest : PySem.W.nsIn K mainGlobals "lowest" = some (some (.ref f_lowest)))
    (l_lowest : K.lookup f_lowest = some ⟨oc_lowest, od_lowest, .func (PySem.W.fnOf "lowest" "lowest" (defArgs slowest) (defBody slowest) (defScope slowest) .none kV_lowest dc_lowest pm_lowest an_lowest cd_lowest ct_lowest), sl_lowest⟩)
    (c_lowest : PySem.W.codeIn K cd_lowest "lowest" = true)
    (k_lowest : PySem.W.keepIn K (.ref f_lowest) = true)
    (a_plus : PySem.W.nsIn K mainGlobals "plus" = some (some (.ref f_plus)))
    (l_plus : K.lookup f_plus = some ⟨oc_plus, od_plus, .func (PySem.W.fnOf "plus" "plus" (defArgs splus) (defBody splus) (defScope splus) .none kV_plus dc_plus pm_plus an_plus cd_plus ct_plus), sl_plus⟩)
    (c_plus : PySem.W.codeIn K cd_plus "plus" = true)
    (k_plus : PySem.W.keepIn K (.ref f_plus) = true)
    (a_times : PySem.W.nsIn K mainGlobals "times" = some (some (.ref f_times)))
    (l_times : K.lookup f_times = some ⟨oc_times, od_times, .func (PySem.W.fnOf "times" "times" (defArgs stimes) (defBody stimes) (defScope stimes) .none kV_times dc_times pm_times an_times cd_times ct_times), sl_times⟩)
    (c_times : PySem.W.codeIn K cd_times "times" = true)
    (k_times : PySem.W.keepIn K (.ref f_times) = true)
    (a_end_of : PySem.W.nsIn K mainGlobals "end_of" = some (some (.ref f_end_of)))
    (l_end_of : K.lookup f_end_of = some ⟨oc_end_of, od_end_of, .func (PySem.W.fnOf "end_of" "end_of" (defArgs send_of) (defBody send_of) (defScope send_of) .none kV_end_of dc_end_of pm_end_of an_end_of cd_end_of ct_end_of), sl_end_of⟩)
    (c_end_of : PySem.W.codeIn K cd_end_of "end_of" = true)
    (k_end_of : PySem.W.keepIn K (.ref f_end_of) = true)
    (a_last_touch : PySem.W.nsIn K mainGlobals "last_touch" = some (some (.ref f_last_touch)))
    (l_last_touch : K.lookup f_last_touch = some ⟨oc_last_touch, od_last_touch, .func (PySem.W.fnOf "last_touch" "last_touch" (defArgs slast_touch) (defBody slast_touch) (defScope slast_touch) .none kV_last_touch dc_last_touch pm_last_touch an_last_touch cd_last_touch ct_last_touch), sl_last_touch⟩)
    (c_last_touch : PySem.W.codeIn K cd_last_touch "last_touch" = true)
    (k_last_touch : PySem.W.keepIn K (.ref f_last_touch) = true)
    (a_written : PySem.W.nsIn K mainGlobals "written" = some (some (.ref f_written)))
    (l_written : K.lookup f_written = some ⟨oc_written, od_written, .func (PySem.W.fnOf "written" "written" (defArgs swritten) (defBody swritten) (defScope swritten) .none kV_written dc_written pm_written an_written cd_written ct_written), sl_written⟩)
    (c_written : PySem.W.codeIn K cd_written "written" = true)
    (k_written : PySem.W.keepIn K (.ref f_written) = true)
    (a_taken_by : PySem.W.nsIn K mainGlobals "taken_by" = some (some (.ref f_taken_by)))
    (l_taken_by : K.lookup f_taken_by = some ⟨oc_taken_by, od_taken_by, .func (PySem.W.fnOf "taken_by" "taken_by" (defArgs staken_by) (defBody staken_by) (defScope staken_by) .none kV_taken_by dc_taken_by pm_taken_by an_taken_by cd_taken_by ct_taken_by), sl_taken_by⟩)
    (c_taken_by : PySem.W.codeIn K cd_taken_by "taken_by" = true)
    (k_taken_by : PySem.W.keepIn K (.ref f_taken_by) = true)
    (a_form_of : PySem.W.nsIn K mainGlobals "form_of" = some (some (.ref f_form_of)))
    (l_form_of : K.lookup f_form_of = some ⟨oc_form_of, od_form_of, .func (PySem.W.fnOf "form_of" "form_of" (defArgs sform_of) (defBody sform_of) (defScope sform_of) .none kV_form_of dc_form_of pm_form_of an_form_of cd_form_of ct_form_of), sl_form_of⟩)
    (c_form_of : PySem.W.codeIn K cd_form_of "form_of" = true)
    (k_form_of : PySem.W.keepIn K (.ref f_form_of) = true)
    (a_form : PySem.W.nsIn K mainGlobals "form" = some (some (.ref f_form)))
    (l_form : K.lookup f_form = some ⟨oc_form, od_form, .func (PySem.W.fnOf "form" "form" (defArgs sform) (defBody sform) (defScope sform) .none kV_form dc_form pm_form an_form cd_form ct_form), sl_form⟩)
    (c_form : PySem.W.codeIn K cd_form "form" = true)
    (k_form : PySem.W.keepIn K (.ref f_form) = true)
    (a_is_known : PySem.W.nsIn K mainGlobals "is_known" = some (some (.ref f_is_known)))
    (l_is_known : K.lookup f_is_known = some ⟨oc_is_known, od_is_known, .func (PySem.W.fnOf "is_known" "is_known" (defArgs sis_known) (defBody sis_known) (defScope sis_known) .none kV_is_known dc_is_known pm_is_known an_is_known cd_is_known ct_is_known), sl_is_known⟩)
    (c_is_known : PySem.W.codeIn K cd_is_known "is_known" = true)
    (k_is_known : PySem.W.keepIn K (.ref f_is_known) = true)
    (a_numbers_in : PySem.W.nsIn K mainGlobals "numbers_in" = some (some (.ref f_numbers_in)))
    (l_numbers_in : K.lookup f_numbers_in = some ⟨oc_numbers_in, od_numbers_in, .func (PySem.W.fnOf "numbers_in" "numbers_in" (defArgs snumbers_in) (defBody snumbers_in) (defScope snumbers_in) .none kV_numbers_in dc_numbers_in pm_numbers_in an_numbers_in cd_numbers_in ct_numbers_in), sl_numbers_in⟩)
    (c_numbers_in : PySem.W.codeIn K cd_numbers_in "numbers_in" = true)
    (k_numbers_in : PySem.W.keepIn K (.ref f_numbers_in) = true)
    (a_number_at : PySem.W.nsIn K mainGlobals "number_at" = some (some (.ref f_number_at)))
    (l_number_at : K.lookup f_number_at = some ⟨oc_number_at, od_number_at, .func (PySem.W.fnOf "number_at" "number_at" (defArgs snumber_at) (defBody snumber_at) (defScope snumber_at) .none kV_number_at dc_number_at pm_number_at an_number_at cd_number_at ct_number_at), sl_number_at⟩)
    (c_number_at : PySem.W.codeIn K cd_number_at "number_at" = true)
    (k_number_at : PySem.W.keepIn K (.ref f_number_at) = true)
    (a_law_purse : PySem.W.nsIn K mainGlobals "_law_purse" = some (some (.ref f_law_purse)))
    (l_law_purse : K.lookup f_law_purse = some ⟨oc_law_purse, od_law_purse, .func (PySem.W.fnOf "_law_purse" "_law_purse" (defArgs slaw_purse) (defBody slaw_purse) (defScope slaw_purse) .none kV_law_purse dc_law_purse pm_law_purse an_law_purse cd_law_purse ct_law_purse), sl_law_purse⟩)
    (c_law_purse : PySem.W.codeIn K cd_law_purse "_law_purse" = true)
    (k_law_purse : PySem.W.keepIn K (.ref f_law_purse) = true)
    (a_law_draw : PySem.W.nsIn K mainGlobals "_law_draw" = some (some (.ref f_law_draw)))
    (l_law_draw : K.lookup f_law_draw = some ⟨oc_law_draw, od_law_draw, .func (PySem.W.fnOf "_law_draw" "_law_draw" (defArgs slaw_draw) (defBody slaw_draw) (defScope slaw_draw) .none kV_law_draw dc_law_draw pm_law_draw an_law_draw cd_law_draw ct_law_draw), sl_law_draw⟩)
    (c_law_draw : PySem.W.codeIn K cd_law_draw "_law_draw" = true)
    (k_law_draw : PySem.W.keepIn K (.ref f_law_draw) = true)
    (a_law_pick : PySem.W.nsIn K mainGlobals "_law_pick" = some (some (.ref f_law_pick)))
    (l_law_pick : K.lookup f_law_pick = some ⟨oc_law_pick, od_law_pick, .func (PySem.W.fnOf "_law_pick" "_law_pick" (defArgs slaw_pick) (defBody slaw_pick) (defScope slaw_pick) .none kV_law_pick dc_law_pick pm_law_pick an_law_pick cd_law_pick ct_law_pick), sl_law_pick⟩)
    (c_law_pick : PySem.W.codeIn K cd_law_pick "_law_pick" = true)
    (k_law_pick : PySem.W.keepIn K (.ref f_law_pick) = true)
    (a_law_wide : PySem.W.nsIn K mainGlobals "_law_wide" = some (some (.ref f_law_wide)))
    (l_law_wide : K.lookup f_law_wide = some ⟨oc_law_wide, od_law_wide, .func (PySem.W.fnOf "_law_wide" "_law_wide" (defArgs slaw_wide) (defBody slaw_wide) (defScope slaw_wide) .none kV_law_wide dc_law_wide pm_law_wide an_law_wide cd_law_wide ct_law_wide), sl_law_wide⟩)
    (c_law_wide : PySem.W.codeIn K cd_law_wide "_law_wide" = true)
    (k_law_wide : PySem.W.keepIn K (.ref f_law_wide) = true)
    (a_law_low : PySem.W.nsIn K mainGlobals "_law_low" = some (some (.ref f_law_low)))
    (l_law_low : K.lookup f_law_low = some ⟨oc_law_low, od_law_low, .func (PySem.W.fnOf "_law_low" "_law_low" (defArgs slaw_low) (defBody slaw_low) (defScope slaw_low) .none kV_law_low dc_law_low pm_law_low an_law_low cd_law_low ct_law_low), sl_law_low⟩)
    (c_law_low : PySem.W.codeIn K cd_law_low "_law_low" = true)
    (k_law_low : PySem.W.keepIn K (.ref f_law_low) = true)
    (a_law_touches : PySem.W.nsIn K mainGlobals "_law_touches" = some (some (.ref f_law_touches)))
    (l_law_touches : K.lookup f_law_touches = some ⟨oc_law_touches, od_law_touches, .func (PySem.W.fnOf "_law_touches" "_law_touches" (defArgs slaw_touches) (defBody slaw_touches) (defScope slaw_touches) .none kV_law_touches dc_law_touches pm_law_touches an_law_touches cd_law_touches ct_law_touches), sl_law_touches⟩)
    (c_law_touches : PySem.W.codeIn K cd_law_touches "_law_touches" = true)
    (k_law_touches : PySem.W.keepIn K (.ref f_law_touches) = true)
    (a_law_pass : PySem.W.nsIn K mainGlobals "_law_pass" = some (some (.ref f_law_pass)))
    (l_law_pass : K.lookup f_law_pass = some ⟨oc_law_pass, od_law_pass, .func (PySem.W.fnOf "_law_pass" "_law_pass" (defArgs slaw_pass) (defBody slaw_pass) (defScope slaw_pass) .none kV_law_pass dc_law_pass pm_law_pass an_law_pass cd_law_pass ct_law_pass), sl_law_pass⟩)
    (c_law_pass : PySem.W.codeIn K cd_law_pass "_law_pass" = true)
    (k_law_pass : PySem.W.keepIn K (.ref f_law_pass) = true)
    (a_law_row : PySem.W.nsIn K mainGlobals "_law_row" = some (some (.ref f_law_row)))
    (l_law_row : K.lookup f_law_row = some ⟨oc_law_row, od_law_row, .func (PySem.W.fnOf "_law_row" "_law_row" (defArgs slaw_row) (defBody slaw_row) (defScope slaw_row) .none kV_law_row dc_law_row pm_law_row an_law_row cd_law_row ct_law_row), sl_law_row⟩)
    (c_law_row : PySem.W.codeIn K cd_law_row "_law_row" = true)
    (k_law_row : PySem.W.keepIn K (.ref f_law_row) = true)
    (a_law_words : PySem.W.nsIn K mainGlobals "_law_words" = some (some (.ref f_law_words)))
    (l_law_words : K.lookup f_law_words = some ⟨oc_law_words, od_law_words, .func (PySem.W.fnOf "_law_words" "_law_words" (defArgs slaw_words) (defBody slaw_words) (defScope slaw_words) .none kV_law_words dc_law_words pm_law_words an_law_words cd_law_words ct_law_words), sl_law_words⟩)
    (c_law_words : PySem.W.codeIn K cd_law_words "_law_words" = true)
    (k_law_words : PySem.W.keepIn K (.ref f_law_words) = true)
    (a_law_fader : PySem.W.nsIn K mainGlobals "_law_fader" = some (some (.ref f_law_fader)))
    (l_law_fader : K.lookup f_law_fader = some ⟨oc_law_fader, od_law_fader, .func (PySem.W.fnOf "_law_fader" "_law_fader" (defArgs slaw_fader) (defBody slaw_fader) (defScope slaw_fader) .none kV_law_fader dc_law_fader pm_law_fader an_law_fader cd_law_fader ct_law_fader), sl_law_fader⟩)
    (c_law_fader : PySem.W.codeIn K cd_law_fader "_law_fader" = true)
    (k_law_fader : PySem.W.keepIn K (.ref f_law_fader) = true)
    (a_law_faders : PySem.W.nsIn K mainGlobals "_law_faders" = some (some (.ref f_law_faders)))
    (l_law_faders : K.lookup f_law_faders = some ⟨oc_law_faders, od_law_faders, .func (PySem.W.fnOf "_law_faders" "_law_faders" (defArgs slaw_faders) (defBody slaw_faders) (defScope slaw_faders) .none kV_law_faders dc_law_faders pm_law_faders an_law_faders cd_law_faders ct_law_faders), sl_law_faders⟩)
    (c_law_faders : PySem.W.codeIn K cd_law_faders "_law_faders" = true)
    (k_law_faders : PySem.W.keepIn K (.ref f_law_faders) = true)
    (a_law_move : PySem.W.nsIn K mainGlobals "_law_move" = some (some (.ref f_law_move)))
    (l_law_move : K.lookup f_law_move = some ⟨oc_law_move, od_law_move, .func (PySem.W.fnOf "_law_move" "_law_move" (defArgs slaw_move) (defBody slaw_move) (defScope slaw_move) .none kV_law_move dc_law_move pm_law_move an_law_move cd_law_move ct_law_move), sl_law_move⟩)
    (c_law_move : PySem.W.codeIn K cd_law_move "_law_move" = true)
    (k_law_move : PySem.W.keepIn K (.ref f_law_move) = true)
    (a_law_played : PySem.W.nsIn K mainGlobals "_law_played" = some (some (.ref f_law_played)))
    (l_law_played : K.lookup f_law_played = some ⟨oc_law_played, od_law_played, .func (PySem.W.fnOf "_law_played" "_law_played" (defArgs slaw_played) (defBody slaw_played) (defScope slaw_played) .none kV_law_played dc_law_played pm_law_played an_law_played cd_law_played ct_law_played), sl_law_played⟩)
    (c_law_played : PySem.W.codeIn K cd_law_played "_law_played" = true)
    (k_law_played : PySem.W.keepIn K (.ref f_law_played) = true)
    (a_law_right : PySem.W.nsIn K mainGlobals "_law_right" = some (some (.ref f_law_right)))
    (l_law_right : K.lookup f_law_right = some ⟨oc_law_right, od_law_right, .func (PySem.W.fnOf "_law_right" "_law_right" (defArgs slaw_right) (defBody slaw_right) (defScope slaw_right) .none kV_law_right dc_law_right pm_law_right an_law_right cd_law_right ct_law_right), sl_law_right⟩)
    (c_law_right : PySem.W.codeIn K cd_law_right "_law_right" = true)
    (k_law_right : PySem.W.keepIn K (.ref f_law_right) = true)
    (a_law : PySem.W.nsIn K mainGlobals "law" = some (some (.ref f_law)))
    (l_law : K.lookup f_law = some ⟨oc_law, od_law, .func (PySem.W.fnOf "law" "law" (defArgs slaw) (defBody slaw) (defScope slaw) .none kV_law dc_law pm_law an_law cd_law ct_law), sl_law⟩)
    (c_law : PySem.W.codeIn K cd_law "law" = true)
    (k_law : PySem.W.keepIn K (.ref f_law) = true)
    (a_LETTERS : PySem.W.nsIn K mainGlobals "LETTERS" = some (some (.str "abcdefghijklmnopqrstuvwxyz" t_LETTERS)))
    (a_DIGITS : PySem.W.nsIn K mainGlobals "DIGITS" = some (some (.str "0123456789" t_DIGITS)))
    (a_MOST_SIGNS : PySem.W.nsIn K mainGlobals "MOST_SIGNS" = some (some (.int 8 t_MOST_SIGNS)))
    (a_MOST_LENGTH : PySem.W.nsIn K mainGlobals "MOST_LENGTH" = some (some (.int 1000000000000 t_MOST_LENGTH)))
    (a_MOST_PASSES : PySem.W.nsIn K mainGlobals "MOST_PASSES" = some (some (.int 8 t_MOST_PASSES)))
    (a_MOST_TOUCHES : PySem.W.nsIn K mainGlobals "MOST_TOUCHES" = some (some (.int 6 t_MOST_TOUCHES)))
    (a_MOST_GLIDE : PySem.W.nsIn K mainGlobals "MOST_GLIDE" = some (some (.int 100 t_MOST_GLIDE)))
    (a_OLD : PySem.W.nsIn K mainGlobals "OLD" = some (some (.str "old" t_OLD)))
    (b_MODES : PySem.W.nsIn K mainGlobals "MODES" = some (some (.ref a_MODES)))
    (l_MODES : K.lookup a_MODES = some ⟨.type "tuple", o_MODES, .seq #[.str "write" t0_MODES, .str "latch" t1_MODES, .str "touch" t2_MODES, .str "trim" t3_MODES] n_MODES, s_MODES⟩)
    (b_TAILS : PySem.W.nsIn K mainGlobals "TAILS" = some (some (.ref a_TAILS)))
    (l_TAILS : K.lookup a_TAILS = some ⟨.type "tuple", o_TAILS, .seq #[.str "stop" t0_TAILS, .str "on" t1_TAILS] n_TAILS, s_TAILS⟩)
    (a_SIZE : PySem.W.nsIn K mainGlobals "SIZE" = some (some (.int 7 t_SIZE)))
    (b_NOTHING : PySem.W.nsIn K mainGlobals "NOTHING" = some (some (.ref a_NOTHING)))
    (l_NOTHING : K.lookup a_NOTHING = some ⟨.type "tuple", o_NOTHING, .seq #[.int 0 t0_NOTHING, .int 1 t1_NOTHING] n_NOTHING, s_NOTHING⟩)
    (b_WHOLE : PySem.W.nsIn K mainGlobals "WHOLE" = some (some (.ref a_WHOLE)))
    (l_WHOLE : K.lookup a_WHOLE = some ⟨.type "tuple", o_WHOLE, .seq #[.int 1 t0_WHOLE, .int 1 t1_WHOLE] n_WHOLE, s_WHOLE⟩)
    (z_len : PySem.W.nsIn K mainGlobals "len" = some none)
    (z_isinstance : PySem.W.nsIn K mainGlobals "isinstance" = some none)
    (z_int : PySem.W.nsIn K mainGlobals "int" = some none)
    (z_bool : PySem.W.nsIn K mainGlobals "bool" = some none)
    (z_str : PySem.W.nsIn K mainGlobals "str" = some none)
    (z_tuple : PySem.W.nsIn K mainGlobals "tuple" = some none)
    (z_list : PySem.W.nsIn K mainGlobals "list" = some none)
    (z_all : PySem.W.nsIn K mainGlobals "all" = some none)
    (z_range : PySem.W.nsIn K mainGlobals "range" = some none)
    (z_enumerate : PySem.W.nsIn K mainGlobals "enumerate" = some none)
    (z_abs : PySem.W.nsIn K mainGlobals "abs" = some none)
    (z_divmod : PySem.W.nsIn K mainGlobals "divmod" = some none)
    (z_max : PySem.W.nsIn K mainGlobals "max" = some none)
    (z_min : PySem.W.nsIn K mainGlobals "min" = some none)
    (z_repr : PySem.W.nsIn K mainGlobals "repr" = some none)
    (z_sorted : PySem.W.nsIn K mainGlobals "sorted" = some none)
    (z_gcd : PySem.W.nsIn K mainGlobals "gcd" = some (some (.builtin "math.gcd"))) :
    ∃ T : Txt pr K mg, T.law.f = f_law := by
  have F_is_integer := fun_mk (st := sis_integer) l_is_integer c_is_integer k_is_integer
  have F_is_between := fun_mk (st := sis_between) l_is_between c_is_between k_is_between
  have F_is_name := fun_mk (st := sis_name) l_is_name c_is_name k_is_name
  have F_is_word := fun_mk (st := sis_word) l_is_word c_is_word k_is_word
  have F_is_stretch := fun_mk (st := sis_stretch) l_is_stretch c_is_stretch k_is_stretch
  have F_is_length := fun_mk (st := sis_length) l_is_length c_is_length k_is_length
  have F_are_touches := fun_mk (st := sare_touches) l_are_touches c_are_touches k_are_touches
  have F_is_pass := fun_mk (st := sis_pass) l_is_pass c_is_pass k_is_pass
  have F_first_wrong := fun_mk (st := sfirst_wrong) l_first_wrong c_first_wrong k_first_wrong
  have F_Track_init : FunD K "__init__" "Track.__init__" (defArgs sTrack_init) (defBody sTrack_init) (defScope sTrack_init) [(V.ref e_Track_init)] [] f_Track_init (PySem.W.fnOf "__init__" "Track.__init__" (defArgs sTrack_init) (defBody sTrack_init) (defScope sTrack_init) (.ref T_Track_init) kV_Track_init dc_Track_init pm_Track_init an_Track_init cd_Track_init ct_Track_init) := ⟨⟨oc_Track_init, od_Track_init, _, kV_Track_init, dc_Track_init, pm_Track_init, an_Track_init, cd_Track_init, ct_Track_init, sl_Track_init, rfl, l_Track_init, c_Track_init, .inr ⟨by simp, T_Track_init, _, [Value.ref e_Track_init], tn_Track_init, rfl, t_Track_init, rfl, .cons rfl .nil⟩, .inl rfl⟩, k_Track_init⟩
  have F_Track_length := fun_mk (st := sTrack_length) l_Track_length c_Track_length k_Track_length
  have F_Track_passes := fun_mk (st := sTrack_passes) l_Track_passes c_Track_passes k_Track_passes
  have F_check_track := fun_mk (st := scheck_track) l_check_track c_check_track k_check_track
  have F_check_tick := fun_mk (st := scheck_tick) l_check_tick c_check_tick k_check_tick
  have F_lowest := fun_mk (st := slowest) l_lowest c_lowest k_lowest
  have F_plus := fun_mk (st := splus) l_plus c_plus k_plus
  have F_times := fun_mk (st := stimes) l_times c_times k_times
  have F_end_of := fun_mk (st := send_of) l_end_of c_end_of k_end_of
  have F_last_touch := fun_mk (st := slast_touch) l_last_touch c_last_touch k_last_touch
  have F_written := fun_mk (st := swritten) l_written c_written k_written
  have F_taken_by := fun_mk (st := staken_by) l_taken_by c_taken_by k_taken_by
  have F_form_of := fun_mk (st := sform_of) l_form_of c_form_of k_form_of
  have F_form := fun_mk (st := sform) l_form c_form k_form
  have F_is_known := fun_mk (st := sis_known) l_is_known c_is_known k_is_known
  have F_numbers_in := fun_mk (st := snumbers_in) l_numbers_in c_numbers_in k_numbers_in
  have F_number_at := fun_mk (st := snumber_at) l_number_at c_number_at k_number_at
  have F_law_purse := fun_mk (st := slaw_purse) l_law_purse c_law_purse k_law_purse
  have F_law_draw := fun_mk (st := slaw_draw) l_law_draw c_law_draw k_law_draw
  have F_law_pick := fun_mk (st := slaw_pick) l_law_pick c_law_pick k_law_pick
  have F_law_wide := fun_mk (st := slaw_wide) l_law_wide c_law_wide k_law_wide
  have F_law_low := fun_mk (st := slaw_low) l_law_low c_law_low k_law_low
  have F_law_touches := fun_mk (st := slaw_touches) l_law_touches c_law_touches k_law_touches
  have F_law_pass := fun_mk (st := slaw_pass) l_law_pass c_law_pass k_law_pass
  have F_law_row := fun_mk (st := slaw_row) l_law_row c_law_row k_law_row
  have F_law_words := fun_mk (st := slaw_words) l_law_words c_law_words k_law_words
  have F_law_fader := fun_mk (st := slaw_fader) l_law_fader c_law_fader k_law_fader
  have F_law_faders := fun_mk (st := slaw_faders) l_law_faders c_law_faders k_law_faders
  have F_law_move := fun_mk (st := slaw_move) l_law_move c_law_move k_law_move
  have F_law_played := fun_mk (st := slaw_played) l_law_played c_law_played k_law_played
  have F_law_right := fun_mk (st := slaw_right) l_law_right c_law_right k_law_right
  have F_law := fun_mk (st := slaw) l_law c_law k_law
  refine ⟨{
      C := C,
      gC := PySem.W.mg_of X G aC,
      cl := ⟨cpg, chd, cpo, csa⟩,
      kC := ckc,
      makes := cmk,
      isC := ⟨⟨cpg, chd, cpo, csa⟩, cca, ccn, cct, ccm⟩,
      n_length := na_length,
      n_passes := na_passes,
      is_integer := { f := f_is_integer, fd := _, F := F_is_integer, g := PySem.W.mg_of X G a_is_integer, b := F_is_integer.binds (ps := ["value"]) fun _ _ _ _ _ _ us hl => match us, hl with | [_], _ => rfl },
      is_between := { f := f_is_between, fd := _, F := F_is_between, g := PySem.W.mg_of X G a_is_between, b := F_is_between.binds (ps := ["value", "low", "high"]) fun _ _ _ _ _ _ us hl => match us, hl with | [_, _, _], _ => rfl },
      is_name := { f := f_is_name, fd := _, F := F_is_name, g := PySem.W.mg_of X G a_is_name, b := F_is_name.binds (ps := ["value"]) fun _ _ _ _ _ _ us hl => match us, hl with | [_], _ => rfl },
      is_word := { f := f_is_word, fd := _, F := F_is_word, g := PySem.W.mg_of X G a_is_word, b := F_is_word.binds (ps := ["value", "words"]) fun _ _ _ _ _ _ us hl => match us, hl with | [_, _], _ => rfl },
      is_stretch := { f := f_is_stretch, fd := _, F := F_is_stretch, g := PySem.W.mg_of X G a_is_stretch, b := F_is_stretch.binds (ps := ["value", "low", "high"]) fun _ _ _ _ _ _ us hl => match us, hl with | [_, _, _], _ => rfl },
      is_length := { f := f_is_length, fd := _, F := F_is_length, g := PySem.W.mg_of X G a_is_length, b := F_is_length.binds (ps := ["value"]) fun _ _ _ _ _ _ us hl => match us, hl with | [_], _ => rfl },
      are_touches := { f := f_are_touches, fd := _, F := F_are_touches, g := PySem.W.mg_of X G a_are_touches, b := F_are_touches.binds (ps := ["value", "first", "last"]) fun _ _ _ _ _ _ us hl => match us, hl with | [_, _, _], _ => rfl },
      is_pass := { f := f_is_pass, fd := _, F := F_is_pass, g := PySem.W.mg_of X G a_is_pass, b := F_is_pass.binds (ps := ["value", "length"]) fun _ _ _ _ _ _ us hl => match us, hl with | [_, _], _ => rfl },
      first_wrong := { f := f_first_wrong, fd := _, F := F_first_wrong, g := PySem.W.mg_of X G a_first_wrong, b := F_first_wrong.binds (ps := ["passes", "length"]) fun _ _ _ _ _ _ us hl => match us, hl with | [_, _], _ => rfl },
      e_Track_init := e_Track_init,
      et_Track_init := fun H => .inr ⟨_, #[], en_Track_init, e_Track_init_at, rfl, rfl, Nat.zero_le _, .nil⟩,
      Track_init := { f := f_Track_init, fd := _, F := F_Track_init, m := ⟨a_Track_init, i_Track_init, k_Track_init⟩, b := (match F_Track_init.binds1 3 1 (by simp) rfl fun _ _ _ _ _ _ _ us its hl hi => match us, its, hl, hi with | [_, _, _], [_], _, _ => ⟨_, rfl, rfl⟩ with | ⟨_, .nil, h⟩ => h), b1 := F_Track_init.binds1 2 0 (by simp) rfl fun _ _ _ _ _ _ _ us its hl hi => match us, its, hl, hi with | [_, _], [_], _, _ => ⟨_, rfl, rfl⟩ },
      Track_length := { f := f_Track_length, fd := _, F := F_Track_length, p := p_Track_length, P := ⟨a_Track_length, pg_Track_length, pt_Track_length, _, pr_Track_length_at⟩, b := F_Track_length.binds (ps := ["self"]) fun _ _ _ _ _ _ us hl => match us, hl with | [_], _ => rfl },
      Track_passes := { f := f_Track_passes, fd := _, F := F_Track_passes, p := p_Track_passes, P := ⟨a_Track_passes, pg_Track_passes, pt_Track_passes, _, pr_Track_passes_at⟩, b := F_Track_passes.binds (ps := ["self"]) fun _ _ _ _ _ _ us hl => match us, hl with | [_], _ => rfl },
      check_track := { f := f_check_track, fd := _, F := F_check_track, g := PySem.W.mg_of X G a_check_track, b := F_check_track.binds (ps := ["value"]) fun _ _ _ _ _ _ us hl => match us, hl with | [_], _ => rfl },
      check_tick := { f := f_check_tick, fd := _, F := F_check_tick, g := PySem.W.mg_of X G a_check_tick, b := F_check_tick.binds (ps := ["track", "value"]) fun _ _ _ _ _ _ us hl => match us, hl with | [_, _], _ => rfl },
      lowest := { f := f_lowest, fd := _, F := F_lowest, g := PySem.W.mg_of X G a_lowest, b := F_lowest.binds (ps := ["top", "bottom"]) fun _ _ _ _ _ _ us hl => match us, hl with | [_, _], _ => rfl },
      plus := { f := f_plus, fd := _, F := F_plus, g := PySem.W.mg_of X G a_plus, b := F_plus.binds (ps := ["one", "other"]) fun _ _ _ _ _ _ us hl => match us, hl with | [_, _], _ => rfl },
      times := { f := f_times, fd := _, F := F_times, g := PySem.W.mg_of X G a_times, b := F_times.binds (ps := ["one", "other"]) fun _ _ _ _ _ _ us hl => match us, hl with | [_, _], _ => rfl },
      end_of := { f := f_end_of, fd := _, F := F_end_of, g := PySem.W.mg_of X G a_end_of, b := F_end_of.binds (ps := ["one_pass", "length"]) fun _ _ _ _ _ _ us hl => match us, hl with | [_, _], _ => rfl },
      last_touch := { f := f_last_touch, fd := _, F := F_last_touch, g := PySem.W.mg_of X G a_last_touch, b := F_last_touch.binds (ps := ["touches", "tick"]) fun _ _ _ _ _ _ us hl => match us, hl with | [_, _], _ => rfl },
      written := { f := f_written, fd := _, F := F_written, g := PySem.W.mg_of X G a_written, b := F_written.binds (ps := ["one_pass", "length", "tick"]) fun _ _ _ _ _ _ us hl => match us, hl with | [_, _, _], _ => rfl },
      taken_by := { f := f_taken_by, fd := _, F := F_taken_by, g := PySem.W.mg_of X G a_taken_by, b := F_taken_by.binds (ps := ["one_pass", "length", "left"]) fun _ _ _ _ _ _ us hl => match us, hl with | [_, _, _], _ => rfl },
      form_of := { f := f_form_of, fd := _, F := F_form_of, g := PySem.W.mg_of X G a_form_of, b := F_form_of.binds (ps := ["passes", "length", "tick"]) fun _ _ _ _ _ _ us hl => match us, hl with | [_, _, _], _ => rfl },
      form := { f := f_form, fd := _, F := F_form, g := PySem.W.mg_of X G a_form, b := F_form.binds (ps := ["track", "tick"]) fun _ _ _ _ _ _ us hl => match us, hl with | [_, _], _ => rfl },
      is_known := { f := f_is_known, fd := _, F := F_is_known, g := PySem.W.mg_of X G a_is_known, b := F_is_known.binds (ps := ["value"]) fun _ _ _ _ _ _ us hl => match us, hl with | [_], _ => rfl },
      numbers_in := { f := f_numbers_in, fd := _, F := F_numbers_in, g := PySem.W.mg_of X G a_numbers_in, b := F_numbers_in.binds (ps := ["known"]) fun _ _ _ _ _ _ us hl => match us, hl with | [_], _ => rfl },
      number_at := { f := f_number_at, fd := _, F := F_number_at, g := PySem.W.mg_of X G a_number_at, b := F_number_at.binds (ps := ["track", "tick", "known"]) fun _ _ _ _ _ _ us hl => match us, hl with | [_, _, _], _ => rfl },
      law_purse := { f := f_law_purse, fd := _, F := F_law_purse, g := PySem.W.mg_of X G a_law_purse, b := F_law_purse.binds (ps := ["script", "k"]) fun _ _ _ _ _ _ us hl => match us, hl with | [_, _], _ => rfl },
      law_draw := { f := f_law_draw, fd := _, F := F_law_draw, g := PySem.W.mg_of X G a_law_draw, b := F_law_draw.binds (ps := ["purse", "size"]) fun _ _ _ _ _ _ us hl => match us, hl with | [_, _], _ => rfl },
      law_pick := { f := f_law_pick, fd := _, F := F_law_pick, g := PySem.W.mg_of X G a_law_pick, b := F_law_pick.binds (ps := ["purse", "menu"]) fun _ _ _ _ _ _ us hl => match us, hl with | [_, _], _ => rfl },
      law_wide := { f := f_law_wide, fd := _, F := F_law_wide, g := PySem.W.mg_of X G a_law_wide, b := F_law_wide.binds (ps := ["purse", "size"]) fun _ _ _ _ _ _ us hl => match us, hl with | [_, _], _ => rfl },
      law_low := { f := f_law_low, fd := _, F := F_law_low, g := PySem.W.mg_of X G a_law_low, b := F_law_low.binds (ps := ["top", "bottom"]) fun _ _ _ _ _ _ us hl => match us, hl with | [_, _], _ => rfl },
      law_touches := { f := f_law_touches, fd := _, F := F_law_touches, g := PySem.W.mg_of X G a_law_touches, b := F_law_touches.binds (ps := ["purse", "first", "last", "many", "wide"]) fun _ _ _ _ _ _ us hl => match us, hl with | [_, _, _, _, _], _ => rfl },
      law_pass := { f := f_law_pass, fd := _, F := F_law_pass, g := PySem.W.mg_of X G a_law_pass, b := F_law_pass.binds (ps := ["purse", "name_here", "long", "wide"]) fun _ _ _ _ _ _ us hl => match us, hl with | [_, _, _, _], _ => rfl },
      law_row := { f := f_law_row, fd := _, F := F_law_row, g := PySem.W.mg_of X G a_law_row, b := F_law_row.binds (ps := ["purse", "long", "many", "wide"]) fun _ _ _ _ _ _ us hl => match us, hl with | [_, _, _, _], _ => rfl },
      law_words := { f := f_law_words, fd := _, F := F_law_words, g := PySem.W.mg_of X G a_law_words, b := F_law_words.binds (ps := ["purse"]) fun _ _ _ _ _ _ us hl => match us, hl with | [_], _ => rfl },
      law_fader := { f := f_law_fader, fd := _, F := F_law_fader, g := PySem.W.mg_of X G a_law_fader, b := F_law_fader.binds (ps := ["purse", "word", "long"]) fun _ _ _ _ _ _ us hl => match us, hl with | [_, _, _], _ => rfl },
      law_faders := { f := f_law_faders, fd := _, F := F_law_faders, g := PySem.W.mg_of X G a_law_faders, b := F_law_faders.binds (ps := ["purse", "long", "many"]) fun _ _ _ _ _ _ us hl => match us, hl with | [_, _, _], _ => rfl },
      law_move := { f := f_law_move, fd := _, F := F_law_move, g := PySem.W.mg_of X G a_law_move, b := F_law_move.binds (ps := ["ahead", "k", "spot", "hand", "fader"]) fun _ _ _ _ _ _ us hl => match us, hl with | [_, _, _, _, _], _ => rfl },
      law_played := { f := f_law_played, fd := _, F := F_law_played, g := PySem.W.mg_of X G a_law_played, b := F_law_played.binds (ps := ["olds", "hands", "some"]) fun _ _ _ _ _ _ us hl => match us, hl with | [_, _, _], _ => rfl },
      law_right := { f := f_law_right, fd := _, F := F_law_right, g := PySem.W.mg_of X G a_law_right, b := F_law_right.binds (ps := ["purse"]) fun _ _ _ _ _ _ us hl => match us, hl with | [_], _ => rfl },
      law := { f := f_law, fd := _, F := F_law, g := PySem.W.mg_of X G a_law, b := F_law.binds (ps := ["script"]) fun _ _ _ _ _ _ us hl => match us, hl with | [_], _ => rfl },
      c_LETTERS := ⟨t_LETTERS, PySem.W.mg_of X G a_LETTERS⟩,
      c_DIGITS := ⟨t_DIGITS, PySem.W.mg_of X G a_DIGITS⟩,
      c_MOST_SIGNS := ⟨t_MOST_SIGNS, PySem.W.mg_of X G a_MOST_SIGNS⟩,
      c_MOST_LENGTH := ⟨t_MOST_LENGTH, PySem.W.mg_of X G a_MOST_LENGTH⟩,
      c_MOST_PASSES := ⟨t_MOST_PASSES, PySem.W.mg_of X G a_MOST_PASSES⟩,
      c_MOST_TOUCHES := ⟨t_MOST_TOUCHES, PySem.W.mg_of X G a_MOST_TOUCHES⟩,
      c_MOST_GLIDE := ⟨t_MOST_GLIDE, PySem.W.mg_of X G a_MOST_GLIDE⟩,
      c_OLD := ⟨t_OLD, PySem.W.mg_of X G a_OLD⟩,
      c_MODES := ⟨a_MODES, PySem.W.mg_of X G b_MODES, fun H => .inr ⟨_, _, n_MODES, l_MODES, rfl, rfl, by show 4 ≤ sizeLine; decide, .cons ⟨_, rfl⟩ (.cons ⟨_, rfl⟩ (.cons ⟨_, rfl⟩ (.cons ⟨_, rfl⟩ (.nil))))⟩⟩,
      c_TAILS := ⟨a_TAILS, PySem.W.mg_of X G b_TAILS, fun H => .inr ⟨_, _, n_TAILS, l_TAILS, rfl, rfl, by show 2 ≤ sizeLine; decide, .cons ⟨_, rfl⟩ (.cons ⟨_, rfl⟩ (.nil))⟩⟩,
      c_SIZE := ⟨t_SIZE, PySem.W.mg_of X G a_SIZE⟩,
      c_NOTHING := ⟨a_NOTHING, PySem.W.mg_of X G b_NOTHING, fun H => .inr ⟨_, _, n_NOTHING, l_NOTHING, rfl, rfl, by show 2 ≤ sizeLine; decide, .cons ⟨_, rfl⟩ (.cons ⟨_, rfl⟩ (.nil))⟩⟩,
      c_WHOLE := ⟨a_WHOLE, PySem.W.mg_of X G b_WHOLE, fun H => .inr ⟨_, _, n_WHOLE, l_WHOLE, rfl, rfl, by show 2 ≤ sizeLine; decide, .cons ⟨_, rfl⟩ (.cons ⟨_, rfl⟩ (.nil))⟩⟩,
      z_len := PySem.W.mg_none_of X G z_len,
      z_isinstance := PySem.W.mg_none_of X G z_isinstance,
      z_int := PySem.W.mg_none_of X G z_int,
      z_bool := PySem.W.mg_none_of X G z_bool,
      z_str := PySem.W.mg_none_of X G z_str,
      z_tuple := PySem.W.mg_none_of X G z_tuple,
      z_list := PySem.W.mg_none_of X G z_list,
      z_all := PySem.W.mg_none_of X G z_all,
      z_range := PySem.W.mg_none_of X G z_range,
      z_enumerate := PySem.W.mg_none_of X G z_enumerate,
      z_abs := PySem.W.mg_none_of X G z_abs,
      z_divmod := PySem.W.mg_none_of X G z_divmod,
      z_max := PySem.W.mg_none_of X G z_max,
      z_min := PySem.W.mg_none_of X G z_min,
      z_repr := PySem.W.mg_none_of X G z_repr,
      z_sorted := PySem.W.mg_none_of X G z_sorted,
      g_gcd := PySem.W.mg_of X G z_gcd }, rfl⟩
end My
namespace My
open PySem PySem.Spec PyProof.Rows L2 DL
def B_is_integer (C : Addr) : Mo Fl := (sRet (mAndV (mFn dIsT (aCons (mVar 0) (aCons (mC (.ty "int")) aNil))) (mNotV (mFn dIsT (aCons (mVar 0) (aCons (mC (.ty "bool")) aNil))))))
def F_is_integer (C : Addr) : List D → Option D := runF 1 0 (B_is_integer C)
def B_is_between (C : Addr) : Mo Fl := (sRet (mAndV (mFn (F_is_integer C) (aCons (mVar 0) aNil)) (mChain dLe dLe (mVar 1) (mVar 0) (mVar 2))))
def F_is_between (C : Addr) : List D → Option D := runF 3 0 (B_is_between C)
def B_is_stretch (C : Addr) : Mo Fl := (sSeq (sIf (mOr (mNot (mTst (mFn dIsT (aCons (mVar 0) (aCons (mC (.ty "tuple")) aNil))))) (mTst (mOp dNe (mFn dLen (aCons (mVar 0) aNil)) (mC (.int 2))))) (sRet (mC (.bl false))) sNx)
    (sRet (mAndV (mFn (F_is_between C) (aCons (mOp dIx (mVar 0) (mC (.int 0))) (aCons (mVar 1) (aCons (mVar 2) aNil)))) (mFn (F_is_between C) (aCons (mOp dIx (mVar 0) (mC (.int 1))) (aCons (mOp dAdd (mOp dIx (mVar 0) (mC (.int 0))) (mC (.int 1))) (aCons (mVar 2) aNil)))))))
def F_is_stretch (C : Addr) : List D → Option D := runF 3 0 (B_is_stretch C)
def B_are_touches (C : Addr) : Mo Fl := (sSeq (sIf (mOr (mNot (mTst (mFn dIsT (aCons (mVar 0) (aCons (mC (.ty "tuple")) aNil))))) (mTst (mOp dGt (mFn dLen (aCons (mVar 0) aNil)) (mC (.int 6))))) (sRet (mC (.bl false))) sNx)
    (sSeq (sSet 3 (mVar 1))
    (sSeq (sFor (iSeq seqT (mVar 0)) (gNm 4) (sSeq (sIf (mNot (mTst (mFn (F_is_stretch C) (aCons (mVar 4) (aCons (mVar 3) (aCons (mVar 2) aNil)))))) (sRet (mC (.bl false))) sNx)
    (sSet 3 (mOp dAdd (mOp dIx (mVar 4) (mC (.int 1))) (mC (.int 1))))))
    (sRet (mC (.bl true))))))
def F_are_touches (C : Addr) : List D → Option D := runF 3 2 (B_are_touches C)
def B_is_name (C : Addr) : Mo Fl := (sSeq (sIf (mOr (mNot (mTst (mFn dIsT (aCons (mVar 0) (aCons (mC (.ty "str")) aNil))))) (mNot (mTst (mChain dLe dLe (mC (.int 1)) (mFn dLen (aCons (mVar 0) aNil)) (mC (.int 8)))))) (sRet (mC (.bl false))) sNx)
    (sRet (mAndV (mOp dIn (mOp dIx (mVar 0) (mC (.int 0))) (mC (.str "abcdefghijklmnopqrstuvwxyz"))) (mFn dAll (aCons (mLc [1] (iSeq seqS (mVar 0)) (gNm 1) (mC true) (mOp dIn (mVar 1) (mOp dAdd (mC (.str "abcdefghijklmnopqrstuvwxyz")) (mC (.str "0123456789"))))) aNil)))))
def F_is_name (C : Addr) : List D → Option D := runF 1 1 (B_is_name C)
def B_is_word (C : Addr) : Mo Fl := (sRet (mAndV (mFn dIsT (aCons (mVar 0) (aCons (mC (.ty "str")) aNil))) (mOp dIn (mVar 0) (mVar 1))))
def F_is_word (C : Addr) : List D → Option D := runF 2 0 (B_is_word C)
def B_is_pass (C : Addr) : Mo Fl := (sSeq (sIf (mOr (mNot (mTst (mFn dIsT (aCons (mVar 0) (aCons (mC (.ty "tuple")) aNil))))) (mTst (mOp dNe (mFn dLen (aCons (mVar 0) aNil)) (mC (.int 7))))) (sRet (mC (.bl false))) sNx)
    (sSeq (sAsg (mVar 0) (gTp 7 (gsCons (gNm 2) (gsCons (gNm 3) (gsCons (gNm 4) (gsCons (gNm 5) (gsCons (gNm 6) (gsCons (gNm 7) (gsCons (gNm 8) gsNil)))))))))
    (sSeq (sIf (mOr (mNot (mTst (mFn (F_is_name C) (aCons (mVar 2) aNil)))) (mTst (mOp dEq (mVar 2) (mC (.str "old"))))) (sRet (mC (.bl false))) sNx)
    (sSeq (sIf (mOr (mNot (mTst (mFn (F_is_word C) (aCons (mVar 3) (aCons (mC (.tup [(.str "write"), (.str "latch"), (.str "touch"), (.str "trim")])) aNil))))) (mNot (mTst (mFn (F_is_word C) (aCons (mVar 8) (aCons (mC (.tup [(.str "stop"), (.str "on")])) aNil)))))) (sRet (mC (.bl false))) sNx)
    (sSeq (sIf (mNot (mTst (mFn (F_is_stretch C) (aCons (mTup (aCons (mVar 4) (aCons (mVar 5) aNil))) (aCons (mC (.int 0)) (aCons (mVar 1) aNil)))))) (sRet (mC (.bl false))) sNx)
    (sRet (mAndV (mFn (F_are_touches C) (aCons (mVar 6) (aCons (mVar 4) (aCons (mVar 5) aNil)))) (mFn (F_is_between C) (aCons (mVar 7) (aCons (mC (.int 0)) (aCons (mC (.int 100)) aNil)))))))))))
def F_is_pass (C : Addr) : List D → Option D := runF 2 7 (B_is_pass C)
def B_first_wrong (C : Addr) : Mo Fl := (sSeq (sSetN 2 (mLst aNil))
    (sSeq (sFor (iFn enumT? (aCons (mVar 0) aNil)) (gTp 2 (gsCons (gNm 3) (gsCons (gNm 4) gsNil))) (sSeq (sIf (mOr (mTst (mOp dGe (mVar 3) (mC (.int 8)))) (mOr (mNot (mTst (mFn (F_is_pass C) (aCons (mVar 4) (aCons (mVar 1) aNil))))) (mTst (mOpRt dIn (mOp dIx (mVar 4) (mC (.int 0))) 2)))) (sRet (mVar 3)) sNx)
    (sAppV 2 (mOp dIx (mVar 4) (mC (.int 0))))))
    (sRet (mC .non))))
def F_first_wrong (C : Addr) : List D → Option D := runF 2 3 (B_first_wrong C)
def B_is_length (C : Addr) : Mo Fl := (sRet (mFn (F_is_between C) (aCons (mVar 0) (aCons (mC (.int 1)) (aCons (mC (.int 1000000000000)) aNil)))))
def F_is_length (C : Addr) : List D → Option D := runF 1 0 (B_is_length C)
def B_Track_init (C : Addr) : Mo Fl := (sSeq (sIf (mNot (mTst (mFn (F_is_length C) (aCons (mVar 1) aNil)))) (sNo) sNx)
    (sSeq (sIf (mNot (mTst (mFn dIsT (aCons (mVar 2) (aCons (mC (.ty "tuple")) aNil))))) (sNo) sNx)
    (sSeq (sSet 3 (mFn (F_first_wrong C) (aCons (mVar 2) (aCons (mVar 1) aNil))))
    (sSeq (sIf (mTst (mOp dIsNot (mVar 3) (mC .non))) (sNo) sNx)
    (sSeq (sFldV C 0 "_length" (mVar 1))
    (sFldV C 0 "_passes" (mVar 2)))))))
def F_Track_init (C : Addr) : D → List D → Option (D × D) := runO 3 1 (B_Track_init C)
def B_check_track (C : Addr) : Mo Fl := (sIf (mNot (mTst (mFn (dIsCT C) (aCons (mVar 0) (aCons (mC (.cls C)) aNil))))) (sNo) sNx)
def F_check_track (C : Addr) : List D → Option D := runF 1 0 (B_check_track C)
def B_Track_length (C : Addr) : Mo Fl := (sRet (mFld C "_length" (mVar 0)))
def F_Track_length (C : Addr) : List D → Option D := runF 1 0 (B_Track_length C)
def B_check_tick (C : Addr) : Mo Fl := (sIf (mNot (mTst (mFn (F_is_between C) (aCons (mVar 1) (aCons (mC (.int 0)) (aCons (mOp dSub (mProp C (F_Track_length C) (mVar 0)) (mC (.int 1))) aNil)))))) (sNo) sNx)
def F_check_tick (C : Addr) : List D → Option D := runF 2 0 (B_check_tick C)
def B_last_touch (C : Addr) : Mo Fl := (sSeq (sSet 2 (mC .non))
    (sSeq (sFor (iSeq seqT (mVar 0)) (gTp 2 (gsCons (gNm 3) (gsCons (gNm 4) gsNil))) (sIf (mTst (mOp dLe (mVar 3) (mVar 1))) (sSet 2 (mFn dMin (aCons (mVar 1) (aCons (mOp dSub (mVar 4) (mC (.int 1))) aNil)))) sNx))
    (sRet (mVar 2))))
def F_last_touch (C : Addr) : List D → Option D := runF 2 3 (B_last_touch C)
def B_lowest (C : Addr) : Mo Fl := (sSeq (sSet 2 (mFn dGcd (aCons (mVar 0) (aCons (mVar 1) aNil))))
    (sRet (mTup (aCons (mOp dDiv (mVar 0) (mVar 2)) (aCons (mOp dDiv (mVar 1) (mVar 2)) aNil)))))
def F_lowest (C : Addr) : List D → Option D := runF 2 1 (B_lowest C)
def B_end_of (C : Addr) : Mo Fl := (sSeq (sAsg (mVar 0) (gTp 7 (gsCons (gNm 2) (gsCons (gNm 2) (gsCons (gNm 2) (gsCons (gNm 3) (gsCons (gNm 2) (gsCons (gNm 2) (gsCons (gNm 4) gsNil)))))))))
    (sRet (mIf (mTst (mOp dEq (mVar 4) (mC (.str "on")))) (mVar 1) (mVar 3))))
def F_end_of (C : Addr) : List D → Option D := runF 2 3 (B_end_of C)
def B_written (C : Addr) : Mo Fl := (sSeq (sAsg (mVar 0) (gTp 7 (gsCons (gNm 3) (gsCons (gNm 4) (gsCons (gNm 5) (gsCons (gNm 3) (gsCons (gNm 6) (gsCons (gNm 7) (gsCons (gNm 3) gsNil)))))))))
    (sSeq (sIf (mNot (mTst (mChain dLe dLt (mVar 5) (mVar 2) (mFn (F_end_of C) (aCons (mVar 0) (aCons (mVar 1) aNil)))))) (sRet (mC .non)) sNx)
    (sSeq (sSet 8 (mFn (F_last_touch C) (aCons (mVar 6) (aCons (mVar 2) aNil))))
    (sSeq (sIf (mTst (mOp dIs (mVar 8) (mC .non))) (sRet (mIf (mTst (mOp dEq (mVar 4) (mC (.str "write")))) (mTup (aCons (mC .non) (aCons (mC (.tup [(.int 0), (.int 1)])) (aCons (mVar 5) (aCons (mC (.tup [(.int 1), (.int 1)])) aNil))))) (mC .non))) sNx)
    (sSeq (sIf (mOr (mTst (mOp dEq (mVar 4) (mC (.str "write")))) (mTst (mOp dEq (mVar 4) (mC (.str "latch"))))) (sRet (mTup (aCons (mVar 8) (aCons (mC (.tup [(.int 1), (.int 1)])) (aCons (mVar 2) (aCons (mC (.tup [(.int 0), (.int 1)])) aNil)))))) sNx)
    (sSeq (sSet 9 (mOp dSub (mVar 2) (mVar 8)))
    (sSeq (sIf (mTst (mOp dGt (mVar 9) (mVar 7))) (sRet (mC .non)) sNx)
    (sSeq (sSet 10 (mIf (mTst (mOp dEq (mVar 4) (mC (.str "trim")))) (mC (.tup [(.int 1), (.int 1)])) (mFn (F_lowest C) (aCons (mVar 9) (aCons (mOp dAdd (mVar 7) (mC (.int 1))) aNil)))))
    (sRet (mTup (aCons (mVar 8) (aCons (mFn (F_lowest C) (aCons (mOp dSub (mOp dAdd (mVar 7) (mC (.int 1))) (mVar 9)) (aCons (mOp dAdd (mVar 7) (mC (.int 1))) aNil))) (aCons (mVar 2) (aCons (mVar 10) aNil))))))))))))))
def F_written (C : Addr) : List D → Option D := runF 3 8 (B_written C)
def B_times (C : Addr) : Mo Fl := (sRet (mFn (F_lowest C) (aCons (mOp dMul (mOp dIx (mVar 0) (mC (.int 0))) (mOp dIx (mVar 1) (mC (.int 0)))) (aCons (mOp dMul (mOp dIx (mVar 0) (mC (.int 1))) (mOp dIx (mVar 1) (mC (.int 1)))) aNil))))
def F_times (C : Addr) : List D → Option D := runF 2 0 (B_times C)
def B_taken_by (C : Addr) : Mo Fl := (sSeq (sAsg (mVar 2) (gTp 2 (gsCons (gNm 3) (gsCons (gNm 4) gsNil))))
    (sSeq (sSet 5 (mFn (F_written C) (aCons (mVar 0) (aCons (mVar 1) (aCons (mVar 3) aNil)))))
    (sSeq (sIf (mTst (mOp dIs (mVar 5) (mC .non))) (sRet (mTup (aCons (mC .non) (aCons (mVar 2) aNil)))) sNx)
    (sSeq (sAsg (mVar 5) (gTp 4 (gsCons (gNm 6) (gsCons (gNm 7) (gsCons (gNm 8) (gsCons (gNm 9) gsNil))))))
    (sSeq (sSet 10 (mIf (mTst (mOp dIs (mVar 6) (mC .non))) (mC .non) (mTup (aCons (mVar 6) (aCons (mFn (F_times C) (aCons (mVar 4) (aCons (mVar 7) aNil))) aNil)))))
    (sRet (mTup (aCons (mVar 10) (aCons (mIf (mTst (mOp dEq (mVar 9) (mC (.tup [(.int 0), (.int 1)])))) (mC .non) (mTup (aCons (mVar 8) (aCons (mFn (F_times C) (aCons (mVar 4) (aCons (mVar 9) aNil))) aNil)))) aNil)))))))))
def F_taken_by (C : Addr) : List D → Option D := runF 3 8 (B_taken_by C)
def B_form_of (C : Addr) : Mo Fl := (sSeq (sSetN 3 (mLst aNil))
    (sSeq (sSet 4 (mTup (aCons (mVar 2) (aCons (mC (.tup [(.int 1), (.int 1)])) aNil))))
    (sSeq (sFor (iSeq seqT (mUn dRevT (mVar 0))) (gNm 5) (sSeq (sAsg (mFn (F_taken_by C) (aCons (mVar 5) (aCons (mVar 1) (aCons (mVar 4) aNil)))) (gTp 2 (gsCons (gNm 6) (gsCons (gNm 4) gsNil))))
    (sSeq (sIf (mTst (mOp dIsNot (mVar 6) (mC .non))) (sAppV 3 (mTup (aCons (mOp dIx (mVar 5) (mC (.int 0))) (aStar (mVar 6) aNil)))) sNx)
    (sIf (mTst (mOp dIs (mVar 4) (mC .non))) (sRet (mFn dTuple (aCons (mFn dSorted (aCons (mVar 3) aNil)) aNil))) sNx))))
    (sSeq (sAppV 3 (mTup (aCons (mC (.str "old")) (aStar (mVar 4) aNil))))
    (sRet (mFn dTuple (aCons (mFn dSorted (aCons (mVar 3) aNil)) aNil)))))))
def F_form_of (C : Addr) : List D → Option D := runF 3 4 (B_form_of C)
def B_Track_passes (C : Addr) : Mo Fl := (sRet (mFld C "_passes" (mVar 0)))
def F_Track_passes (C : Addr) : List D → Option D := runF 1 0 (B_Track_passes C)
def B_form (C : Addr) : Mo Fl := (sSeq (sDrop (mFn (F_check_track C) (aCons (mVar 0) aNil)))
    (sSeq (sDrop (mFn (F_check_tick C) (aCons (mVar 0) (aCons (mVar 1) aNil))))
    (sRet (mFn (F_form_of C) (aCons (mProp C (F_Track_passes C) (mVar 0)) (aCons (mProp C (F_Track_length C) (mVar 0)) (aCons (mVar 1) aNil)))))))
def F_form (C : Addr) : List D → Option D := runF 2 0 (B_form C)
def B_is_known (C : Addr) : Mo Fl := (sSeq (sIf (mOr (mNot (mTst (mFn dIsT (aCons (mVar 0) (aCons (mC (.ty "tuple")) aNil))))) (mTst (mOp dNe (mFn dLen (aCons (mVar 0) aNil)) (mC (.int 3))))) (sRet (mC (.bl false))) sNx)
    (sSeq (sAsg (mVar 0) (gTp 3 (gsCons (gNm 1) (gsCons (gNm 2) (gsCons (gNm 3) gsNil)))))
    (sRet (mAndV (mFn dIsT (aCons (mVar 1) (aCons (mC (.ty "str")) aNil))) (mAndV (mFn (F_is_integer C) (aCons (mVar 2) aNil)) (mAndV (mOp dGe (mVar 2) (mC (.int 0))) (mFn (F_is_integer C) (aCons (mVar 3) aNil))))))))
def F_is_known (C : Addr) : List D → Option D := runF 1 3 (B_is_known C)
def B_numbers_in (C : Addr) : Mo Fl := (sSeq (sIf (mNot (mTst (mFn dIsT (aCons (mVar 0) (aCons (mC (.ty "tuple")) aNil))))) (sNo) sNx)
    (sSeq (sSetN 1 mDNewT)
    (sSeq (sFor (iFn enumT? (aCons (mVar 0) aNil)) (gTp 2 (gsCons (gNm 2) (gsCons (gNm 3) gsNil))) (sSeq (sIf (mOr (mNot (mTst (mFn (F_is_known C) (aCons (mVar 3) aNil)))) (mTst (mDTk dInT 1 (mSl dSlK (mVar 3) mNo (mPart (mC (.int 2))))))) (sNo) sNx)
    (sDPutT 1 (mSl dSlK (mVar 3) mNo (mPart (mC (.int 2)))) (mOp dIx (mVar 3) (mC (.int 2))))))
    (sRet (mVar 1)))))
def F_numbers_in (C : Addr) : List D → Option D := runF 1 3 (B_numbers_in C)
def B_plus (C : Addr) : Mo Fl := (sRet (mFn (F_lowest C) (aCons (mOp dAdd (mOp dMul (mOp dIx (mVar 0) (mC (.int 0))) (mOp dIx (mVar 1) (mC (.int 1)))) (mOp dMul (mOp dIx (mVar 1) (mC (.int 0))) (mOp dIx (mVar 0) (mC (.int 1))))) (aCons (mOp dMul (mOp dIx (mVar 0) (mC (.int 1))) (mOp dIx (mVar 1) (mC (.int 1)))) aNil))))
def F_plus (C : Addr) : List D → Option D := runF 2 0 (B_plus C)
def B_number_at (C : Addr) : Mo Fl := (sSeq (sSet 3 (mFn (F_form C) (aCons (mVar 0) (aCons (mVar 1) aNil))))
    (sSeq (sSet 4 (mFn (F_numbers_in C) (aCons (mVar 2) aNil)))
    (sSeq (sSet 5 (mC (.tup [(.int 0), (.int 1)])))
    (sSeq (sFor (iSeq seqT (mVar 3)) (gTp 3 (gsCons (gNm 6) (gsCons (gNm 7) (gsCons (gNm 8) gsNil)))) (sSeq (sIf (mTst (mDTk dNinT 4 (mTup (aCons (mVar 6) (aCons (mVar 7) aNil))))) (sNo) sNx)
    (sSet 5 (mFn (F_plus C) (aCons (mVar 5) (aCons (mFn (F_times C) (aCons (mVar 8) (aCons (mTup (aCons (mDT dGetT 4 (mTup (aCons (mVar 6) (aCons (mVar 7) aNil)))) (aCons (mC (.int 1)) aNil))) aNil))) aNil))))))
    (sRet (mVar 5))))))
def F_number_at (C : Addr) : List D → Option D := runF 3 6 (B_number_at C)
def B_law_draw (C : Addr) : Mo Fl := (sSeq (sPar [2, 3] [false, false] (aCons (mIxV 0 (mC (.int 1))) (aCons (mOp dAdd (mOp dMod (mFn dInt (aCons (mIxV 0 (mC (.int 1))) aNil)) (mC (.int 40009))) (mC (.int 20021))) aNil)))
    (sSeq (sAsg (mOp dAdd (mIxV 0 (mC (.int 2))) (mC (.int 1))) (gPut 0 (mC (.int 2))))
    (sSeq (sAsg (mOp dMod (mFn dInt (aCons (mOp dAdd (mOp dAdd (mOp dMul (mVar 2) (mVar 3)) (mOp dMul (mC (.int 60013)) (mIxV 0 (mC (.int 2))))) (mC (.int 11))) aNil)) (mC (.int 2147483629))) (gPut 0 (mC (.int 1))))
    (sSeq (sIf (mTst (mOp dGt (mIxV 0 (mC (.int 0))) (mC (.int 0)))) (sSeq (sAsg (mFn dDivmod (aCons (mIxV 0 (mC (.int 0))) (aCons (mVar 1) aNil))) (gTp 2 (gsCons (gPut 0 (mC (.int 0))) (gsCons (gNm 4) gsNil))))
    (sRet (mVar 4))) sNx)
    (sRet (mOp dMod (mFn dInt (aCons (mOp dDiv (mIxV 0 (mC (.int 1))) (mC (.int 89))) aNil)) (mVar 1)))))))
def F_law_draw (C : Addr) : D → List D → Option (D × D) := runO 2 3 (B_law_draw C)
def B_law_pick (C : Addr) : Mo Fl := (sRet (mOp dIx (mVar 1) (mCallO (F_law_draw C) 0 (aCons (mFn dLen (aCons (mVar 1) aNil)) aNil))))
def F_law_pick (C : Addr) : D → List D → Option (D × D) := runO 2 0 (B_law_pick C)
def B_law_low (C : Addr) : Mo Fl := (sSeq (sPar [2, 3] [false, false] (aCons (mFn dAbs (aCons (mVar 0) aNil)) (aCons (mVar 1) aNil)))
    (sSeq (sWh (fuelI 3) (mTst (mOp dGt (mVar 3) (mC (.int 0)))) (sPar [2, 3] [false, false] (aCons (mVar 3) (aCons (mOp dMod (mFn dInt (aCons (mVar 2) aNil)) (mVar 3)) aNil))))
    (sRet (mTup (aCons (mOp dDiv (mVar 0) (mVar 2)) (aCons (mOp dDiv (mVar 1) (mVar 2)) aNil))))))
def F_law_low (C : Addr) : List D → Option D := runF 2 2 (B_law_low C)
def B_law_move (C : Addr) : Mo Fl := (sSeq (sPar [5, 6] [false, false] (aCons (mOp dIx (mVar 4) (mC (.int 1))) (aCons (mOp dAdd (mOp dIx (mVar 4) (mC (.int 5))) (mC (.int 1))) aNil)))
    (sSeq (sAsg (mVar 0) (gTp 2 (gsCons (gNm 7) (gsCons (gNm 8) gsNil))))
    (sSeq (sIf (mTst (mOp dIn (mVar 5) (mLst (aCons (mC (.str "write")) (aCons (mC (.str "latch")) aNil))))) (sRet (mTup (aCons (mVar 3) (aCons (mC (.int 1)) aNil)))) sNx)
    (sSeq (sIf (mTst (mOp dGe (mOp dSub (mVar 1) (mVar 2)) (mVar 6))) (sRet (mVar 0)) sNx)
    (sSeq (sSet 9 (mOp dMul (mOp dMul (mVar 3) (mOp dAdd (mOp dSub (mVar 6) (mVar 1)) (mVar 2))) (mVar 8)))
    (sSeq (sIf (mTst (mOp dEq (mVar 5) (mC (.str "trim")))) (sRet (mFn (F_law_low C) (aCons (mOp dAdd (mVar 9) (mOp dMul (mVar 7) (mVar 6))) (aCons (mOp dMul (mVar 6) (mVar 8)) aNil)))) sNx)
    (sRet (mFn (F_law_low C) (aCons (mOp dAdd (mVar 9) (mOp dMul (mVar 7) (mOp dSub (mVar 1) (mVar 2)))) (aCons (mOp dMul (mVar 6) (mVar 8)) aNil))))))))))
def F_law_move (C : Addr) : List D → Option D := runF 5 5 (B_law_move C)
def B_law_played (C : Addr) : Mo Fl := (sSeq (sSet 3 (mLc [4] (iSeq seqL (mVar 0)) (gNm 4) (mC true) (mTup (aCons (mVar 4) (aCons (mC (.int 1)) aNil)))))
    (sSeq (sFor (iSeq seqT (mVar 2)) (gNm 5) (sSeq (sAsg (mVar 5) (gTp 7 (gsCons (gNm 6) (gsCons (gNm 7) (gsCons (gNm 8) (gsCons (gNm 9) (gsCons (gNm 10) (gsCons (gNm 11) (gsCons (gNm 12) gsNil)))))))))
    (sSeq (sPar [13, 14] [true, false] (aCons (mFn dList (aCons (mVar 3) aNil)) (aCons (mC .non) aNil)))
    (sSeq (sFor (iFn rng2? (aCons (mVar 8) (aCons (mIf (mTst (mOp dEq (mVar 12) (mC (.str "stop")))) (mVar 9) (mFn dLen (aCons (mVar 0) aNil))) aNil))) (gNm 15) (sSeq (sIf (mTst (mOp dNe (mLc [16, 17] (iSeq seqT (mVar 10)) (gTp 2 (gsCons (gNm 16) (gsCons (gNm 17) gsNil))) (mTst (mChain dLe dLt (mVar 16) (mVar 15) (mVar 17))) (mVar 16)) (mLst aNil))) (sSet 14 (mVar 15)) sNx)
    (sIf (mTst (mOp dIsNot (mVar 14) (mC .non))) (sAsg (mFn (F_law_move C) (aCons (mOp dIx (mVar 3) (mVar 15)) (aCons (mVar 15) (aCons (mVar 14) (aCons (mDT dGetT 1 (mTup (aCons (mVar 6) (aCons (mVar 14) aNil)))) (aCons (mVar 5) aNil)))))) (gPut 13 (mVar 15))) (sIf (mTst (mOp dEq (mVar 7) (mC (.str "write")))) (sAsg (mOp dIx (mVar 3) (mVar 8)) (gPut 13 (mVar 15))) sNx))))
    (sSet 3 (mVar 13))))))
    (sRet (mVar 3))))
def F_law_played (C : Addr) : List D → Option D := runF 3 15 (B_law_played C)
def B_law_words (C : Addr) : Mo Fl := (sSeq (sSet 1 (mLst (aCons (mC (.str "a")) (aCons (mC (.str "b")) (aCons (mC (.str "olds")) (aCons (mC (.str "z9")) (aCons (mC (.str "write")) (aCons (mC (.str "c")) (aCons (mC (.str "on")) (aCons (mC (.str "pass")) (aCons (mC (.str "abcdefgh")) (aCons (mC (.str "t0000001")) (aCons (mC (.str "ol")) (aCons (mC (.str "track")) (aCons (mC (.str "ab")) (aCons (mC (.str "aa")) aNil))))))))))))))))
    (sSeq (sSet 2 (mCallO (F_law_draw C) 0 (aCons (mFn dLen (aCons (mVar 1) aNil)) aNil)))
    (sRet (mSl dSl (mOp dAdd (mSl dSl (mVar 1) (mPart (mVar 2)) mNo) (mSl dSl (mVar 1) mNo (mPart (mVar 2)))) mNo (mPart (mC (.int 8)))))))
def F_law_words (C : Addr) : D → List D → Option (D × D) := runO 1 2 (B_law_words C)
def B_law_touches (C : Addr) : Mo Fl := (sSeq (sPar [5, 6] [true, false] (aCons (mLst aNil) (aCons (mVar 1) aNil)))
    (sSeq (sFor (iFn rng1? (aCons (mVar 3) aNil)) (gNm 7) (sSeq (sSet 8 (mOp dAdd (mVar 6) (mOp dMul (mCallO (F_law_draw C) 0 (aCons (mC (.int 4)) aNil)) (mCallO (F_law_pick C) 0 (aCons (mLst (aCons (mC (.int 1)) (aCons (mC (.int 1)) (aCons (mVar 4) aNil)))) aNil)))))
    (sSeq (sSet 9 (mOp dAdd (mOp dAdd (mVar 8) (mC (.int 1))) (mOp dMul (mCallO (F_law_draw C) 0 (aCons (mC (.int 3)) aNil)) (mCallO (F_law_pick C) 0 (aCons (mLst (aCons (mC (.int 1)) (aCons (mC (.int 1)) (aCons (mVar 4) aNil)))) aNil)))))
    (sIf (mTst (mOp dLe (mVar 9) (mVar 2))) (sSeq (sAppV 5 (mTup (aCons (mVar 8) (aCons (mVar 9) aNil))))
    (sSet 6 (mOp dAdd (mVar 9) (mC (.int 1))))) sNx))))
    (sRet (mFn dTuple (aCons (mVar 5) aNil)))))
def F_law_touches (C : Addr) : D → List D → Option (D × D) := runO 5 5 (B_law_touches C)
def B_law_wide (C : Addr) : Mo Fl := (sRet (mOp dMod (mFn dInt (aCons (mOp dAdd (mOp dMul (mCallO (F_law_draw C) 0 (aCons (mOp dPow (mC (.int 10)) (mC (.int 6))) aNil)) (mOp dPow (mC (.int 10)) (mC (.int 6)))) (mCallO (F_law_draw C) 0 (aCons (mOp dPow (mC (.int 10)) (mC (.int 6))) aNil))) aNil)) (mVar 1)))
def F_law_wide (C : Addr) : D → List D → Option (D × D) := runO 2 0 (B_law_wide C)
def B_law_fader (C : Addr) : Mo Fl := (sSeq (sSet 3 (mCallO (F_law_pick C) 0 (aCons (mLst (aCons (mC (.int 0)) (aCons (mCallO (F_law_wide C) 0 (aCons (mVar 2) aNil)) (aCons (mCallO (F_law_wide C) 0 (aCons (mVar 2) aNil)) aNil)))) aNil)))
    (sSeq (sSet 4 (mOp dAdd (mLst (aCons (mVar 2) aNil)) (mLc [5] (iFn rng1? (aCons (mC (.int 2)) aNil)) (gNm 5) (mC true) (mOp dAdd (mOp dAdd (mVar 3) (mC (.int 1))) (mCallO (F_law_wide C) 0 (aCons (mOp dSub (mVar 2) (mVar 3)) aNil))))))
    (sSeq (sSet 6 (mCallO (F_law_pick C) 0 (aCons (mVar 4) aNil)))
    (sSeq (sSet 7 (mCallO (F_law_pick C) 0 (aCons (mLst (aCons (mC (.int 1)) (aCons (mC (.int 1)) (aCons (mFn dMax (aCons (mC (.int 1)) (aCons (mOp dDiv (mOp dSub (mVar 6) (mVar 3)) (mC (.int 20))) aNil))) aNil)))) aNil)))
    (sSeq (sSet 8 (mCallO (F_law_touches C) 0 (aCons (mVar 3) (aCons (mVar 6) (aCons (mCallO (F_law_draw C) 0 (aCons (mC (.int 7)) aNil)) (aCons (mVar 7) aNil))))))
    (sSeq (sSet 9 (mCallO (F_law_pick C) 0 (aCons (mLst (aCons (mC (.str "write")) (aCons (mC (.str "latch")) (aCons (mC (.str "touch")) (aCons (mC (.str "touch")) (aCons (mC (.str "trim")) aNil)))))) aNil)))
    (sSeq (sPar [10, 11] [false, false] (aCons (mCallO (F_law_pick C) 0 (aCons (mLst (aCons (mC (.int 0)) (aCons (mC (.int 1)) (aCons (mC (.int 2)) (aCons (mC (.int 3)) (aCons (mC (.int 7)) (aCons (mC (.int 99)) (aCons (mC (.int 100)) aNil)))))))) aNil)) (aCons (mCallO (F_law_pick C) 0 (aCons (mLst (aCons (mC (.str "stop")) (aCons (mC (.str "stop")) (aCons (mC (.str "on")) aNil)))) aNil)) aNil)))
    (sRet (mTup (aCons (mVar 1) (aCons (mVar 9) (aCons (mVar 3) (aCons (mVar 6) (aCons (mVar 8) (aCons (mVar 10) (aCons (mVar 11) aNil))))))))))))))))
def F_law_fader (C : Addr) : D → List D → Option (D × D) := runO 3 9 (B_law_fader C)
def B_law_faders (C : Addr) : Mo Fl := (sSeq (sSet 3 (mCallO (F_law_words C) 0 aNil))
    (sRet (mFn dTuple (aCons (mLc [4] (iFn rng1? (aCons (mCallO (F_law_draw C) 0 (aCons (mOp dAdd (mVar 2) (mC (.int 1))) aNil)) aNil)) (gNm 4) (mC true) (mCallO (F_law_fader C) 0 (aCons (mOp dIx (mVar 3) (mVar 4)) (aCons (mVar 1) aNil)))) aNil))))
def F_law_faders (C : Addr) : D → List D → Option (D × D) := runO 3 2 (B_law_faders C)
def B_law_pass (C : Addr) : Mo Fl := (sSeq (sSet 4 (mIf (mTst (mOp dGt (mCallO (F_law_draw C) 0 (aCons (mC (.int 4)) aNil)) (mC (.int 0)))) (mOp dMul (mCallO (F_law_draw C) 0 (aCons (mFn dMax (aCons (mC (.int 1)) (aCons (mOp dDiv (mVar 2) (mVar 3)) aNil))) aNil)) (mVar 3)) (mC (.int 0))))
    (sSeq (sSet 4 (mFn dMin (aCons (mVar 4) (aCons (mOp dSub (mVar 2) (mC (.int 1))) aNil))))
    (sSeq (sSet 5 (mOp dAdd (mOp dAdd (mVar 4) (mC (.int 1))) (mOp dMul (mCallO (F_law_draw C) 0 (aCons (mFn dMax (aCons (mC (.int 1)) (aCons (mOp dDiv (mOp dSub (mVar 2) (mVar 4)) (mVar 3)) aNil))) aNil)) (mVar 3))))
    (sSeq (sSet 5 (mCallO (F_law_pick C) 0 (aCons (mLst (aCons (mFn dMin (aCons (mVar 5) (aCons (mVar 2) aNil))) (aCons (mFn dMin (aCons (mVar 5) (aCons (mVar 2) aNil))) (aCons (mVar 2) aNil)))) aNil)))
    (sSeq (sSet 6 (mCallO (F_law_touches C) 0 (aCons (mVar 4) (aCons (mVar 5) (aCons (mCallO (F_law_draw C) 0 (aCons (mC (.int 4)) aNil)) (aCons (mVar 3) aNil))))))
    (sSeq (sSet 7 (mCallO (F_law_pick C) 0 (aCons (mLst (aCons (mC (.str "write")) (aCons (mC (.str "latch")) (aCons (mC (.str "touch")) (aCons (mC (.str "touch")) (aCons (mC (.str "trim")) aNil)))))) aNil)))
    (sSeq (sPar [8, 9] [false, false] (aCons (mCallO (F_law_pick C) 0 (aCons (mLst (aCons (mC (.int 0)) (aCons (mC (.int 1)) (aCons (mC (.int 2)) (aCons (mC (.int 3)) (aCons (mC (.int 5)) aNil)))))) aNil)) (aCons (mCallO (F_law_pick C) 0 (aCons (mLst (aCons (mC (.str "stop")) (aCons (mC (.str "stop")) (aCons (mC (.str "on")) aNil)))) aNil)) aNil)))
    (sRet (mTup (aCons (mVar 1) (aCons (mVar 7) (aCons (mVar 4) (aCons (mVar 5) (aCons (mVar 6) (aCons (mVar 8) (aCons (mVar 9) aNil))))))))))))))))
def F_law_pass (C : Addr) : D → List D → Option (D × D) := runO 4 6 (B_law_pass C)
def B_law_row (C : Addr) : Mo Fl := (sSeq (sSet 4 (mLst (aCons (mC (.str "a")) (aCons (mC (.str "b")) (aCons (mC (.str "olds")) (aCons (mC (.str "z9")) (aCons (mC (.str "write")) (aCons (mC (.str "c")) (aCons (mC (.str "on")) (aCons (mC (.str "pass")) aNil))))))))))
    (sSeq (sSet 5 (mCallO (F_law_draw C) 0 (aCons (mC (.int 8)) aNil)))
    (sSeq (sSet 4 (mOp dAdd (mSl dSl (mVar 4) (mPart (mVar 5)) mNo) (mSl dSl (mVar 4) mNo (mPart (mVar 5)))))
    (sRet (mFn dTuple (aCons (mLc [6] (iFn rng1? (aCons (mCallO (F_law_draw C) 0 (aCons (mOp dAdd (mVar 2) (mC (.int 1))) aNil)) aNil)) (gNm 6) (mC true) (mCallO (F_law_pass C) 0 (aCons (mOp dIx (mVar 4) (mVar 6)) (aCons (mVar 1) (aCons (mVar 3) aNil))))) aNil))))))
def F_law_row (C : Addr) : D → List D → Option (D × D) := runO 4 3 (B_law_row C)
def B_law_right (C : Addr) : Mo Fl := (sSeq (sSet 1 (mOp dAdd (mC (.int 1)) (mCallO (F_law_draw C) 0 (aCons (mC (.int 12)) aNil))))
    (sSeq (sSet 2 (mCallO (F_law_pick C) 0 (aCons (mLst (aCons (mCallO (F_law_faders C) 0 (aCons (mVar 1) (aCons (mC (.int 6)) aNil))) (aCons (mCallO (F_law_row C) 0 (aCons (mVar 1) (aCons (mC (.int 6)) (aCons (mC (.int 1)) aNil)))) aNil))) aNil)))
    (sSeq (sSet 3 (mCallO (F_law_pick C) 0 (aCons (mLst (aCons (mC (.int 1)) (aCons (mC (.int 1)) (aCons (mOp dAdd (mOp dPow (mC (.int 10)) (mC (.int 30))) (mC (.int 57))) aNil)))) aNil)))
    (sSeq (sPar [4, 5] [false, true] (aCons (mLc [6] (iFn rng1? (aCons (mVar 1) aNil)) (gNm 6) (mC true) (mOp dMul (mOp dSub (mCallO (F_law_draw C) 0 (aCons (mC (.int 101)) aNil)) (mC (.int 50))) (mVar 3))) (aCons mDNewT aNil)))
    (sSeq (sSetN 7 (mOp dCat (mLc [6] (iFn rng1? (aCons (mVar 1) aNil)) (gNm 6) (mC true) (mTup (aCons (mC (.str "old")) (aCons (mVar 6) (aCons (mOp dIx (mVar 4) (mVar 6)) aNil))))) (mLst (aCons (mTup (aCons (mC (.str "zz")) (aCons (mC (.int 0)) (aCons (mC (.int 9)) aNil)))) (aCons (mTup (aCons (mC (.str "old")) (aCons (mVar 1) (aCons (mC (.int 9)) aNil)))) (aCons (mTup (aCons (mC (.str "")) (aCons (mOp dPow (mC (.int 10)) (mC (.int 12))) (aCons (mC (.int 0)) aNil)))) aNil))))))
    (sSeq (sFor (iSeq seqT (mVar 2)) (gNm 8) (sFor (iSeq seqT (mOp dIx (mVar 8) (mC (.int 4)))) (gTp 2 (gsCons (gNm 9) (gsCons (gNm 10) gsNil))) (sFor (iFn rng2? (aCons (mVar 9) (aCons (mVar 10) aNil))) (gNm 6) (sSeq (sDPutT 5 (mTup (aCons (mOp dIx (mVar 8) (mC (.int 0))) (aCons (mVar 6) aNil))) (mOp dAdd (mOp dMul (mOp dSub (mCallO (F_law_draw C) 0 (aCons (mC (.int 101)) aNil)) (mC (.int 50))) (mVar 3)) (mVar 6)))
    (sAppV 7 (mTup (aCons (mOp dIx (mVar 8) (mC (.int 0))) (aCons (mVar 6) (aCons (mDT dGetT 5 (mTup (aCons (mOp dIx (mVar 8) (mC (.int 0))) (aCons (mVar 6) aNil)))) aNil)))))))))
    (sSeq (sSet 11 (mCallO (F_law_draw C) 0 (aCons (mFnP dLen 7) aNil)))
    (sSeq (sSet 7 (mFn dTuple (aCons (mOp dAdd (mSl dSl (mVar 7) (mPart (mVar 11)) mNo) (mSl dSl (mVar 7) mNo (mPart (mVar 11)))) aNil)))
    (sSeq (sPar [12, 13] [false, false] (aCons (mMake C (F_Track_init C) [] (aCons (mVar 1) (aCons (mVar 2) aNil))) (aCons (mFn (F_law_played C) (aCons (mVar 4) (aCons (mVar 5) (aCons (mVar 2) aNil)))) aNil)))
    (sSeq (sIf (mTst (mOp dNe (mFn dRepr (aCons (mLc [6] (iFn rng1? (aCons (mVar 1) aNil)) (gNm 6) (mC true) (mFn (F_number_at C) (aCons (mVar 12) (aCons (mVar 6) (aCons (mVar 7) aNil))))) aNil)) (mFn dRepr (aCons (mVar 13) aNil)))) (sRet (mC (.bl false))) sNx)
    (sSeq (sSet 11 (mCallO (F_law_draw C) 0 (aCons (mVar 1) aNil)))
    (sRet (mOp dEq (mFn dRepr (aCons (mKw [2, 1, 0] 0 3 (F_number_at C) aNil (aCons (mUn dRevT (mVar 7)) (aCons (mVar 11) (aCons (mVar 12) aNil)))) aNil)) (mFn dRepr (aCons (mOp dIx (mVar 13) (mVar 11)) aNil)))))))))))))))
def F_law_right (C : Addr) : D → List D → Option (D × D) := runO 1 13 (B_law_right C)
def B_law_purse (C : Addr) : Mo Fl := (sSeq (sIf (mTst (mOp dLt (mVar 1) (mFn dLen (aCons (mVar 0) aNil)))) (sSeq (sSet 2 (mOp dIx (mVar 0) (mVar 1)))
    (sSeq (sSet 3 (mIf (mOr (mTst (mOp dLt (mVar 2) (mC (.int 0)))) (mTst (mOp dGe (mVar 2) (mOp dPow (mC (.int 10)) (mC (.int 18)))))) (mFn dAbs (aCons (mVar 2) aNil)) (mC (.int 0))))
    (sRetNew (mLst (aCons (mVar 3) (aCons (mOp dMod (mFn dInt (aCons (mOp dAdd (mOp dAdd (mOp dMul (mVar 2) (mC (.int 39373))) (mOp dMul (mC (.int 104723)) (mVar 1))) (mC (.int 17))) aNil)) (mC (.int 2147483629))) (aCons (mC (.int 0)) aNil))))))) sNx)
    (sSeq (sSet 4 (mOp dAdd (mOp dMul (mC (.int 86243)) (mVar 1)) (mC (.int 131))))
    (sSeq (sFor (iSeq seqL (mSl dSl (mVar 0) mNo (mPart (mC (.int 4))))) (gNm 2) (sSet 4 (mOp dMod (mFn dInt (aCons (mOp dAdd (mOp dMul (mVar 4) (mC (.int 48271))) (mVar 2)) aNil)) (mC (.int 2147483587)))))
    (sRetNew (mLst (aCons (mC (.int 0)) (aCons (mVar 4) (aCons (mC (.int 0)) aNil))))))))
def F_law_purse (C : Addr) : List D → Option D := runN 2 3 (B_law_purse C)
def B_law (C : Addr) : Mo Fl := (sSeq (sSet 1 (mMake C (F_Track_init C) [] (aCons (mC (.int 12)) (aCons (mTup (aCons (mTup (aCons (mC (.str "a")) (aCons (mC (.str "touch")) (aCons (mC (.int 2)) (aCons (mC (.int 8)) (aCons (mTup (aCons (mTup (aCons (mC (.int 3)) (aCons (mC (.int 5)) aNil))) aNil)) (aCons (mC (.int 3)) (aCons (mC (.str "stop")) aNil)))))))) aNil)) aNil))))
    (sSeq (sIf (mOr (mTst (mOp dNe (mFn (F_number_at C) (aCons (mVar 1) (aCons (mC (.int 5)) (aCons (mTup (aCons (mTup (aCons (mC (.str "a")) (aCons (mC (.int 4)) (aCons (mC (.int 8)) aNil)))) (aCons (mTup (aCons (mC (.str "old")) (aCons (mC (.int 5)) (aCons (mUn dNeg (mC (.int 4))) aNil)))) aNil))) aNil)))) (mTup (aCons (mC (.int 5)) (aCons (mC (.int 1)) aNil))))) (mTst (mOp dNe (mFn (F_number_at C) (aCons (mVar 1) (aCons (mC (.int 0)) (aCons (mTup (aCons (mTup (aCons (mC (.str "old")) (aCons (mC (.int 0)) (aCons (mUn dNeg (mC (.int 7))) aNil)))) aNil)) aNil)))) (mTup (aCons (mUn dNeg (mC (.int 7))) (aCons (mC (.int 1)) aNil)))))) (sRet (mC (.bl false))) sNx)
    (sSeq (sIf (mOr (mTst (mOp dNe (mFn (F_number_at C) (aCons (mVar 1) (aCons (mC (.int 7)) (aCons (mTup (aCons (mTup (aCons (mC (.str "old")) (aCons (mC (.int 7)) (aCons (mC (.int 0)) aNil)))) (aCons (mTup (aCons (mC (.str "a")) (aCons (mC (.int 4)) (aCons (mC (.int 2)) aNil)))) aNil))) aNil)))) (mTup (aCons (mC (.int 1)) (aCons (mC (.int 2)) aNil))))) (mTst (mOp dNe (mFn (F_number_at C) (aCons (mVar 1) (aCons (mC (.int 8)) (aCons (mTup (aCons (mTup (aCons (mC (.str "old")) (aCons (mC (.int 8)) (aCons (mC (.int 0)) aNil)))) aNil)) aNil)))) (mTup (aCons (mC (.int 0)) (aCons (mC (.int 1)) aNil)))))) (sRet (mC (.bl false))) sNx)
    (sSeq (sFor (iFn rng1? (aCons (mFn dMax (aCons (mC (.int 2)) (aCons (mFn dMin (aCons (mFn dLen (aCons (mVar 0) aNil)) (aCons (mC (.int 4)) aNil))) aNil))) aNil)) (gNm 2) (sIf (mNot (mTst (mCallNew (F_law_right C) (mFn (F_law_purse C) (aCons (mVar 0) (aCons (mVar 2) aNil))) aNil))) (sRet (mC (.bl false))) sNx))
    (sRet (mC (.bl true)))))))
def F_law (C : Addr) : List D → Option D := runF 1 2 (B_law C)
end My
namespace My
open PySem PySem.Spec PyProof.Rows L2 DL
section
variable {P : Program} {w : World} {K : PySem.W.Frag} {mg : Str → Option Value} {base : Heap}
theorem KB_number_at_0_known_tick_track (T : Txt w.params K mg) : KBn K T.number_at.fd ["track", "tick", "known"] 0 ["known", "tick", "track"] (fun us ws => pick [2, 1, 0] (us ++ ws)) (fun vs zs => pick [2, 1, 0] (vs ++ zs)) := kbn_of T.number_at.F 0 ["known", "tick", "track"] [2, 1, 0] fun _ _ _ _ _ _ us ws l1 l2 => match us, ws, l1, l2 with | [], [_, _, _], _, _ => rfl
set_option maxHeartbeats 2000000 in
theorem bd_is_integer (T : Txt w.params K mg) : BodyD P w K mg base "is_integer" sis_integer T.is_integer.f ["value"] 0 (B_is_integer T.C) := by
  intro cdv A outer s H E hr
  have hu := hu100 hr
  have hu64 := hu64_of hr
  have hu1 := hu1_of hr
  unfold B_is_integer
  exact ⟨_, fun M0 P0 H0 => (b_one (s_ret (d_andV (d_blt call_ISIT T.z_isinstance (by decide +kernel) (d_acons (dv 0) (d_acons (d_ty T.z_int (by decide +kernel)) d_anil))) (d_one (d_notV (d_blt call_ISIT T.z_isinstance (by decide +kernel) (d_acons (dv 0) (d_acons (d_ty T.z_bool (by decide +kernel)) d_anil))))))))⟩
theorem ok_is_integer (T : Txt w.params K mg) : FnOk P w K mg base CX0 1 T.is_integer.f T.is_integer.fd ["value"] (spF K 1 (F_is_integer T.C)) := okF T.is_integer.F scis_integer rfl rfl (bd_is_integer T)
set_option maxHeartbeats 2000000 in
theorem bd_is_between (T : Txt w.params K mg) : BodyD P w K mg base "is_between" sis_between T.is_between.f ["value", "low", "high"] 1 (B_is_between T.C) := by
  intro cdv A outer s H E hr
  have hu := hu100 hr
  have hu64 := hu64_of hr
  have hu1 := hu1_of hr
  unfold B_is_between
  exact ⟨_, fun M0 P0 H0 => (b_one (s_ret (d_andV (d_call (ok_is_integer T) takesF (hr.mono (by decide)) T.is_integer.g T.is_integer.F.kp T.is_integer.b (d_acons (dv 0) d_anil)) (d_one (d_chain op_LE op_LE (dv 1) (dv 0) (dv 2))))))⟩
theorem ok_is_between (T : Txt w.params K mg) : FnOk P w K mg base CX0 2 T.is_between.f T.is_between.fd ["value", "low", "high"] (spF K 3 (F_is_between T.C)) := okF T.is_between.F scis_between rfl rfl (bd_is_between T)
set_option maxHeartbeats 2000000 in
theorem bd_is_stretch (T : Txt w.params K mg) : BodyD P w K mg base "is_stretch" sis_stretch T.is_stretch.f ["value", "low", "high"] 2 (B_is_stretch T.C) := by
  intro cdv A outer s H E hr
  have hu := hu100 hr
  have hu64 := hu64_of hr
  have hu1 := hu1_of hr
  unfold B_is_stretch
  exact ⟨_, fun M0 P0 H0 => (b_cons (s_if (DW.dt (d_or (d_not (d_tval (d_blt call_ISIT T.z_isinstance (by decide +kernel) (d_acons (dv 0) (d_acons (d_ty T.z_tuple (by decide +kernel)) d_anil))))) (d_or1 (d_tcmp (op_NE hu64) (d_blt call_LEN T.z_len (by decide +kernel) (d_acons (dv 0) d_anil)) d_int (nomark _))))) (b_one (s_ret d_bl)) b_nil)
      (b_one (s_ret (d_andV (d_call (ok_is_between T) takesF (hr.mono (by decide)) T.is_between.g T.is_between.F.kp T.is_between.b (d_acons (d_ix (dv 0) d_int (fun _ _ => rfl)) (d_acons (dv 1) (d_acons (dv 2) d_anil)))) (d_one (d_call (ok_is_between T) takesF (hr.mono (by decide)) T.is_between.g T.is_between.F.kp T.is_between.b (d_acons (d_ix (dv 0) d_int (fun _ _ => rfl)) (d_acons (d_op op_ADD (d_ix (dv 0) d_int (fun _ _ => rfl)) d_int) (d_acons (dv 2) d_anil)))))))))⟩
theorem ok_is_stretch (T : Txt w.params K mg) : FnOk P w K mg base CX0 3 T.is_stretch.f T.is_stretch.fd ["value", "low", "high"] (spF K 3 (F_is_stretch T.C)) := okF T.is_stretch.F scis_stretch rfl rfl (bd_is_stretch T)
set_option maxHeartbeats 2000000 in
theorem bd_are_touches (T : Txt w.params K mg) : BodyD P w K mg base "are_touches" sare_touches T.are_touches.f ["value", "first", "last", "low", "stretch"] 3 (B_are_touches T.C) := by
  intro cdv A outer s H E hr
  have hu := hu100 hr
  have hu64 := hu64_of hr
  have hu1 := hu1_of hr
  unfold B_are_touches
  exact ⟨_, fun M0 P0 H0 => (b_cons (s_if (DW.dt (d_or (d_not (d_tval (d_blt call_ISIT T.z_isinstance (by decide +kernel) (d_acons (dv 0) (d_acons (d_ty T.z_tuple (by decide +kernel)) d_anil))))) (d_or1 (d_tcmp op_GT (d_blt call_LEN T.z_len (by decide +kernel) (d_acons (dv 0) d_anil)) (d_gi T.c_MOST_TOUCHES) (nomark _))))) (b_one (s_ret d_bl)) b_nil)
      (b_cons (s_set (i := 3) scare_touches.nd rfl (Or.inl rfl) (dv 1))
      (b_cons (s_for PassesOwn.never rfl (i_tup (dv 0)) (g_name (i := 4) scare_touches.nd rfl (Or.inl rfl)) (b_cons (s_if (d_not (d_tval (d_call (ok_is_stretch T) takesF (hr.mono (by decide)) T.is_stretch.g T.is_stretch.F.kp T.is_stretch.b (d_acons (dv 4) (d_acons (dv 3) (d_acons (dv 2) d_anil)))))) (b_one (s_ret d_bl)) b_nil)
      (b_one (s_set (i := 3) scare_touches.nd rfl (Or.inl rfl) (d_op op_ADD (d_ix (dv 4) d_int (fun _ _ => rfl)) d_int)))))
      (b_one (s_ret d_bl)))))⟩
theorem ok_are_touches (T : Txt w.params K mg) : FnOk P w K mg base CX0 4 T.are_touches.f T.are_touches.fd ["value", "first", "last"] (spF K 3 (F_are_touches T.C)) := okF T.are_touches.F scare_touches rfl rfl (bd_are_touches T)
set_option maxHeartbeats 2000000 in
theorem bd_is_name (T : Txt w.params K mg) : BodyD P w K mg base "is_name" sis_name T.is_name.f ["value", "sign"] 0 (B_is_name T.C) := by
  intro cdv A outer s H E hr
  have hu := hu100 hr
  have hu64 := hu64_of hr
  have hu1 := hu1_of hr
  unfold B_is_name
  exact ⟨_, fun M0 P0 H0 => (b_cons (s_if (DW.dt (d_or (d_not (d_tval (d_blt call_ISIT T.z_isinstance (by decide +kernel) (d_acons (dv 0) (d_acons (d_ty T.z_str (by decide +kernel)) d_anil))))) (d_or1 (d_not (d_tchain op_LE op_LE d_int (d_blt call_LEN T.z_len (by decide +kernel) (d_acons (dv 0) d_anil)) (d_gi T.c_MOST_SIGNS)))))) (b_one (s_ret d_bl)) b_nil)
      (b_one (s_ret (d_andV (d_cmp (op_IN hu) (d_ix (dv 0) d_int (fun _ _ => rfl)) (d_gs T.c_LETTERS) (by rfl)) (d_one (d_blt (call_ALL rfl) T.z_all (by decide +kernel) (d_acons (DN.e (d_lc (own := [("sign", 1)]) rfl scis_name.nd (i_str (dv 0)) (blkOk_by (N := ["value", "sign"]) (sc := defScope sis_name) (by decide +kernel)) (own_nam (by decide)).1 ⟨fun _ _ _ _ _ => (g_name (i := 1) scis_name.nd rfl (Or.inl rfl)), fun _ _ _ _ _ => t_nil, fun _ _ _ _ _ => (d_cmp (op_IN hu) (dv 1) (d_op op_ADD (d_gs T.c_LETTERS) (d_gs T.c_DIGITS)) (by rfl))⟩)) d_anil)))))))⟩
theorem ok_is_name (T : Txt w.params K mg) : FnOk P w K mg base CX0 1 T.is_name.f T.is_name.fd ["value"] (spF K 1 (F_is_name T.C)) := okF T.is_name.F scis_name rfl rfl (bd_is_name T)
set_option maxHeartbeats 2000000 in
theorem bd_is_word (T : Txt w.params K mg) : BodyD P w K mg base "is_word" sis_word T.is_word.f ["value", "words"] 0 (B_is_word T.C) := by
  intro cdv A outer s H E hr
  have hu := hu100 hr
  have hu64 := hu64_of hr
  have hu1 := hu1_of hr
  unfold B_is_word
  exact ⟨_, fun M0 P0 H0 => (b_one (s_ret (d_andV (d_blt call_ISIT T.z_isinstance (by decide +kernel) (d_acons (dv 0) (d_acons (d_ty T.z_str (by decide +kernel)) d_anil))) (d_one (d_cmp (op_IN hu) (dv 0) (dv 1) (by rfl))))))⟩
theorem ok_is_word (T : Txt w.params K mg) : FnOk P w K mg base CX0 1 T.is_word.f T.is_word.fd ["value", "words"] (spF K 2 (F_is_word T.C)) := okF T.is_word.F scis_word rfl rfl (bd_is_word T)
set_option maxHeartbeats 2000000 in
theorem bd_is_pass (T : Txt w.params K mg) : BodyD P w K mg base "is_pass" sis_pass T.is_pass.f ["value", "length", "name", "mode", "first", "last", "touches", "glide", "tail"] 4 (B_is_pass T.C) := by
  intro cdv A outer s H E hr
  have hu := hu100 hr
  have hu64 := hu64_of hr
  have hu1 := hu1_of hr
  unfold B_is_pass
  exact ⟨_, fun M0 P0 H0 => (b_cons (s_if (DW.dt (d_or (d_not (d_tval (d_blt call_ISIT T.z_isinstance (by decide +kernel) (d_acons (dv 0) (d_acons (d_ty T.z_tuple (by decide +kernel)) d_anil))))) (d_or1 (d_tcmp (op_NE hu64) (d_blt call_LEN T.z_len (by decide +kernel) (d_acons (dv 0) d_anil)) (d_gi T.c_SIZE) (nomark _))))) (b_one (s_ret d_bl)) b_nil)
      (b_cons (s_asg (dv 0) (g_tup rfl (gs_cons (g_name (i := 2) scis_pass.nd rfl (Or.inl rfl)) (gs_cons (g_name (i := 3) scis_pass.nd rfl (Or.inl rfl)) (gs_cons (g_name (i := 4) scis_pass.nd rfl (Or.inl rfl)) (gs_cons (g_name (i := 5) scis_pass.nd rfl (Or.inl rfl)) (gs_cons (g_name (i := 6) scis_pass.nd rfl (Or.inl rfl)) (gs_cons (g_name (i := 7) scis_pass.nd rfl (Or.inl rfl)) (gs_cons (g_name (i := 8) scis_pass.nd rfl (Or.inl rfl)) gs_nil)))))))))
      (b_cons (s_if (DW.dt (d_or (d_not (d_tval (d_call (ok_is_name T) takesF (hr.mono (by decide)) T.is_name.g T.is_name.F.kp T.is_name.b (d_acons (dv 2) d_anil)))) (d_or1 (d_tcmp (op_EQ hu64) (dv 2) (d_gs T.c_OLD) (nomark _))))) (b_one (s_ret d_bl)) b_nil)
      (b_cons (s_if (DW.dt (d_or (d_not (d_tval (d_call (ok_is_word T) takesF (hr.mono (by decide)) T.is_word.g T.is_word.F.kp T.is_word.b (d_acons (dv 3) (d_acons (d_gtu T.c_MODES.g T.c_MODES.q (fun _ _ => (.cons (.str _) (.cons (.str _) (.cons (.str _) (.cons (.str _) .nil)))))) d_anil))))) (d_or1 (d_not (d_tval (d_call (ok_is_word T) takesF (hr.mono (by decide)) T.is_word.g T.is_word.F.kp T.is_word.b (d_acons (dv 8) (d_acons (d_gtu T.c_TAILS.g T.c_TAILS.q (fun _ _ => (.cons (.str _) (.cons (.str _) .nil)))) d_anil)))))))) (b_one (s_ret d_bl)) b_nil)
      (b_cons (s_if (d_not (d_tval (d_call (ok_is_stretch T) takesF (hr.mono (by decide)) T.is_stretch.g T.is_stretch.F.kp T.is_stretch.b (d_acons (d_tup (d_acons (dv 4) (d_acons (dv 5) d_anil))) (d_acons d_int (d_acons (dv 1) d_anil)))))) (b_one (s_ret d_bl)) b_nil)
      (b_one (s_ret (d_andV (d_call (ok_are_touches T) takesF (hr.mono (by decide)) T.are_touches.g T.are_touches.F.kp T.are_touches.b (d_acons (dv 6) (d_acons (dv 4) (d_acons (dv 5) d_anil)))) (d_one (d_call (ok_is_between T) takesF (hr.mono (by decide)) T.is_between.g T.is_between.F.kp T.is_between.b (d_acons (dv 7) (d_acons d_int (d_acons (d_gi T.c_MOST_GLIDE) d_anil)))))))))))))⟩
theorem ok_is_pass (T : Txt w.params K mg) : FnOk P w K mg base CX0 5 T.is_pass.f T.is_pass.fd ["value", "length"] (spF K 2 (F_is_pass T.C)) := okF T.is_pass.F scis_pass rfl rfl (bd_is_pass T)
set_option maxHeartbeats 2000000 in
theorem bd_first_wrong (T : Txt w.params K mg) : BodyD P w K mg base "first_wrong" sfirst_wrong T.first_wrong.f ["passes", "length", "names", "at", "one"] 5 (B_first_wrong T.C) := by
  intro cdv A outer s H E hr
  have hu := hu100 hr
  have hu64 := hu64_of hr
  have hu1 := hu1_of hr
  unfold B_first_wrong
  exact ⟨_, fun M0 P0 H0 => (b_cons (s_setN (i := 2) scfirst_wrong.nd rfl (Or.inl rfl) (d_lst d_anil))
      (b_cons (s_for PassesOwn.never rfl (i_enumT T.z_enumerate (d_acons (dv 0) d_anil)) (g_tup rfl (gs_cons (g_name (i := 3) scfirst_wrong.nd rfl (Or.inl rfl)) (gs_cons (g_name (i := 4) scfirst_wrong.nd rfl (Or.inl rfl)) gs_nil))) (b_cons (s_if (DW.dt (d_or (d_tcmp op_GE (dv 3) (d_gi T.c_MOST_PASSES) (nomark _)) (d_or (d_not (d_tval (d_call (ok_is_pass T) takesF (hr.mono (by decide)) T.is_pass.g T.is_pass.F.kp T.is_pass.b (d_acons (dv 4) (d_acons (dv 1) d_anil))))) (d_or1 (d_tcmpRt 2 (op_IN hu) (d_ix (dv 4) d_int (fun _ _ => rfl)) (by rfl)))))) (b_one (s_ret (dv 3))) b_nil)
      (b_one (s_app 2 (d_ix (dv 4) d_int (fun _ _ => rfl))))))
      (b_one (s_ret d_non))))⟩
theorem ok_first_wrong (T : Txt w.params K mg) : FnOk P w K mg base CX0 6 T.first_wrong.f T.first_wrong.fd ["passes", "length"] (spF K 2 (F_first_wrong T.C)) := okF T.first_wrong.F scfirst_wrong rfl rfl (bd_first_wrong T)
set_option maxHeartbeats 2000000 in
theorem bd_is_length (T : Txt w.params K mg) : BodyD P w K mg base "is_length" sis_length T.is_length.f ["value"] 2 (B_is_length T.C) := by
  intro cdv A outer s H E hr
  have hu := hu100 hr
  have hu64 := hu64_of hr
  have hu1 := hu1_of hr
  unfold B_is_length
  exact ⟨_, fun M0 P0 H0 => (b_one (s_ret (d_call (ok_is_between T) takesF (hr.mono (by decide)) T.is_between.g T.is_between.F.kp T.is_between.b (d_acons (dv 0) (d_acons d_int (d_acons (d_gi T.c_MOST_LENGTH) d_anil))))))⟩
theorem ok_is_length (T : Txt w.params K mg) : FnOk P w K mg base CX0 3 T.is_length.f T.is_length.fd ["value"] (spF K 1 (F_is_length T.C)) := okF T.is_length.F scis_length rfl rfl (bd_is_length T)
set_option maxHeartbeats 2000000 in
theorem bd_Track_init (T : Txt w.params K mg) : BodyD P w K mg base "Track.__init__" sTrack_init T.Track_init.f ["self", "length", "passes", "wrong"] 6 (B_Track_init T.C) := by
  intro cdv A outer s H E hr
  have hu := hu100 hr
  have hu64 := hu64_of hr
  have hu1 := hu1_of hr
  unfold B_Track_init
  exact ⟨_, fun M0 P0 H0 => (b_cons (s_if (d_not (d_tval (d_call (ok_is_length T) takesF (hr.mono (by decide)) T.is_length.g T.is_length.F.kp T.is_length.b (d_acons (dv 1) d_anil)))) (b_one (s_never)) b_nil)
      (b_cons (s_if (d_not (d_tval (d_blt call_ISIT T.z_isinstance (by decide +kernel) (d_acons (dv 2) (d_acons (d_ty T.z_tuple (by decide +kernel)) d_anil))))) (b_one (s_never)) b_nil)
      (b_cons (s_set (i := 3) scTrack_init.nd rfl (Or.inl rfl) (d_call (ok_first_wrong T) takesF (hr.mono (by decide)) T.first_wrong.g T.first_wrong.F.kp T.first_wrong.b (d_acons (dv 2) (d_acons (dv 1) d_anil))))
      (b_cons (s_if (d_tcmp op_ISNOT (dv 3) d_non (nomark _)) (b_one (s_never)) b_nil)
      (b_cons (s_fld 0 T.cl T.n_length (dv 1))
      (b_one (s_fld 0 T.cl T.n_passes (dv 2))))))))⟩
theorem ok_Track_init (T : Txt w.params K mg) : FnOk P w K mg base CX0 7 T.Track_init.f T.Track_init.fd ["self", "length", "passes"] (spO K 3 (F_Track_init T.C)) := okOD T.Track_init.F scTrack_init rfl rfl (bd_Track_init T)
set_option maxHeartbeats 2000000 in
theorem bd_check_track (T : Txt w.params K mg) : BodyD P w K mg base "check_track" scheck_track T.check_track.f ["value"] 0 (B_check_track T.C) := by
  intro cdv A outer s H E hr
  have hu := hu100 hr
  have hu64 := hu64_of hr
  have hu1 := hu1_of hr
  unfold B_check_track
  exact ⟨_, fun M0 P0 H0 => (b_one (s_if (d_not (d_tval (d_blt (call_ISICT T.isC) T.z_isinstance (by decide +kernel) (d_acons (dv 0) (d_acons (d_cls T.gC) d_anil))))) (b_one (s_never)) b_nil))⟩
theorem ok_check_track (T : Txt w.params K mg) : FnOk P w K mg base CX0 1 T.check_track.f T.check_track.fd ["value"] (spF K 1 (F_check_track T.C)) := okF T.check_track.F sccheck_track rfl rfl (bd_check_track T)
set_option maxHeartbeats 2000000 in
theorem bd_Track_length (T : Txt w.params K mg) : BodyD P w K mg base "Track.length" sTrack_length T.Track_length.f ["self"] 0 (B_Track_length T.C) := by
  intro cdv A outer s H E hr
  have hu := hu100 hr
  have hu64 := hu64_of hr
  have hu1 := hu1_of hr
  unfold B_Track_length
  exact ⟨_, fun M0 P0 H0 => (b_one (s_ret (d_fld (dv 0) T.cl T.n_length)))⟩
theorem ok_Track_length (T : Txt w.params K mg) : FnOk P w K mg base CX0 1 T.Track_length.f T.Track_length.fd ["self"] (spF K 1 (F_Track_length T.C)) := okF T.Track_length.F scTrack_length rfl rfl (bd_Track_length T)
set_option maxHeartbeats 2000000 in
theorem bd_check_tick (T : Txt w.params K mg) : BodyD P w K mg base "check_tick" scheck_tick T.check_tick.f ["track", "value"] 2 (B_check_tick T.C) := by
  intro cdv A outer s H E hr
  have hu := hu100 hr
  have hu64 := hu64_of hr
  have hu1 := hu1_of hr
  unfold B_check_tick
  exact ⟨_, fun M0 P0 H0 => (b_one (s_if (d_not (d_tval (d_call (ok_is_between T) takesF (hr.mono (by decide)) T.is_between.g T.is_between.F.kp T.is_between.b (d_acons (dv 1) (d_acons d_int (d_acons (d_op op_SUB (d_prop (dv 0) T.cl T.Track_length.P (ok_Track_length T) takesF (hr.mono (by decide)) T.Track_length.b) d_int) d_anil)))))) (b_one (s_never)) b_nil))⟩
theorem ok_check_tick (T : Txt w.params K mg) : FnOk P w K mg base CX0 3 T.check_tick.f T.check_tick.fd ["track", "value"] (spF K 2 (F_check_tick T.C)) := okF T.check_tick.F sccheck_tick rfl rfl (bd_check_tick T)
set_option maxHeartbeats 2000000 in
theorem bd_last_touch (T : Txt w.params K mg) : BodyD P w K mg base "last_touch" slast_touch T.last_touch.f ["touches", "tick", "found", "first", "end"] 0 (B_last_touch T.C) := by
  intro cdv A outer s H E hr
  have hu := hu100 hr
  have hu64 := hu64_of hr
  have hu1 := hu1_of hr
  unfold B_last_touch
  exact ⟨_, fun M0 P0 H0 => (b_cons (s_set (i := 2) sclast_touch.nd rfl (Or.inl rfl) d_non)
      (b_cons (s_for PassesOwn.never rfl (i_tup (dv 0)) (g_tup rfl (gs_cons (g_name (i := 3) sclast_touch.nd rfl (Or.inl rfl)) (gs_cons (g_name (i := 4) sclast_touch.nd rfl (Or.inl rfl)) gs_nil))) (b_one (s_if (d_tcmp op_LE (dv 3) (dv 1) (nomark _)) (b_one (s_set (i := 2) sclast_touch.nd rfl (Or.inl rfl) (d_blt (call_MIN rfl) T.z_min (by decide +kernel) (d_acons (dv 1) (d_acons (d_op op_SUB (dv 4) d_int) d_anil))))) b_nil)))
      (b_one (s_ret (dv 2)))))⟩
theorem ok_last_touch (T : Txt w.params K mg) : FnOk P w K mg base CX0 1 T.last_touch.f T.last_touch.fd ["touches", "tick"] (spF K 2 (F_last_touch T.C)) := okF T.last_touch.F sclast_touch rfl rfl (bd_last_touch T)
set_option maxHeartbeats 2000000 in
theorem bd_lowest (T : Txt w.params K mg) : BodyD P w K mg base "lowest" slowest T.lowest.f ["top", "bottom", "shared"] 0 (B_lowest T.C) := by
  intro cdv A outer s H E hr
  have hu := hu100 hr
  have hu64 := hu64_of hr
  have hu1 := hu1_of hr
  unfold B_lowest
  exact ⟨_, fun M0 P0 H0 => (b_cons (s_set (i := 2) sclowest.nd rfl (Or.inl rfl) (d_bfun call_GCD T.g_gcd (d_acons (dv 0) (d_acons (dv 1) d_anil))))
      (b_one (s_ret (d_tup (d_acons (d_op op_DIV (dv 0) (dv 2)) (d_acons (d_op op_DIV (dv 1) (dv 2)) d_anil))))))⟩
theorem ok_lowest (T : Txt w.params K mg) : FnOk P w K mg base CX0 1 T.lowest.f T.lowest.fd ["top", "bottom"] (spF K 2 (F_lowest T.C)) := okF T.lowest.F sclowest rfl rfl (bd_lowest T)
set_option maxHeartbeats 2000000 in
theorem bd_end_of (T : Txt w.params K mg) : BodyD P w K mg base "end_of" send_of T.end_of.f ["one_pass", "length", "_", "last", "tail"] 0 (B_end_of T.C) := by
  intro cdv A outer s H E hr
  have hu := hu100 hr
  have hu64 := hu64_of hr
  have hu1 := hu1_of hr
  unfold B_end_of
  exact ⟨_, fun M0 P0 H0 => (b_cons (s_asg (dv 0) (g_tup rfl (gs_cons (g_name (i := 2) scend_of.nd rfl (Or.inl rfl)) (gs_cons (g_name (i := 2) scend_of.nd rfl (Or.inl rfl)) (gs_cons (g_name (i := 2) scend_of.nd rfl (Or.inl rfl)) (gs_cons (g_name (i := 3) scend_of.nd rfl (Or.inl rfl)) (gs_cons (g_name (i := 2) scend_of.nd rfl (Or.inl rfl)) (gs_cons (g_name (i := 2) scend_of.nd rfl (Or.inl rfl)) (gs_cons (g_name (i := 4) scend_of.nd rfl (Or.inl rfl)) gs_nil)))))))))
      (b_one (s_ret (d_if (d_tcmp (op_EQ hu64) (dv 4) d_str (nomark _)) (dv 1) (dv 3)))))⟩
theorem ok_end_of (T : Txt w.params K mg) : FnOk P w K mg base CX0 1 T.end_of.f T.end_of.fd ["one_pass", "length"] (spF K 2 (F_end_of T.C)) := okF T.end_of.F scend_of rfl rfl (bd_end_of T)
set_option maxHeartbeats 2000000 in
theorem bd_written (T : Txt w.params K mg) : BodyD P w K mg base "written" swritten T.written.f ["one_pass", "length", "tick", "_", "mode", "first", "touches", "glide", "hand", "gone", "rest"] 1 (B_written T.C) := by
  intro cdv A outer s H E hr
  have hu := hu100 hr
  have hu64 := hu64_of hr
  have hu1 := hu1_of hr
  unfold B_written
  exact ⟨_, fun M0 P0 H0 => (b_cons (s_asg (dv 0) (g_tup rfl (gs_cons (g_name (i := 3) scwritten.nd rfl (Or.inl rfl)) (gs_cons (g_name (i := 4) scwritten.nd rfl (Or.inl rfl)) (gs_cons (g_name (i := 5) scwritten.nd rfl (Or.inl rfl)) (gs_cons (g_name (i := 3) scwritten.nd rfl (Or.inl rfl)) (gs_cons (g_name (i := 6) scwritten.nd rfl (Or.inl rfl)) (gs_cons (g_name (i := 7) scwritten.nd rfl (Or.inl rfl)) (gs_cons (g_name (i := 3) scwritten.nd rfl (Or.inl rfl)) gs_nil)))))))))
      (b_cons (s_if (d_not (d_tchain op_LE op_LT (dv 5) (dv 2) (d_call (ok_end_of T) takesF (hr.mono (by decide)) T.end_of.g T.end_of.F.kp T.end_of.b (d_acons (dv 0) (d_acons (dv 1) d_anil))))) (b_one (s_ret d_non)) b_nil)
      (b_cons (s_set (i := 8) scwritten.nd rfl (Or.inl rfl) (d_call (ok_last_touch T) takesF (hr.mono (by decide)) T.last_touch.g T.last_touch.F.kp T.last_touch.b (d_acons (dv 6) (d_acons (dv 2) d_anil))))
      (b_cons (s_if (d_tcmp op_IS (dv 8) d_non (nomark _)) (b_one (s_ret (d_if (d_tcmp (op_EQ hu64) (dv 4) d_str (nomark _)) (d_tup (d_acons d_non (d_acons (d_gtu T.c_NOTHING.g T.c_NOTHING.q (fun _ _ => (.cons (.int _) (.cons (.int _) .nil)))) (d_acons (dv 5) (d_acons (d_gtu T.c_WHOLE.g T.c_WHOLE.q (fun _ _ => (.cons (.int _) (.cons (.int _) .nil)))) d_anil))))) d_non))) b_nil)
      (b_cons (s_if (DW.dt (d_or (d_tcmp (op_EQ hu64) (dv 4) d_str (nomark _)) (d_or1 (d_tcmp (op_EQ hu64) (dv 4) d_str (nomark _))))) (b_one (s_ret (d_tup (d_acons (dv 8) (d_acons (d_gtu T.c_WHOLE.g T.c_WHOLE.q (fun _ _ => (.cons (.int _) (.cons (.int _) .nil)))) (d_acons (dv 2) (d_acons (d_gtu T.c_NOTHING.g T.c_NOTHING.q (fun _ _ => (.cons (.int _) (.cons (.int _) .nil)))) d_anil))))))) b_nil)
      (b_cons (s_set (i := 9) scwritten.nd rfl (Or.inl rfl) (d_op op_SUB (dv 2) (dv 8)))
      (b_cons (s_if (d_tcmp op_GT (dv 9) (dv 7) (nomark _)) (b_one (s_ret d_non)) b_nil)
      (b_cons (s_set (i := 10) scwritten.nd rfl (Or.inl rfl) (d_if (d_tcmp (op_EQ hu64) (dv 4) d_str (nomark _)) (d_gtu T.c_WHOLE.g T.c_WHOLE.q (fun _ _ => (.cons (.int _) (.cons (.int _) .nil)))) (d_call (ok_lowest T) takesF (hr.mono (by decide)) T.lowest.g T.lowest.F.kp T.lowest.b (d_acons (dv 9) (d_acons (d_op op_ADD (dv 7) d_int) d_anil)))))
      (b_one (s_ret (d_tup (d_acons (dv 8) (d_acons (d_call (ok_lowest T) takesF (hr.mono (by decide)) T.lowest.g T.lowest.F.kp T.lowest.b (d_acons (d_op op_SUB (d_op op_ADD (dv 7) d_int) (dv 9)) (d_acons (d_op op_ADD (dv 7) d_int) d_anil))) (d_acons (dv 2) (d_acons (dv 10) d_anil)))))))))))))))⟩
theorem ok_written (T : Txt w.params K mg) : FnOk P w K mg base CX0 2 T.written.f T.written.fd ["one_pass", "length", "tick"] (spF K 3 (F_written T.C)) := okF T.written.F scwritten rfl rfl (bd_written T)
set_option maxHeartbeats 2000000 in
theorem bd_times (T : Txt w.params K mg) : BodyD P w K mg base "times" stimes T.times.f ["one", "other"] 1 (B_times T.C) := by
  intro cdv A outer s H E hr
  have hu := hu100 hr
  have hu64 := hu64_of hr
  have hu1 := hu1_of hr
  unfold B_times
  exact ⟨_, fun M0 P0 H0 => (b_one (s_ret (d_call (ok_lowest T) takesF (hr.mono (by decide)) T.lowest.g T.lowest.F.kp T.lowest.b (d_acons (d_op op_MUL (d_ix (dv 0) d_int (fun _ _ => rfl)) (d_ix (dv 1) d_int (fun _ _ => rfl))) (d_acons (d_op op_MUL (d_ix (dv 0) d_int (fun _ _ => rfl)) (d_ix (dv 1) d_int (fun _ _ => rfl))) d_anil)))))⟩
theorem ok_times (T : Txt w.params K mg) : FnOk P w K mg base CX0 2 T.times.f T.times.fd ["one", "other"] (spF K 2 (F_times T.C)) := okF T.times.F sctimes rfl rfl (bd_times T)
set_option maxHeartbeats 2000000 in
theorem bd_taken_by (T : Txt w.params K mg) : BodyD P w K mg base "taken_by" staken_by T.taken_by.f ["one_pass", "length", "left", "tick", "weight", "told", "hand", "share", "place", "rest", "taken"] 2 (B_taken_by T.C) := by
  intro cdv A outer s H E hr
  have hu := hu100 hr
  have hu64 := hu64_of hr
  have hu1 := hu1_of hr
  unfold B_taken_by
  exact ⟨_, fun M0 P0 H0 => (b_cons (s_asg (dv 2) (g_tup rfl (gs_cons (g_name (i := 3) sctaken_by.nd rfl (Or.inl rfl)) (gs_cons (g_name (i := 4) sctaken_by.nd rfl (Or.inl rfl)) gs_nil))))
      (b_cons (s_set (i := 5) sctaken_by.nd rfl (Or.inl rfl) (d_call (ok_written T) takesF (hr.mono (by decide)) T.written.g T.written.F.kp T.written.b (d_acons (dv 0) (d_acons (dv 1) (d_acons (dv 3) d_anil)))))
      (b_cons (s_if (d_tcmp op_IS (dv 5) d_non (nomark _)) (b_one (s_ret (d_tup (d_acons d_non (d_acons (dv 2) d_anil))))) b_nil)
      (b_cons (s_asg (dv 5) (g_tup rfl (gs_cons (g_name (i := 6) sctaken_by.nd rfl (Or.inl rfl)) (gs_cons (g_name (i := 7) sctaken_by.nd rfl (Or.inl rfl)) (gs_cons (g_name (i := 8) sctaken_by.nd rfl (Or.inl rfl)) (gs_cons (g_name (i := 9) sctaken_by.nd rfl (Or.inl rfl)) gs_nil))))))
      (b_cons (s_set (i := 10) sctaken_by.nd rfl (Or.inl rfl) (d_if (d_tcmp op_IS (dv 6) d_non (nomark _)) d_non (d_tup (d_acons (dv 6) (d_acons (d_call (ok_times T) takesF (hr.mono (by decide)) T.times.g T.times.F.kp T.times.b (d_acons (dv 4) (d_acons (dv 7) d_anil))) d_anil)))))
      (b_one (s_ret (d_tup (d_acons (dv 10) (d_acons (d_if (d_tcmp (op_EQ hu64) (dv 9) (d_gtu T.c_NOTHING.g T.c_NOTHING.q (fun _ _ => (.cons (.int _) (.cons (.int _) .nil)))) (nomark _)) d_non (d_tup (d_acons (dv 8) (d_acons (d_call (ok_times T) takesF (hr.mono (by decide)) T.times.g T.times.F.kp T.times.b (d_acons (dv 4) (d_acons (dv 9) d_anil))) d_anil)))) d_anil))))))))))⟩
theorem ok_taken_by (T : Txt w.params K mg) : FnOk P w K mg base CX0 3 T.taken_by.f T.taken_by.fd ["one_pass", "length", "left"] (spF K 3 (F_taken_by T.C)) := okF T.taken_by.F sctaken_by rfl rfl (bd_taken_by T)
set_option maxHeartbeats 2000000 in
theorem bd_form_of (T : Txt w.params K mg) : BodyD P w K mg base "form_of" sform_of T.form_of.f ["passes", "length", "tick", "terms", "left", "one", "taken"] 3 (B_form_of T.C) := by
  intro cdv A outer s H E hr
  have hu := hu100 hr
  have hu64 := hu64_of hr
  have hu1 := hu1_of hr
  unfold B_form_of
  exact ⟨_, fun M0 P0 H0 => (b_cons (s_setN (i := 3) scform_of.nd rfl (Or.inl rfl) (d_lst d_anil))
      (b_cons (s_set (i := 4) scform_of.nd rfl (Or.inl rfl) (d_tup (d_acons (dv 2) (d_acons (d_gtu T.c_WHOLE.g T.c_WHOLE.q (fun _ _ => (.cons (.int _) (.cons (.int _) .nil)))) d_anil))))
      (b_cons (s_for PassesOwn.never rfl (i_tup (d_revT (k := 0) (dv 0))) (g_name (i := 5) scform_of.nd rfl (Or.inl rfl)) (b_cons (s_asg (d_call (ok_taken_by T) takesF (hr.mono (by decide)) T.taken_by.g T.taken_by.F.kp T.taken_by.b (d_acons (dv 5) (d_acons (dv 1) (d_acons (dv 4) d_anil)))) (g_tup rfl (gs_cons (g_name (i := 6) scform_of.nd rfl (Or.inl rfl)) (gs_cons (g_name (i := 4) scform_of.nd rfl (Or.inl rfl)) gs_nil))))
      (b_cons (s_if (d_tcmp op_ISNOT (dv 6) d_non (nomark _)) (b_one (s_app 3 (d_tup (d_acons (d_ix (dv 5) d_int (fun _ _ => rfl)) (d_astar (dv 6) d_anil))))) b_nil)
      (b_one (s_if (d_tcmp op_IS (dv 4) d_non (nomark _)) (b_one (s_ret (d_cty call_TUPLE T.z_tuple (by decide +kernel) (d_acons (DN.e (d_bltN (call_SORTED hu) T.z_sorted (by decide +kernel) (d_acons (dv 3) d_anil))) d_anil)))) b_nil)))))
      (b_cons (s_app 3 (d_tup (d_acons (d_gs T.c_OLD) (d_astar (dv 4) d_anil))))
      (b_one (s_ret (d_cty call_TUPLE T.z_tuple (by decide +kernel) (d_acons (DN.e (d_bltN (call_SORTED hu) T.z_sorted (by decide +kernel) (d_acons (dv 3) d_anil))) d_anil))))))))⟩
theorem ok_form_of (T : Txt w.params K mg) : FnOk P w K mg base CX0 4 T.form_of.f T.form_of.fd ["passes", "length", "tick"] (spF K 3 (F_form_of T.C)) := okF T.form_of.F scform_of rfl rfl (bd_form_of T)
set_option maxHeartbeats 2000000 in
theorem bd_Track_passes (T : Txt w.params K mg) : BodyD P w K mg base "Track.passes" sTrack_passes T.Track_passes.f ["self"] 0 (B_Track_passes T.C) := by
  intro cdv A outer s H E hr
  have hu := hu100 hr
  have hu64 := hu64_of hr
  have hu1 := hu1_of hr
  unfold B_Track_passes
  exact ⟨_, fun M0 P0 H0 => (b_one (s_ret (d_fld (dv 0) T.cl T.n_passes)))⟩
theorem ok_Track_passes (T : Txt w.params K mg) : FnOk P w K mg base CX0 1 T.Track_passes.f T.Track_passes.fd ["self"] (spF K 1 (F_Track_passes T.C)) := okF T.Track_passes.F scTrack_passes rfl rfl (bd_Track_passes T)
set_option maxHeartbeats 2000000 in
theorem bd_form (T : Txt w.params K mg) : BodyD P w K mg base "form" sform T.form.f ["track", "tick"] 4 (B_form T.C) := by
  intro cdv A outer s H E hr
  have hu := hu100 hr
  have hu64 := hu64_of hr
  have hu1 := hu1_of hr
  unfold B_form
  exact ⟨_, fun M0 P0 H0 => (b_cons (s_expr (d_call (ok_check_track T) takesF (hr.mono (by decide)) T.check_track.g T.check_track.F.kp T.check_track.b (d_acons (dv 0) d_anil)))
      (b_cons (s_expr (d_call (ok_check_tick T) takesF (hr.mono (by decide)) T.check_tick.g T.check_tick.F.kp T.check_tick.b (d_acons (dv 0) (d_acons (dv 1) d_anil))))
      (b_one (s_ret (d_call (ok_form_of T) takesF (hr.mono (by decide)) T.form_of.g T.form_of.F.kp T.form_of.b (d_acons (d_prop (dv 0) T.cl T.Track_passes.P (ok_Track_passes T) takesF (hr.mono (by decide)) T.Track_passes.b) (d_acons (d_prop (dv 0) T.cl T.Track_length.P (ok_Track_length T) takesF (hr.mono (by decide)) T.Track_length.b) (d_acons (dv 1) d_anil))))))))⟩
theorem ok_form (T : Txt w.params K mg) : FnOk P w K mg base CX0 5 T.form.f T.form.fd ["track", "tick"] (spF K 2 (F_form T.C)) := okF T.form.F scform rfl rfl (bd_form T)
set_option maxHeartbeats 2000000 in
theorem bd_is_known (T : Txt w.params K mg) : BodyD P w K mg base "is_known" sis_known T.is_known.f ["value", "source", "tick", "number"] 1 (B_is_known T.C) := by
  intro cdv A outer s H E hr
  have hu := hu100 hr
  have hu64 := hu64_of hr
  have hu1 := hu1_of hr
  unfold B_is_known
  exact ⟨_, fun M0 P0 H0 => (b_cons (s_if (DW.dt (d_or (d_not (d_tval (d_blt call_ISIT T.z_isinstance (by decide +kernel) (d_acons (dv 0) (d_acons (d_ty T.z_tuple (by decide +kernel)) d_anil))))) (d_or1 (d_tcmp (op_NE hu64) (d_blt call_LEN T.z_len (by decide +kernel) (d_acons (dv 0) d_anil)) d_int (nomark _))))) (b_one (s_ret d_bl)) b_nil)
      (b_cons (s_asg (dv 0) (g_tup rfl (gs_cons (g_name (i := 1) scis_known.nd rfl (Or.inl rfl)) (gs_cons (g_name (i := 2) scis_known.nd rfl (Or.inl rfl)) (gs_cons (g_name (i := 3) scis_known.nd rfl (Or.inl rfl)) gs_nil)))))
      (b_one (s_ret (d_andV (d_blt call_ISIT T.z_isinstance (by decide +kernel) (d_acons (dv 1) (d_acons (d_ty T.z_str (by decide +kernel)) d_anil))) (d_andV (d_call (ok_is_integer T) takesF (hr.mono (by decide)) T.is_integer.g T.is_integer.F.kp T.is_integer.b (d_acons (dv 2) d_anil)) (d_andV (d_cmp op_GE (dv 2) d_int (nomark _)) (d_one (d_call (ok_is_integer T) takesF (hr.mono (by decide)) T.is_integer.g T.is_integer.F.kp T.is_integer.b (d_acons (dv 3) d_anil))))))))))⟩
theorem ok_is_known (T : Txt w.params K mg) : FnOk P w K mg base CX0 2 T.is_known.f T.is_known.fd ["value"] (spF K 1 (F_is_known T.C)) := okF T.is_known.F scis_known rfl rfl (bd_is_known T)
set_option maxHeartbeats 2000000 in
theorem bd_numbers_in (T : Txt w.params K mg) : BodyD P w K mg base "numbers_in" snumbers_in T.numbers_in.f ["known", "numbers", "at", "triple"] 2 (B_numbers_in T.C) := by
  intro cdv A outer s H E hr
  have hu := hu100 hr
  have hu64 := hu64_of hr
  have hu1 := hu1_of hr
  unfold B_numbers_in
  exact ⟨_, fun M0 P0 H0 => (b_cons (s_if (d_not (d_tval (d_blt call_ISIT T.z_isinstance (by decide +kernel) (d_acons (dv 0) (d_acons (d_ty T.z_tuple (by decide +kernel)) d_anil))))) (b_one (s_never)) b_nil)
      (b_cons (s_setN (i := 1) scnumbers_in.nd rfl (Or.inl rfl) d_dnewT)
      (b_cons (s_for PassesOwn.never rfl (i_enumT T.z_enumerate (d_acons (dv 0) d_anil)) (g_tup rfl (gs_cons (g_name (i := 2) scnumbers_in.nd rfl (Or.inl rfl)) (gs_cons (g_name (i := 3) scnumbers_in.nd rfl (Or.inl rfl)) gs_nil))) (b_cons (s_if (DW.dt (d_or (d_not (d_tval (d_call (ok_is_known T) takesF (hr.mono (by decide)) T.is_known.g T.is_known.F.kp T.is_known.b (d_acons (dv 3) d_anil)))) (d_or1 (d_tdinT hu1 1 (k_sl (dv 3) d_no (d_part d_int)))))) (b_one (s_never)) b_nil)
      (b_one (s_dputT hu1 1 (k_sl (dv 3) d_no (d_part d_int)) (d_ix (dv 3) d_int (fun _ _ => rfl))))))
      (b_one (s_ret (dv 1))))))⟩
theorem ok_numbers_in (T : Txt w.params K mg) : FnOk P w K mg base CX0 3 T.numbers_in.f T.numbers_in.fd ["known"] (spF K 1 (F_numbers_in T.C)) := okF T.numbers_in.F scnumbers_in rfl rfl (bd_numbers_in T)
set_option maxHeartbeats 2000000 in
theorem bd_plus (T : Txt w.params K mg) : BodyD P w K mg base "plus" splus T.plus.f ["one", "other"] 1 (B_plus T.C) := by
  intro cdv A outer s H E hr
  have hu := hu100 hr
  have hu64 := hu64_of hr
  have hu1 := hu1_of hr
  unfold B_plus
  exact ⟨_, fun M0 P0 H0 => (b_one (s_ret (d_call (ok_lowest T) takesF (hr.mono (by decide)) T.lowest.g T.lowest.F.kp T.lowest.b (d_acons (d_op op_ADD (d_op op_MUL (d_ix (dv 0) d_int (fun _ _ => rfl)) (d_ix (dv 1) d_int (fun _ _ => rfl))) (d_op op_MUL (d_ix (dv 1) d_int (fun _ _ => rfl)) (d_ix (dv 0) d_int (fun _ _ => rfl)))) (d_acons (d_op op_MUL (d_ix (dv 0) d_int (fun _ _ => rfl)) (d_ix (dv 1) d_int (fun _ _ => rfl))) d_anil)))))⟩
theorem ok_plus (T : Txt w.params K mg) : FnOk P w K mg base CX0 2 T.plus.f T.plus.fd ["one", "other"] (spF K 2 (F_plus T.C)) := okF T.plus.F scplus rfl rfl (bd_plus T)
set_option maxHeartbeats 2000000 in
theorem bd_number_at (T : Txt w.params K mg) : BodyD P w K mg base "number_at" snumber_at T.number_at.f ["track", "tick", "known", "terms", "numbers", "total", "source", "place", "weight"] 5 (B_number_at T.C) := by
  intro cdv A outer s H E hr
  have hu := hu100 hr
  have hu64 := hu64_of hr
  have hu1 := hu1_of hr
  unfold B_number_at
  exact ⟨_, fun M0 P0 H0 => (b_cons (s_set (i := 3) scnumber_at.nd rfl (Or.inl rfl) (d_call (ok_form T) takesF (hr.mono (by decide)) T.form.g T.form.F.kp T.form.b (d_acons (dv 0) (d_acons (dv 1) d_anil))))
      (b_cons (s_set (i := 4) scnumber_at.nd rfl (Or.inl rfl) (d_call (ok_numbers_in T) takesF (hr.mono (by decide)) T.numbers_in.g T.numbers_in.F.kp T.numbers_in.b (d_acons (dv 2) d_anil)))
      (b_cons (s_set (i := 5) scnumber_at.nd rfl (Or.inl rfl) (d_gtu T.c_NOTHING.g T.c_NOTHING.q (fun _ _ => (.cons (.int _) (.cons (.int _) .nil)))))
      (b_cons (s_for PassesOwn.never rfl (i_tup (dv 3)) (g_tup rfl (gs_cons (g_name (i := 6) scnumber_at.nd rfl (Or.inl rfl)) (gs_cons (g_name (i := 7) scnumber_at.nd rfl (Or.inl rfl)) (gs_cons (g_name (i := 8) scnumber_at.nd rfl (Or.inl rfl)) gs_nil)))) (b_cons (s_if (d_tdninT hu1 4 (k_tup (d_acons (dv 6) (d_acons (dv 7) d_anil)))) (b_one (s_never)) b_nil)
      (b_one (s_set (i := 5) scnumber_at.nd rfl (Or.inl rfl) (d_call (ok_plus T) takesF (hr.mono (by decide)) T.plus.g T.plus.F.kp T.plus.b (d_acons (dv 5) (d_acons (d_call (ok_times T) takesF (hr.mono (by decide)) T.times.g T.times.F.kp T.times.b (d_acons (dv 8) (d_acons (d_tup (d_acons (d_dgetT hu1 4 (k_tup (d_acons (dv 6) (d_acons (dv 7) d_anil)))) (d_acons d_int d_anil))) d_anil))) d_anil)))))))
      (b_one (s_ret (dv 5)))))))⟩
theorem ok_number_at (T : Txt w.params K mg) : FnOk P w K mg base CX0 6 T.number_at.f T.number_at.fd ["track", "tick", "known"] (spF K 3 (F_number_at T.C)) := okF T.number_at.F scnumber_at rfl rfl (bd_number_at T)
set_option maxHeartbeats 2000000 in
theorem bd_law_draw (T : Txt w.params K mg) : BodyD P w K mg base "_law_draw" slaw_draw T.law_draw.f ["purse", "size", "seed", "by", "digit"] 0 (B_law_draw T.C) := by
  intro cdv A outer s H E hr
  have hu := hu100 hr
  have hu64 := hu64_of hr
  have hu1 := hu1_of hr
  unfold B_law_draw
  exact ⟨_, fun M0 P0 H0 => (b_cons (s_par (i := 2) (j := 3) rfl sclaw_draw.nd rfl rfl (by decide) rfl rfl (f_dat (d_ixV 0 d_int (fun _ _ => rfl)) (f_dat (d_op op_ADD (d_op op_MOD (d_cty call_INT T.z_int (by decide +kernel) (d_acons (d_ixV 0 d_int (fun _ _ => rfl)) d_anil)) d_int) d_int) f_nil)) (by rfl))
      (b_cons (s_asg (d_op op_ADD (d_ixV 0 d_int (fun _ _ => rfl)) d_int) (g_put 0 d_int))
      (b_cons (s_asg (d_op op_MOD (d_cty call_INT T.z_int (by decide +kernel) (d_acons (d_op op_ADD (d_op op_ADD (d_op op_MUL (dv 2) (dv 3)) (d_op op_MUL d_int (d_ixV 0 d_int (fun _ _ => rfl)))) d_int) d_anil)) d_int) (g_put 0 d_int))
      (b_cons (s_if (d_tcmp op_GT (d_ixV 0 d_int (fun _ _ => rfl)) d_int (nomark _)) (b_cons (s_asg (d_blt call_DIVMOD T.z_divmod (by decide +kernel) (d_acons (d_ixV 0 d_int (fun _ _ => rfl)) (d_acons (dv 1) d_anil))) (g_tup rfl (gs_cons (g_put 0 d_int) (gs_cons (g_name (i := 4) sclaw_draw.nd rfl (Or.inl rfl)) gs_nil))))
      (b_one (s_ret (dv 4)))) b_nil)
      (b_one (s_ret (d_op op_MOD (d_cty call_INT T.z_int (by decide +kernel) (d_acons (d_op op_DIV (d_ixV 0 d_int (fun _ _ => rfl)) d_int) d_anil)) (dv 1))))))))⟩
theorem ok_law_draw (T : Txt w.params K mg) : FnOk P w K mg base CX0 1 T.law_draw.f T.law_draw.fd ["purse", "size"] (spO K 2 (F_law_draw T.C)) := okO T.law_draw.F sclaw_draw rfl rfl (bd_law_draw T)
set_option maxHeartbeats 2000000 in
theorem bd_law_pick (T : Txt w.params K mg) : BodyD P w K mg base "_law_pick" slaw_pick T.law_pick.f ["purse", "menu"] 1 (B_law_pick T.C) := by
  intro cdv A outer s H E hr
  have hu := hu100 hr
  have hu64 := hu64_of hr
  have hu1 := hu1_of hr
  unfold B_law_pick
  exact ⟨_, fun M0 P0 H0 => (b_one (s_ret (d_ix (dv 1) (d_callO 0 (ok_law_draw T) takesO (hr.mono (by decide)) T.law_draw.g T.law_draw.F.kp T.law_draw.b (d_acons (d_blt call_LEN T.z_len (by decide +kernel) (d_acons (dv 1) d_anil)) d_anil)) (fun _ _ => rfl))))⟩
theorem ok_law_pick (T : Txt w.params K mg) : FnOk P w K mg base CX0 2 T.law_pick.f T.law_pick.fd ["purse", "menu"] (spO K 2 (F_law_pick T.C)) := okO T.law_pick.F sclaw_pick rfl rfl (bd_law_pick T)
set_option maxHeartbeats 2000000 in
theorem bd_law_low (T : Txt w.params K mg) : BodyD P w K mg base "_law_low" slaw_low T.law_low.f ["top", "bottom", "high", "less"] 0 (B_law_low T.C) := by
  intro cdv A outer s H E hr
  have hu := hu100 hr
  have hu64 := hu64_of hr
  have hu1 := hu1_of hr
  unfold B_law_low
  exact ⟨_, fun M0 P0 H0 => (b_cons (s_par (i := 2) (j := 3) rfl sclaw_low.nd rfl rfl (by decide) rfl rfl (f_dat (d_blt call_ABS T.z_abs (by decide +kernel) (d_acons (dv 0) d_anil)) (f_dat (dv 1) f_nil)) (by rfl))
      (b_cons (s_while (fuelI 3) PassesOwn.never (d_tcmp op_GT (dv 3) d_int (nomark _)) (b_one (s_par (i := 2) (j := 3) rfl sclaw_low.nd rfl rfl (by decide) rfl rfl (f_dat (dv 3) (f_dat (d_op op_MOD (d_cty call_INT T.z_int (by decide +kernel) (d_acons (dv 2) d_anil)) (dv 3)) f_nil)) (by rfl))))
      (b_one (s_ret (d_tup (d_acons (d_op op_DIV (dv 0) (dv 2)) (d_acons (d_op op_DIV (dv 1) (dv 2)) d_anil)))))))⟩
theorem ok_law_low (T : Txt w.params K mg) : FnOk P w K mg base CX0 1 T.law_low.f T.law_low.fd ["top", "bottom"] (spF K 2 (F_law_low T.C)) := okF T.law_low.F sclaw_low rfl rfl (bd_law_low T)
set_option maxHeartbeats 2000000 in
theorem bd_law_move (T : Txt w.params K mg) : BodyD P w K mg base "_law_move" slaw_move T.law_move.f ["ahead", "k", "spot", "hand", "fader", "mode", "slide", "top", "bottom", "share"] 1 (B_law_move T.C) := by
  intro cdv A outer s H E hr
  have hu := hu100 hr
  have hu64 := hu64_of hr
  have hu1 := hu1_of hr
  unfold B_law_move
  exact ⟨_, fun M0 P0 H0 => (b_cons (s_par (i := 5) (j := 6) rfl sclaw_move.nd rfl rfl (by decide) rfl rfl (f_dat (d_ix (dv 4) d_int (fun _ _ => rfl)) (f_dat (d_op op_ADD (d_ix (dv 4) d_int (fun _ _ => rfl)) d_int) f_nil)) (by rfl))
      (b_cons (s_asg (dv 0) (g_tup rfl (gs_cons (g_name (i := 7) sclaw_move.nd rfl (Or.inl rfl)) (gs_cons (g_name (i := 8) sclaw_move.nd rfl (Or.inl rfl)) gs_nil))))
      (b_cons (s_if (d_tcmp (op_IN hu) (dv 5) (DN.e (d_lst (d_acons d_str (d_acons d_str d_anil)))) (by rfl)) (b_one (s_ret (d_tup (d_acons (dv 3) (d_acons d_int d_anil))))) b_nil)
      (b_cons (s_if (d_tcmp op_GE (d_op op_SUB (dv 1) (dv 2)) (dv 6) (nomark _)) (b_one (s_ret (dv 0))) b_nil)
      (b_cons (s_set (i := 9) sclaw_move.nd rfl (Or.inl rfl) (d_op op_MUL (d_op op_MUL (dv 3) (d_op op_ADD (d_op op_SUB (dv 6) (dv 1)) (dv 2))) (dv 8)))
      (b_cons (s_if (d_tcmp (op_EQ hu64) (dv 5) d_str (nomark _)) (b_one (s_ret (d_call (ok_law_low T) takesF (hr.mono (by decide)) T.law_low.g T.law_low.F.kp T.law_low.b (d_acons (d_op op_ADD (dv 9) (d_op op_MUL (dv 7) (dv 6))) (d_acons (d_op op_MUL (dv 6) (dv 8)) d_anil))))) b_nil)
      (b_one (s_ret (d_call (ok_law_low T) takesF (hr.mono (by decide)) T.law_low.g T.law_low.F.kp T.law_low.b (d_acons (d_op op_ADD (dv 9) (d_op op_MUL (dv 7) (d_op op_SUB (dv 1) (dv 2)))) (d_acons (d_op op_MUL (dv 6) (dv 8)) d_anil)))))))))))⟩
theorem ok_law_move (T : Txt w.params K mg) : FnOk P w K mg base CX0 2 T.law_move.f T.law_move.fd ["ahead", "k", "spot", "hand", "fader"] (spF K 5 (F_law_move T.C)) := okF T.law_move.F sclaw_move rfl rfl (bd_law_move T)
set_option maxHeartbeats 2000000 in
theorem bd_law_played (T : Txt w.params K mg) : BodyD P w K mg base "_law_played" slaw_played T.law_played.f ["olds", "hands", "some", "ahead", "each", "fader", "word", "mode", "first", "last", "marks", "slide", "tail", "later", "spot", "k", "a", "b"] 2 (B_law_played T.C) := by
  intro cdv A outer s H E hr
  have hu := hu100 hr
  have hu64 := hu64_of hr
  have hu1 := hu1_of hr
  unfold B_law_played
  exact ⟨_, fun M0 P0 H0 => (b_cons (s_setLcD (i := 3) (own := [("each", 4)]) rfl sclaw_played.nd rfl rfl (by rfl) (i_list (dv 0)) (blkOk_by (N := ["olds", "hands", "some", "ahead", "each", "fader", "word", "mode", "first", "last", "marks", "slide", "tail", "later", "spot", "k", "a", "b"]) (sc := defScope slaw_played) (by decide +kernel)) (own_nam (by decide)).1 ⟨fun _ _ _ _ _ => (g_name (i := 4) sclaw_played.nd rfl (Or.inl rfl)), fun _ _ _ _ _ => t_nil, fun _ _ _ _ _ => (d_tup (d_acons (dv 4) (d_acons d_int d_anil)))⟩)
      (b_cons (s_for PassesOwn.never rfl (i_tup (dv 2)) (g_name (i := 5) sclaw_played.nd rfl (Or.inl rfl)) (b_cons (s_asg (dv 5) (g_tup rfl (gs_cons (g_name (i := 6) sclaw_played.nd rfl (Or.inl rfl)) (gs_cons (g_name (i := 7) sclaw_played.nd rfl (Or.inl rfl)) (gs_cons (g_name (i := 8) sclaw_played.nd rfl (Or.inl rfl)) (gs_cons (g_name (i := 9) sclaw_played.nd rfl (Or.inl rfl)) (gs_cons (g_name (i := 10) sclaw_played.nd rfl (Or.inl rfl)) (gs_cons (g_name (i := 11) sclaw_played.nd rfl (Or.inl rfl)) (gs_cons (g_name (i := 12) sclaw_played.nd rfl (Or.inl rfl)) gs_nil)))))))))
      (b_cons (s_par (i := 13) (j := 14) rfl sclaw_played.nd rfl rfl (by decide) rfl rfl (f_new (d_ctyN call_LIST T.z_list (by decide +kernel) (d_acons (dv 3) d_anil)) (f_dat d_non f_nil)) (by rfl))
      (b_cons (s_for PassesOwn.never rfl (i_rng2 T.z_range (d_acons (dv 8) (d_acons (d_if (d_tcmp (op_EQ hu64) (dv 12) d_str (nomark _)) (dv 9) (d_blt call_LEN T.z_len (by decide +kernel) (d_acons (dv 0) d_anil))) d_anil))) (g_name (i := 15) sclaw_played.nd rfl (Or.inr rfl)) (b_cons (s_if (d_tcmp (op_NE hu64) (DN.e (d_lc (own := [("a", 16), ("b", 17)]) rfl sclaw_played.nd (i_tup (dv 10)) (blkOk_by (N := ["olds", "hands", "some", "ahead", "each", "fader", "word", "mode", "first", "last", "marks", "slide", "tail", "later", "spot", "k", "a", "b"]) (sc := defScope slaw_played) (by decide +kernel)) (own_tu (own_con (own_nam (by decide)) (own_con (own_nam (by decide)) own_ni))).1 ⟨fun _ _ _ _ _ => (g_tup rfl (gs_cons (g_name (i := 16) sclaw_played.nd rfl (Or.inl rfl)) (gs_cons (g_name (i := 17) sclaw_played.nd rfl (Or.inl rfl)) gs_nil))), fun _ _ _ _ _ => (t_one (d_tchain op_LE op_LT (dv 16) (dv 15) (dv 17))), fun _ _ _ _ _ => (dv 16)⟩)) (DN.e (d_lst d_anil)) (nomark _)) (b_one (s_set (i := 14) sclaw_played.nd rfl (Or.inl rfl) (dv 15))) b_nil)
      (b_one (s_if (d_tcmp op_ISNOT (dv 14) d_non (nomark _)) (b_one (s_asg (d_call (ok_law_move T) takesF (hr.mono (by decide)) T.law_move.g T.law_move.F.kp T.law_move.b (d_acons (d_ix (dv 3) (dv 15) (fun _ _ => rfl)) (d_acons (dv 15) (d_acons (dv 14) (d_acons (d_dgetT hu1 1 (k_tup (d_acons (dv 6) (d_acons (dv 14) d_anil)))) (d_acons (dv 5) d_anil)))))) (g_put 13 (dv 15)))) (b_one (s_if (d_tcmp (op_EQ hu64) (dv 7) d_str (nomark _)) (b_one (s_asg (d_ix (dv 3) (dv 8) (fun _ _ => rfl)) (g_put 13 (dv 15)))) b_nil))))))
      (b_one (s_set (i := 3) sclaw_played.nd rfl (Or.inl rfl) (dv 13)))))))
      (b_one (s_ret (dv 3)))))⟩
theorem ok_law_played (T : Txt w.params K mg) : FnOk P w K mg base CX0 3 T.law_played.f T.law_played.fd ["olds", "hands", "some"] (spF K 3 (F_law_played T.C)) := okF T.law_played.F sclaw_played rfl rfl (bd_law_played T)
set_option maxHeartbeats 2000000 in
theorem bd_law_words (T : Txt w.params K mg) : BodyD P w K mg base "_law_words" slaw_words T.law_words.f ["purse", "some", "at"] 1 (B_law_words T.C) := by
  intro cdv A outer s H E hr
  have hu := hu100 hr
  have hu64 := hu64_of hr
  have hu1 := hu1_of hr
  unfold B_law_words
  exact ⟨_, fun M0 P0 H0 => (b_cons (s_set (i := 1) sclaw_words.nd rfl (Or.inl rfl) (DN.e (d_lst (d_acons d_str (d_acons d_str (d_acons d_str (d_acons d_str (d_acons d_str (d_acons d_str (d_acons d_str (d_acons d_str (d_acons d_str (d_acons d_str (d_acons d_str (d_acons d_str (d_acons d_str (d_acons d_str d_anil)))))))))))))))))
      (b_cons (s_set (i := 2) sclaw_words.nd rfl (Or.inl rfl) (d_callO 0 (ok_law_draw T) takesO (hr.mono (by decide)) T.law_draw.g T.law_draw.F.kp T.law_draw.b (d_acons (d_blt call_LEN T.z_len (by decide +kernel) (d_acons (dv 1) d_anil)) d_anil)))
      (b_one (s_ret (d_sl (d_op op_ADD (d_sl (dv 1) (d_part (dv 2)) d_no) (d_sl (dv 1) d_no (d_part (dv 2)))) d_no (d_part d_int))))))⟩
theorem ok_law_words (T : Txt w.params K mg) : FnOk P w K mg base CX0 2 T.law_words.f T.law_words.fd ["purse"] (spO K 1 (F_law_words T.C)) := okO T.law_words.F sclaw_words rfl rfl (bd_law_words T)
set_option maxHeartbeats 2000000 in
theorem bd_law_touches (T : Txt w.params K mg) : BodyD P w K mg base "_law_touches" slaw_touches T.law_touches.f ["purse", "first", "last", "many", "wide", "found", "at", "k", "a", "b"] 2 (B_law_touches T.C) := by
  intro cdv A outer s H E hr
  have hu := hu100 hr
  have hu64 := hu64_of hr
  have hu1 := hu1_of hr
  unfold B_law_touches
  exact ⟨_, fun M0 P0 H0 => (b_cons (s_par (i := 5) (j := 6) rfl sclaw_touches.nd rfl rfl (by decide) rfl rfl (f_new (d_lst d_anil) (f_dat (dv 1) f_nil)) (by rfl))
      (b_cons (s_for PassesOwn.never rfl (i_rng1 T.z_range (d_acons (dv 3) d_anil)) (g_name (i := 7) sclaw_touches.nd rfl (Or.inl rfl)) (b_cons (s_set (i := 8) sclaw_touches.nd rfl (Or.inl rfl) (d_op op_ADD (dv 6) (d_op op_MUL (d_callO 0 (ok_law_draw T) takesO (hr.mono (by decide)) T.law_draw.g T.law_draw.F.kp T.law_draw.b (d_acons d_int d_anil)) (d_callO 0 (ok_law_pick T) takesO (hr.mono (by decide)) T.law_pick.g T.law_pick.F.kp T.law_pick.b (d_acons (DN.e (d_lst (d_acons d_int (d_acons d_int (d_acons (dv 4) d_anil))))) d_anil)))))
      (b_cons (s_set (i := 9) sclaw_touches.nd rfl (Or.inl rfl) (d_op op_ADD (d_op op_ADD (dv 8) d_int) (d_op op_MUL (d_callO 0 (ok_law_draw T) takesO (hr.mono (by decide)) T.law_draw.g T.law_draw.F.kp T.law_draw.b (d_acons d_int d_anil)) (d_callO 0 (ok_law_pick T) takesO (hr.mono (by decide)) T.law_pick.g T.law_pick.F.kp T.law_pick.b (d_acons (DN.e (d_lst (d_acons d_int (d_acons d_int (d_acons (dv 4) d_anil))))) d_anil)))))
      (b_one (s_if (d_tcmp op_LE (dv 9) (dv 2) (nomark _)) (b_cons (s_app 5 (d_tup (d_acons (dv 8) (d_acons (dv 9) d_anil))))
      (b_one (s_set (i := 6) sclaw_touches.nd rfl (Or.inl rfl) (d_op op_ADD (dv 9) d_int)))) b_nil)))))
      (b_one (s_ret (d_cty call_TUPLE T.z_tuple (by decide +kernel) (d_acons (dv 5) d_anil))))))⟩
theorem ok_law_touches (T : Txt w.params K mg) : FnOk P w K mg base CX0 3 T.law_touches.f T.law_touches.fd ["purse", "first", "last", "many", "wide"] (spO K 5 (F_law_touches T.C)) := okO T.law_touches.F sclaw_touches rfl rfl (bd_law_touches T)
set_option maxHeartbeats 2000000 in
theorem bd_law_wide (T : Txt w.params K mg) : BodyD P w K mg base "_law_wide" slaw_wide T.law_wide.f ["purse", "size"] 1 (B_law_wide T.C) := by
  intro cdv A outer s H E hr
  have hu := hu100 hr
  have hu64 := hu64_of hr
  have hu1 := hu1_of hr
  unfold B_law_wide
  exact ⟨_, fun M0 P0 H0 => (b_one (s_ret (d_op op_MOD (d_cty call_INT T.z_int (by decide +kernel) (d_acons (d_op op_ADD (d_op op_MUL (d_callO 0 (ok_law_draw T) takesO (hr.mono (by decide)) T.law_draw.g T.law_draw.F.kp T.law_draw.b (d_acons (d_op op_POW d_int d_int) d_anil)) (d_op op_POW d_int d_int)) (d_callO 0 (ok_law_draw T) takesO (hr.mono (by decide)) T.law_draw.g T.law_draw.F.kp T.law_draw.b (d_acons (d_op op_POW d_int d_int) d_anil))) d_anil)) (dv 1))))⟩
theorem ok_law_wide (T : Txt w.params K mg) : FnOk P w K mg base CX0 2 T.law_wide.f T.law_wide.fd ["purse", "size"] (spO K 2 (F_law_wide T.C)) := okO T.law_wide.F sclaw_wide rfl rfl (bd_law_wide T)
set_option maxHeartbeats 2000000 in
theorem bd_law_fader (T : Txt w.params K mg) : BodyD P w K mg base "_law_fader" slaw_fader T.law_fader.f ["purse", "word", "long", "first", "some", "k", "last", "wide", "marks", "mode", "slide", "tail"] 3 (B_law_fader T.C) := by
  intro cdv A outer s H E hr
  have hu := hu100 hr
  have hu64 := hu64_of hr
  have hu1 := hu1_of hr
  unfold B_law_fader
  exact ⟨_, fun M0 P0 H0 => (b_cons (s_set (i := 3) sclaw_fader.nd rfl (Or.inr rfl) (d_callO 0 (ok_law_pick T) takesO (hr.mono (by decide)) T.law_pick.g T.law_pick.F.kp T.law_pick.b (d_acons (DN.e (d_lst (d_acons d_int (d_acons (d_callO 0 (ok_law_wide T) takesO (hr.mono (by decide)) T.law_wide.g T.law_wide.F.kp T.law_wide.b (d_acons (dv 2) d_anil)) (d_acons (d_callO 0 (ok_law_wide T) takesO (hr.mono (by decide)) T.law_wide.g T.law_wide.F.kp T.law_wide.b (d_acons (dv 2) d_anil)) d_anil))))) d_anil)))
      (b_cons (s_set (i := 4) sclaw_fader.nd rfl (Or.inl rfl) (d_op op_ADD (DN.e (d_lst (d_acons (dv 2) d_anil))) (DN.e (d_lc (own := [("k", 5)]) rfl sclaw_fader.nd (i_rng1 T.z_range (d_acons d_int d_anil)) (blkOk_by (N := ["purse", "word", "long", "first", "some", "k", "last", "wide", "marks", "mode", "slide", "tail"]) (sc := defScope slaw_fader) (by decide +kernel)) (own_nam (by decide)).1 ⟨fun _ _ _ _ _ => (g_name (i := 5) sclaw_fader.nd rfl (Or.inl rfl)), fun _ _ _ _ _ => t_nil, fun _ _ _ _ _ => (d_op op_ADD (d_op op_ADD (dv 3) d_int) (d_callO 0 (ok_law_wide T) takesO (hr.mono (by decide)) T.law_wide.g T.law_wide.F.kp T.law_wide.b (d_acons (d_op op_SUB (dv 2) (dv 3)) d_anil)))⟩))))
      (b_cons (s_set (i := 6) sclaw_fader.nd rfl (Or.inl rfl) (d_callO 0 (ok_law_pick T) takesO (hr.mono (by decide)) T.law_pick.g T.law_pick.F.kp T.law_pick.b (d_acons (dv 4) d_anil)))
      (b_cons (s_set (i := 7) sclaw_fader.nd rfl (Or.inl rfl) (d_callO 0 (ok_law_pick T) takesO (hr.mono (by decide)) T.law_pick.g T.law_pick.F.kp T.law_pick.b (d_acons (DN.e (d_lst (d_acons d_int (d_acons d_int (d_acons (d_blt (call_MAX rfl) T.z_max (by decide +kernel) (d_acons d_int (d_acons (d_op op_DIV (d_op op_SUB (dv 6) (dv 3)) d_int) d_anil))) d_anil))))) d_anil)))
      (b_cons (s_set (i := 8) sclaw_fader.nd rfl (Or.inl rfl) (d_callO 0 (ok_law_touches T) takesO (hr.mono (by decide)) T.law_touches.g T.law_touches.F.kp T.law_touches.b (d_acons (dv 3) (d_acons (dv 6) (d_acons (d_callO 0 (ok_law_draw T) takesO (hr.mono (by decide)) T.law_draw.g T.law_draw.F.kp T.law_draw.b (d_acons d_int d_anil)) (d_acons (dv 7) d_anil))))))
      (b_cons (s_set (i := 9) sclaw_fader.nd rfl (Or.inl rfl) (d_callO 0 (ok_law_pick T) takesO (hr.mono (by decide)) T.law_pick.g T.law_pick.F.kp T.law_pick.b (d_acons (DN.e (d_lst (d_acons d_str (d_acons d_str (d_acons d_str (d_acons d_str (d_acons d_str d_anil))))))) d_anil)))
      (b_cons (s_par (i := 10) (j := 11) rfl sclaw_fader.nd rfl rfl (by decide) rfl rfl (f_dat (d_callO 0 (ok_law_pick T) takesO (hr.mono (by decide)) T.law_pick.g T.law_pick.F.kp T.law_pick.b (d_acons (DN.e (d_lst (d_acons d_int (d_acons d_int (d_acons d_int (d_acons d_int (d_acons d_int (d_acons d_int (d_acons d_int d_anil))))))))) d_anil)) (f_dat (d_callO 0 (ok_law_pick T) takesO (hr.mono (by decide)) T.law_pick.g T.law_pick.F.kp T.law_pick.b (d_acons (DN.e (d_lst (d_acons d_str (d_acons d_str (d_acons d_str d_anil))))) d_anil)) f_nil)) (by rfl))
      (b_one (s_ret (d_tup (d_acons (dv 1) (d_acons (dv 9) (d_acons (dv 3) (d_acons (dv 6) (d_acons (dv 8) (d_acons (dv 10) (d_acons (dv 11) d_anil)))))))))))))))))⟩
theorem ok_law_fader (T : Txt w.params K mg) : FnOk P w K mg base CX0 4 T.law_fader.f T.law_fader.fd ["purse", "word", "long"] (spO K 3 (F_law_fader T.C)) := okO T.law_fader.F sclaw_fader rfl rfl (bd_law_fader T)
set_option maxHeartbeats 2000000 in
theorem bd_law_faders (T : Txt w.params K mg) : BodyD P w K mg base "_law_faders" slaw_faders T.law_faders.f ["purse", "long", "many", "words", "k"] 4 (B_law_faders T.C) := by
  intro cdv A outer s H E hr
  have hu := hu100 hr
  have hu64 := hu64_of hr
  have hu1 := hu1_of hr
  unfold B_law_faders
  exact ⟨_, fun M0 P0 H0 => (b_cons (s_set (i := 3) sclaw_faders.nd rfl (Or.inr rfl) (d_callO 0 (ok_law_words T) takesO (hr.mono (by decide)) T.law_words.g T.law_words.F.kp T.law_words.b d_anil))
      (b_one (s_ret (d_cty call_TUPLE T.z_tuple (by decide +kernel) (d_acons (DN.e (d_lc (own := [("k", 4)]) rfl sclaw_faders.nd (i_rng1 T.z_range (d_acons (d_callO 0 (ok_law_draw T) takesO (hr.mono (by decide)) T.law_draw.g T.law_draw.F.kp T.law_draw.b (d_acons (d_op op_ADD (dv 2) d_int) d_anil)) d_anil)) (blkOk_by (N := ["purse", "long", "many", "words", "k"]) (sc := defScope slaw_faders) (by decide +kernel)) (own_nam (by decide)).1 ⟨fun _ _ _ _ _ => (g_name (i := 4) sclaw_faders.nd rfl (Or.inl rfl)), fun _ _ _ _ _ => t_nil, fun _ _ _ _ _ => (d_callO 0 (ok_law_fader T) takesO (hr.mono (by decide)) T.law_fader.g T.law_fader.F.kp T.law_fader.b (d_acons (d_ix (dv 3) (dv 4) (fun _ _ => rfl)) (d_acons (dv 1) d_anil)))⟩)) d_anil)))))⟩
theorem ok_law_faders (T : Txt w.params K mg) : FnOk P w K mg base CX0 5 T.law_faders.f T.law_faders.fd ["purse", "long", "many"] (spO K 3 (F_law_faders T.C)) := okO T.law_faders.F sclaw_faders rfl rfl (bd_law_faders T)
set_option maxHeartbeats 2000000 in
theorem bd_law_pass (T : Txt w.params K mg) : BodyD P w K mg base "_law_pass" slaw_pass T.law_pass.f ["purse", "name_here", "long", "wide", "first", "last", "touches_here", "mode", "slide", "tail"] 3 (B_law_pass T.C) := by
  intro cdv A outer s H E hr
  have hu := hu100 hr
  have hu64 := hu64_of hr
  have hu1 := hu1_of hr
  unfold B_law_pass
  exact ⟨_, fun M0 P0 H0 => (b_cons (s_set (i := 4) sclaw_pass.nd rfl (Or.inl rfl) (d_if (d_tcmp op_GT (d_callO 0 (ok_law_draw T) takesO (hr.mono (by decide)) T.law_draw.g T.law_draw.F.kp T.law_draw.b (d_acons d_int d_anil)) d_int (nomark _)) (d_op op_MUL (d_callO 0 (ok_law_draw T) takesO (hr.mono (by decide)) T.law_draw.g T.law_draw.F.kp T.law_draw.b (d_acons (d_blt (call_MAX rfl) T.z_max (by decide +kernel) (d_acons d_int (d_acons (d_op op_DIV (dv 2) (dv 3)) d_anil))) d_anil)) (dv 3)) d_int))
      (b_cons (s_set (i := 4) sclaw_pass.nd rfl (Or.inl rfl) (d_blt (call_MIN rfl) T.z_min (by decide +kernel) (d_acons (dv 4) (d_acons (d_op op_SUB (dv 2) d_int) d_anil))))
      (b_cons (s_set (i := 5) sclaw_pass.nd rfl (Or.inl rfl) (d_op op_ADD (d_op op_ADD (dv 4) d_int) (d_op op_MUL (d_callO 0 (ok_law_draw T) takesO (hr.mono (by decide)) T.law_draw.g T.law_draw.F.kp T.law_draw.b (d_acons (d_blt (call_MAX rfl) T.z_max (by decide +kernel) (d_acons d_int (d_acons (d_op op_DIV (d_op op_SUB (dv 2) (dv 4)) (dv 3)) d_anil))) d_anil)) (dv 3))))
      (b_cons (s_set (i := 5) sclaw_pass.nd rfl (Or.inl rfl) (d_callO 0 (ok_law_pick T) takesO (hr.mono (by decide)) T.law_pick.g T.law_pick.F.kp T.law_pick.b (d_acons (DN.e (d_lst (d_acons (d_blt (call_MIN rfl) T.z_min (by decide +kernel) (d_acons (dv 5) (d_acons (dv 2) d_anil))) (d_acons (d_blt (call_MIN rfl) T.z_min (by decide +kernel) (d_acons (dv 5) (d_acons (dv 2) d_anil))) (d_acons (dv 2) d_anil))))) d_anil)))
      (b_cons (s_set (i := 6) sclaw_pass.nd rfl (Or.inl rfl) (d_callO 0 (ok_law_touches T) takesO (hr.mono (by decide)) T.law_touches.g T.law_touches.F.kp T.law_touches.b (d_acons (dv 4) (d_acons (dv 5) (d_acons (d_callO 0 (ok_law_draw T) takesO (hr.mono (by decide)) T.law_draw.g T.law_draw.F.kp T.law_draw.b (d_acons d_int d_anil)) (d_acons (dv 3) d_anil))))))
      (b_cons (s_set (i := 7) sclaw_pass.nd rfl (Or.inl rfl) (d_callO 0 (ok_law_pick T) takesO (hr.mono (by decide)) T.law_pick.g T.law_pick.F.kp T.law_pick.b (d_acons (DN.e (d_lst (d_acons d_str (d_acons d_str (d_acons d_str (d_acons d_str (d_acons d_str d_anil))))))) d_anil)))
      (b_cons (s_par (i := 8) (j := 9) rfl sclaw_pass.nd rfl rfl (by decide) rfl rfl (f_dat (d_callO 0 (ok_law_pick T) takesO (hr.mono (by decide)) T.law_pick.g T.law_pick.F.kp T.law_pick.b (d_acons (DN.e (d_lst (d_acons d_int (d_acons d_int (d_acons d_int (d_acons d_int (d_acons d_int d_anil))))))) d_anil)) (f_dat (d_callO 0 (ok_law_pick T) takesO (hr.mono (by decide)) T.law_pick.g T.law_pick.F.kp T.law_pick.b (d_acons (DN.e (d_lst (d_acons d_str (d_acons d_str (d_acons d_str d_anil))))) d_anil)) f_nil)) (by rfl))
      (b_one (s_ret (d_tup (d_acons (dv 1) (d_acons (dv 7) (d_acons (dv 4) (d_acons (dv 5) (d_acons (dv 6) (d_acons (dv 8) (d_acons (dv 9) d_anil)))))))))))))))))⟩
theorem ok_law_pass (T : Txt w.params K mg) : FnOk P w K mg base CX0 4 T.law_pass.f T.law_pass.fd ["purse", "name_here", "long", "wide"] (spO K 4 (F_law_pass T.C)) := okO T.law_pass.F sclaw_pass rfl rfl (bd_law_pass T)
set_option maxHeartbeats 2000000 in
theorem bd_law_row (T : Txt w.params K mg) : BodyD P w K mg base "_law_row" slaw_row T.law_row.f ["purse", "long", "many", "wide", "names_here", "at", "k"] 4 (B_law_row T.C) := by
  intro cdv A outer s H E hr
  have hu := hu100 hr
  have hu64 := hu64_of hr
  have hu1 := hu1_of hr
  unfold B_law_row
  exact ⟨_, fun M0 P0 H0 => (b_cons (s_set (i := 4) sclaw_row.nd rfl (Or.inr rfl) (DN.e (d_lst (d_acons d_str (d_acons d_str (d_acons d_str (d_acons d_str (d_acons d_str (d_acons d_str (d_acons d_str (d_acons d_str d_anil)))))))))))
      (b_cons (s_set (i := 5) sclaw_row.nd rfl (Or.inl rfl) (d_callO 0 (ok_law_draw T) takesO (hr.mono (by decide)) T.law_draw.g T.law_draw.F.kp T.law_draw.b (d_acons d_int d_anil)))
      (b_cons (s_set (i := 4) sclaw_row.nd rfl (Or.inr rfl) (d_op op_ADD (d_sl (dv 4) (d_part (dv 5)) d_no) (d_sl (dv 4) d_no (d_part (dv 5)))))
      (b_one (s_ret (d_cty call_TUPLE T.z_tuple (by decide +kernel) (d_acons (DN.e (d_lc (own := [("k", 6)]) rfl sclaw_row.nd (i_rng1 T.z_range (d_acons (d_callO 0 (ok_law_draw T) takesO (hr.mono (by decide)) T.law_draw.g T.law_draw.F.kp T.law_draw.b (d_acons (d_op op_ADD (dv 2) d_int) d_anil)) d_anil)) (blkOk_by (N := ["purse", "long", "many", "wide", "names_here", "at", "k"]) (sc := defScope slaw_row) (by decide +kernel)) (own_nam (by decide)).1 ⟨fun _ _ _ _ _ => (g_name (i := 6) sclaw_row.nd rfl (Or.inl rfl)), fun _ _ _ _ _ => t_nil, fun _ _ _ _ _ => (d_callO 0 (ok_law_pass T) takesO (hr.mono (by decide)) T.law_pass.g T.law_pass.F.kp T.law_pass.b (d_acons (d_ix (dv 4) (dv 6) (fun _ _ => rfl)) (d_acons (dv 1) (d_acons (dv 3) d_anil))))⟩)) d_anil)))))))⟩
theorem ok_law_row (T : Txt w.params K mg) : FnOk P w K mg base CX0 5 T.law_row.f T.law_row.fd ["purse", "long", "many", "wide"] (spO K 4 (F_law_row T.C)) := okO T.law_row.F sclaw_row rfl rfl (bd_law_row T)
set_option maxHeartbeats 2000000 in
theorem bd_law_right (T : Txt w.params K mg) : BodyG P w K mg base "_law_right" slaw_right T.law_right.f ["purse", "long", "some", "size", "olds", "hands", "k", "facts", "each", "a", "b", "at", "mine", "due"] 8 (B_law_right T.C) := by
  intro cdv A outer s H E hg hr
  have hu := hu100 hr
  have hu64 := hu64_of hr
  have hu1 := hu1_of hr
  unfold B_law_right
  exact ⟨_, fun M0 P0 H0 => (b_cons (s_set (i := 1) sclaw_right.nd rfl (Or.inl rfl) (d_op op_ADD d_int (d_callO 0 (ok_law_draw T) takesO (hr.mono (by decide)) T.law_draw.g T.law_draw.F.kp T.law_draw.b (d_acons d_int d_anil))))
      (b_cons (s_set (i := 2) sclaw_right.nd rfl (Or.inl rfl) (d_callO 0 (ok_law_pick T) takesO (hr.mono (by decide)) T.law_pick.g T.law_pick.F.kp T.law_pick.b (d_acons (DN.e (d_lst (d_acons (d_callO 0 (ok_law_faders T) takesO (hr.mono (by decide)) T.law_faders.g T.law_faders.F.kp T.law_faders.b (d_acons (dv 1) (d_acons d_int d_anil))) (d_acons (d_callO 0 (ok_law_row T) takesO (hr.mono (by decide)) T.law_row.g T.law_row.F.kp T.law_row.b (d_acons (dv 1) (d_acons d_int (d_acons d_int d_anil)))) d_anil)))) d_anil)))
      (b_cons (s_set (i := 3) sclaw_right.nd rfl (Or.inr rfl) (d_callO 0 (ok_law_pick T) takesO (hr.mono (by decide)) T.law_pick.g T.law_pick.F.kp T.law_pick.b (d_acons (DN.e (d_lst (d_acons d_int (d_acons d_int (d_acons (d_op op_ADD (d_op op_POW d_int d_int) d_int) d_anil))))) d_anil)))
      (b_cons (s_parT (n := 2) (is := [4, 5]) rfl (f_dat (DN.e (d_lc (own := [("k", 6)]) rfl sclaw_right.nd (i_rng1 T.z_range (d_acons (dv 1) d_anil)) (blkOk_by (N := ["purse", "long", "some", "size", "olds", "hands", "k", "facts", "each", "a", "b", "at", "mine", "due"]) (sc := defScope slaw_right) (by decide +kernel)) (own_nam (by decide)).1 ⟨fun _ _ _ _ _ => (g_name (i := 6) sclaw_right.nd rfl (Or.inl rfl)), fun _ _ _ _ _ => t_nil, fun _ _ _ _ _ => (d_op op_MUL (d_op op_SUB (d_callO 0 (ok_law_draw T) takesO (hr.mono (by decide)) T.law_draw.g T.law_draw.F.kp T.law_draw.b (d_acons d_int d_anil)) d_int) (dv 3))⟩)) (f_new d_dnewT f_nil)) (pgs_cons (pg_name (i := 4) sclaw_right.nd rfl (Or.inr rfl)) (pgs_cons (pg_name (i := 5) sclaw_right.nd rfl (Or.inl rfl)) pgs_nil)))
      (b_cons (s_setN (i := 7) sclaw_right.nd rfl (Or.inr rfl) (d_cat (DN.e (d_lc (own := [("k", 6)]) rfl sclaw_right.nd (i_rng1 T.z_range (d_acons (dv 1) d_anil)) (blkOk_by (N := ["purse", "long", "some", "size", "olds", "hands", "k", "facts", "each", "a", "b", "at", "mine", "due"]) (sc := defScope slaw_right) (by decide +kernel)) (own_nam (by decide)).1 ⟨fun _ _ _ _ _ => (g_name (i := 6) sclaw_right.nd rfl (Or.inl rfl)), fun _ _ _ _ _ => t_nil, fun _ _ _ _ _ => (d_tup (d_acons d_str (d_acons (dv 6) (d_acons (d_ix (dv 4) (dv 6) (fun _ _ => rfl)) d_anil))))⟩)) (DN.e (d_lst (d_acons (d_tup (d_acons d_str (d_acons d_int (d_acons d_int d_anil)))) (d_acons (d_tup (d_acons d_str (d_acons (dv 1) (d_acons d_int d_anil)))) (d_acons (d_tup (d_acons d_str (d_acons (d_op op_POW d_int d_int) (d_acons d_int d_anil)))) d_anil)))))))
      (b_cons (s_for PassesOwn.never rfl (i_tup (dv 2)) (g_name (i := 8) sclaw_right.nd rfl (Or.inl rfl)) (b_one (s_for PassesOwn.never rfl (i_tup (d_ix (dv 8) d_int (fun _ _ => rfl))) (g_tup rfl (gs_cons (g_name (i := 9) sclaw_right.nd rfl (Or.inl rfl)) (gs_cons (g_name (i := 10) sclaw_right.nd rfl (Or.inl rfl)) gs_nil))) (b_one (s_for PassesOwn.never rfl (i_rng2 T.z_range (d_acons (dv 9) (d_acons (dv 10) d_anil))) (g_name (i := 6) sclaw_right.nd rfl (Or.inl rfl)) (b_cons (s_dputT hu1 5 (k_tup (d_acons (d_ix (dv 8) d_int (fun _ _ => rfl)) (d_acons (dv 6) d_anil))) (d_op op_ADD (d_op op_MUL (d_op op_SUB (d_callO 0 (ok_law_draw T) takesO (hr.mono (by decide)) T.law_draw.g T.law_draw.F.kp T.law_draw.b (d_acons d_int d_anil)) d_int) (dv 3)) (dv 6)))
      (b_one (s_app 7 (d_tup (d_acons (d_ix (dv 8) d_int (fun _ _ => rfl)) (d_acons (dv 6) (d_acons (d_dgetT hu1 5 (k_tup (d_acons (d_ix (dv 8) d_int (fun _ _ => rfl)) (d_acons (dv 6) d_anil)))) d_anil))))))))))))
      (b_cons (s_set (i := 11) sclaw_right.nd rfl (Or.inl rfl) (d_callO 0 (ok_law_draw T) takesO (hr.mono (by decide)) T.law_draw.g T.law_draw.F.kp T.law_draw.b (d_acons (d_bltP 7 call_LEN T.z_len (by decide +kernel)) d_anil)))
      (b_cons (s_set (i := 7) sclaw_right.nd rfl (Or.inr rfl) (d_cty call_TUPLE T.z_tuple (by decide +kernel) (d_acons (d_op op_ADD (d_sl (dv 7) (d_part (dv 11)) d_no) (d_sl (dv 7) d_no (d_part (dv 11)))) d_anil)))
      (b_cons (s_parT (n := 2) (is := [12, 13]) rfl (f_dat (DN.e (d_make ⟨T.makes, T.Track_init.m.at_, T.Track_init.m.fn, T.kC⟩ (ok_Track_init T) takesO (hr.mono (by decide)) T.gC T.Track_init.b .nil (fun _ _ => .nil) (d_acons (dv 1) (d_acons (dv 2) d_anil)))) (f_dat (d_call (ok_law_played T) takesF (hr.mono (by decide)) T.law_played.g T.law_played.F.kp T.law_played.b (d_acons (dv 4) (d_acons (dv 5) (d_acons (dv 2) d_anil)))) f_nil)) (pgs_cons (pg_name (i := 12) sclaw_right.nd rfl (Or.inr rfl)) (pgs_cons (pg_name (i := 13) sclaw_right.nd rfl (Or.inl rfl)) pgs_nil)))
      (b_cons (s_if (d_tcmp (op_NE hu64) (d_blt (call_REPR hg hu64) T.z_repr (by decide +kernel) (d_acons (DN.e (d_lc (own := [("k", 6)]) rfl sclaw_right.nd (i_rng1 T.z_range (d_acons (dv 1) d_anil)) (blkOk_by (N := ["purse", "long", "some", "size", "olds", "hands", "k", "facts", "each", "a", "b", "at", "mine", "due"]) (sc := defScope slaw_right) (by decide +kernel)) (own_nam (by decide)).1 ⟨fun _ _ _ _ _ => (g_name (i := 6) sclaw_right.nd rfl (Or.inl rfl)), fun _ _ _ _ _ => t_nil, fun _ _ _ _ _ => (d_call (ok_number_at T) takesF (hr.mono (by decide)) T.number_at.g T.number_at.F.kp T.number_at.b (d_acons (dv 12) (d_acons (dv 6) (d_acons (dv 7) d_anil))))⟩)) d_anil)) (d_blt (call_REPR hg hu64) T.z_repr (by decide +kernel) (d_acons (dv 13) d_anil)) (nomark _)) (b_one (s_ret d_bl)) b_nil)
      (b_cons (s_set (i := 11) sclaw_right.nd rfl (Or.inl rfl) (d_callO 0 (ok_law_draw T) takesO (hr.mono (by decide)) T.law_draw.g T.law_draw.F.kp T.law_draw.b (d_acons (dv 1) d_anil)))
      (b_one (s_ret (d_cmp (op_EQ hu64) (d_blt (call_REPR hg hu64) T.z_repr (by decide +kernel) (d_acons (d_callK0 (ks := ["known", "tick", "track"]) [2, 1, 0] (ok_number_at T) takesF (hr.mono (by decide)) T.number_at.g T.number_at.F.kp (KB_number_at_0_known_tick_track T) (k_cons (d_revT (k := 0) (dv 7)) (k_cons (dv 11) (k_cons (dv 12) k_nil)))) d_anil)) (d_blt (call_REPR hg hu64) T.z_repr (by decide +kernel) (d_acons (d_ix (dv 13) (dv 11) (fun _ _ => rfl)) d_anil)) (nomark _)))))))))))))))⟩
theorem ok_law_right (T : Txt w.params K mg) : FnG P w K mg base CX0 9 T.law_right.f T.law_right.fd ["purse"] (spO K 1 (F_law_right T.C)) := okOG T.law_right.F sclaw_right rfl rfl (bd_law_right T)
set_option maxHeartbeats 2000000 in
theorem bd_law_purse (T : Txt w.params K mg) : BodyD P w K mg base "_law_purse" slaw_purse T.law_purse.f ["script", "k", "cell", "digits", "seed"] 0 (B_law_purse T.C) := by
  intro cdv A outer s H E hr
  have hu := hu100 hr
  have hu64 := hu64_of hr
  have hu1 := hu1_of hr
  unfold B_law_purse
  exact ⟨_, fun M0 P0 H0 => (b_cons (s_if (d_tcmp op_LT (dv 1) (d_blt call_LEN T.z_len (by decide +kernel) (d_acons (dv 0) d_anil)) (nomark _)) (b_cons (s_set (i := 2) sclaw_purse.nd rfl (Or.inl rfl) (d_ix (dv 0) (dv 1) (fun _ _ => rfl)))
      (b_cons (s_set (i := 3) sclaw_purse.nd rfl (Or.inl rfl) (d_if (DW.dt (d_or (d_tcmp op_LT (dv 2) d_int (nomark _)) (d_or1 (d_tcmp op_GE (dv 2) (d_op op_POW d_int d_int) (nomark _))))) (d_blt call_ABS T.z_abs (by decide +kernel) (d_acons (dv 2) d_anil)) d_int))
      (b_one (s_retNew (d_lst (d_acons (dv 3) (d_acons (d_op op_MOD (d_cty call_INT T.z_int (by decide +kernel) (d_acons (d_op op_ADD (d_op op_ADD (d_op op_MUL (dv 2) d_int) (d_op op_MUL d_int (dv 1))) d_int) d_anil)) d_int) (d_acons d_int d_anil)))))))) b_nil)
      (b_cons (s_set (i := 4) sclaw_purse.nd rfl (Or.inl rfl) (d_op op_ADD (d_op op_MUL d_int (dv 1)) d_int))
      (b_cons (s_for PassesOwn.never rfl (i_list (d_sl (dv 0) d_no (d_part d_int))) (g_name (i := 2) sclaw_purse.nd rfl (Or.inl rfl)) (b_one (s_set (i := 4) sclaw_purse.nd rfl (Or.inl rfl) (d_op op_MOD (d_cty call_INT T.z_int (by decide +kernel) (d_acons (d_op op_ADD (d_op op_MUL (dv 4) d_int) (dv 2)) d_anil)) d_int))))
      (b_one (s_retNew (d_lst (d_acons d_int (d_acons (dv 4) (d_acons d_int d_anil)))))))))⟩
theorem ok_law_purse (T : Txt w.params K mg) : FnOk P w K mg base CX0 1 T.law_purse.f T.law_purse.fd ["script", "k"] (spN K 2 (F_law_purse T.C)) := okN T.law_purse.F sclaw_purse rfl rfl (bd_law_purse T)
set_option maxHeartbeats 2000000 in
theorem bd_law (T : Txt w.params K mg) : BodyG P w K mg base "law" slaw T.law.f ["script", "mine", "k"] 9 (B_law T.C) := by
  intro cdv A outer s H E hg hr
  have hu := hu100 hr
  have hu64 := hu64_of hr
  have hu1 := hu1_of hr
  unfold B_law
  exact ⟨_, fun M0 P0 H0 => (b_cons (s_set (i := 1) sclaw.nd rfl (Or.inl rfl) (DN.e (d_make ⟨T.makes, T.Track_init.m.at_, T.Track_init.m.fn, T.kC⟩ (ok_Track_init T) takesO (hr.mono (by decide)) T.gC T.Track_init.b .nil (fun _ _ => .nil) (d_acons d_int (d_acons (d_tup (d_acons (d_tup (d_acons d_str (d_acons d_str (d_acons d_int (d_acons d_int (d_acons (d_tup (d_acons (d_tup (d_acons d_int (d_acons d_int d_anil))) d_anil)) (d_acons d_int (d_acons d_str d_anil)))))))) d_anil)) d_anil)))))
      (b_cons (s_if (DW.dt (d_or (d_tcmp (op_NE hu64) (d_call (ok_number_at T) takesF (hr.mono (by decide)) T.number_at.g T.number_at.F.kp T.number_at.b (d_acons (dv 1) (d_acons d_int (d_acons (d_tup (d_acons (d_tup (d_acons d_str (d_acons d_int (d_acons d_int d_anil)))) (d_acons (d_tup (d_acons d_str (d_acons d_int (d_acons (d_neg d_int) d_anil)))) d_anil))) d_anil)))) (d_tup (d_acons d_int (d_acons d_int d_anil))) (nomark _)) (d_or1 (d_tcmp (op_NE hu64) (d_call (ok_number_at T) takesF (hr.mono (by decide)) T.number_at.g T.number_at.F.kp T.number_at.b (d_acons (dv 1) (d_acons d_int (d_acons (d_tup (d_acons (d_tup (d_acons d_str (d_acons d_int (d_acons (d_neg d_int) d_anil)))) d_anil)) d_anil)))) (d_tup (d_acons (d_neg d_int) (d_acons d_int d_anil))) (nomark _))))) (b_one (s_ret d_bl)) b_nil)
      (b_cons (s_if (DW.dt (d_or (d_tcmp (op_NE hu64) (d_call (ok_number_at T) takesF (hr.mono (by decide)) T.number_at.g T.number_at.F.kp T.number_at.b (d_acons (dv 1) (d_acons d_int (d_acons (d_tup (d_acons (d_tup (d_acons d_str (d_acons d_int (d_acons d_int d_anil)))) (d_acons (d_tup (d_acons d_str (d_acons d_int (d_acons d_int d_anil)))) d_anil))) d_anil)))) (d_tup (d_acons d_int (d_acons d_int d_anil))) (nomark _)) (d_or1 (d_tcmp (op_NE hu64) (d_call (ok_number_at T) takesF (hr.mono (by decide)) T.number_at.g T.number_at.F.kp T.number_at.b (d_acons (dv 1) (d_acons d_int (d_acons (d_tup (d_acons (d_tup (d_acons d_str (d_acons d_int (d_acons d_int d_anil)))) d_anil)) d_anil)))) (d_tup (d_acons d_int (d_acons d_int d_anil))) (nomark _))))) (b_one (s_ret d_bl)) b_nil)
      (b_cons (s_for PassesOwn.never rfl (i_rng1 T.z_range (d_acons (d_blt (call_MAX rfl) T.z_max (by decide +kernel) (d_acons d_int (d_acons (d_blt (call_MIN rfl) T.z_min (by decide +kernel) (d_acons (d_blt call_LEN T.z_len (by decide +kernel) (d_acons (dv 0) d_anil)) (d_acons d_int d_anil))) d_anil))) d_anil)) (g_name (i := 2) sclaw.nd rfl (Or.inl rfl)) (b_one (s_if (d_not (d_tval (d_gcallNew hg (ok_law_right T) takesO (hr.mono (by decide)) T.law_right.g T.law_right.F.kp T.law_right.b (d_callN (ok_law_purse T) takesN (hr.mono (by decide)) T.law_purse.g T.law_purse.F.kp T.law_purse.b (d_acons (dv 0) (d_acons (dv 2) d_anil))) d_anil))) (b_one (s_ret d_bl)) b_nil)))
      (b_one (s_ret d_bl))))))⟩
theorem ok_law (T : Txt w.params K mg) : FnG P w K mg base CX0 10 T.law.f T.law.fd ["script"] (spF K 1 (F_law T.C)) := okFG T.law.F sclaw rfl rfl (bd_law T)
end
end My
set_option exponentiation.threshold 20000
namespace My
open PySem PySem.Spec PyProof.Rows L2 DL
structure Ps where
  name : Str
  mode : Str
  first : Int
  last : Int
  touches : List (Int × Int)
  glide : Int
  tail : Str
def encT (p : Int × Int) : D := .tup [.int p.1, .int p.2]
def encP (p : Ps) : D := .tup [.str p.name, .str p.mode, .int p.first, .int p.last, .tup (p.touches.map encT), .int p.glide, .str p.tail]
def touchesOk (hi : Int) : List (Int × Int) → Int → Bool
  | [], _ => true
  | p :: r, lo => (decide (lo ≤ p.1) && decide (p.1 ≤ hi)) && (decide (p.1 + 1 ≤ p.2) && decide (p.2 ≤ hi)) && touchesOk hi r (p.2 + 1)
def letters : Str := "abcdefghijklmnopqrstuvwxyz"
def alnums : Str := "abcdefghijklmnopqrstuvwxyz0123456789"
def modes : List Str := ["write", "latch", "touch", "trim"]
def tails : List Str := ["stop", "on"]
def headOk (x : Str) : Bool := match x.cps.toList with | c :: _ => decide (c ∈ letters.cps.toList) | [] => false
def nameOk (x : Str) : Bool := decide (1 ≤ x.length) && decide (x.length ≤ 8) && headOk x && x.cps.toList.all fun c => decide (c ∈ alnums.cps.toList)
def passOk (L : Int) (p : Ps) : Bool := nameOk p.name && !decide (p.name = "old") && modes.contains p.mode && tails.contains p.tail &&
  ((decide (0 ≤ p.first) && decide (p.first ≤ L)) && (decide (p.first + 1 ≤ p.last) && decide (p.last ≤ L))) && decide (p.touches.length ≤ 6) && touchesOk p.last p.touches p.first && decide (0 ≤ p.glide) && decide (p.glide ≤ 100)
section
variable (C : Addr)
theorem v_is_integer (i : Int) : F_is_integer C [.int i] = some (.bl true) := by
  refine retF ?_
  unfold B_is_integer
  refine_lift' st
  exact rq_rt rfl
theorem v_is_between (i lo hi : Int) : F_is_between C [.int i, .int lo, .int hi] = some (.bl (decide (lo ≤ i) && decide (i ≤ hi))) := by
  refine retF ?_
  unfold B_is_between
  refine_lift' st [v_is_integer C _]
  exact rq_rt rfl
theorem v_is_stretch (p : Int × Int) (lo hi : Int) : F_is_stretch C [encT p, .int lo, .int hi] = some (.bl ((decide (lo ≤ p.1) && decide (p.1 ≤ hi)) && (decide (p.1 + 1 ≤ p.2) && decide (p.2 ≤ hi)))) := by
  refine retF ?_
  unfold B_is_stretch encT
  refine_lift' st
  · intro h
    simp at h
  · intro _
    refine_lift' st
    refine_lift' st [v_is_between C _ _ _]
    exact rq_rt rfl
theorem v_are_touches (ts : List (Int × Int)) (lo hi : Int) : F_are_touches C [.tup (ts.map encT), .int lo, .int hi] = some (.bl (decide (ts.length ≤ 6) && touchesOk hi ts lo)) := by
  refine retF ?_
  unfold B_are_touches
  refine_lift' st
  · intro h
    simp at h
    refine_lift' st
    exact rq_rt (by rw [decide_eq_false (by omega)]; rfl)
  · intro h
    have hl : ts.length ≤ 6 := by simp at h; omega
    rw [decide_eq_true hl, Bool.true_and]
    refine_lift' st
    refine_lift' st
    refine st_for (α := Int × Int) (enc := encT) (xs := ts) (ρ1 := [.dat (.tup (ts.map encT)), .dat (.int lo), .dat (.int hi), .dat (.int lo), .no]) ?_ (fun ys ρ => ∃ lo' x, ρ = [.dat (.tup (ts.map encT)), .dat (.int lo), .dat (.int hi), .dat (.int lo'), x] ∧ ∀ zs, touchesOk hi (ys ++ zs) lo = touchesOk hi zs lo') ⟨lo, .no, rfl, fun _ => rfl⟩ ?_ ?_
    · rfl
    · rintro ys p zs ρ e ⟨lo', x, rfl, q⟩
      refine ⟨_, _, g_nm, ?_⟩
      refine_lift' st [v_is_stretch C _ _ _]
      · intro h1
        have h1 := (Bool.not_eq_true' _).mp h1
        refine_lift' st
        refine rq_rt ?_
        rw [e, q, touchesOk, h1, Bool.false_and]
      · intro h1
        have h1 := (Bool.not_eq_false' _).mp h1
        refine_lift' st
        refine_lift' st
        refine ⟨p.2 + 1, _, rfl, fun zs' => ?_⟩
        rw [List.append_assoc, q]
        show touchesOk hi (p :: zs') lo' = _
        rw [touchesOk, h1, Bool.true_and]
    · rintro ρ ⟨lo', x, rfl, q⟩
      refine_lift' st
      refine rq_rt ?_
      have := q []
      rw [List.append_nil] at this
      rw [this]
      rfl
end
end My
set_option exponentiation.threshold 20000
namespace My
open PySem PySem.Spec PyProof.Rows L2 DL
section
variable (C : Addr)
theorem abc_cat : dAdd (.str "abcdefghijklmnopqrstuvwxyz") (.str "0123456789") = some (.str alnums) := by
  have h : (("abcdefghijklmnopqrstuvwxyz" : Str) ++ ("0123456789" : Str)) = alnums := by decide +kernel
  rw [← h]
  exact if_pos (t := some (D.str (("abcdefghijklmnopqrstuvwxyz" : Str) ++ ("0123456789" : Str)))) (e := none) (show ("abcdefghijklmnopqrstuvwxyz" : Str).length + ("0123456789" : Str).length ≤ sizeLine by decide +kernel)
theorem in_str (c : Nat) (z : Str) : dIn (.str ⟨#[c]⟩) (.str z) = some (.bl (decide (c ∈ z.cps.toList))) := rfl
theorem bls_map {α : Type} (f : α → Bool) : ∀ l : List α, bls? (l.map fun a => D.bl (f a)) = some (l.map f)
  | [] => rfl
  | a :: l => by
    rw [List.map_cons, bls?, bls_map f l]
    rfl
theorem all_map {α : Type} (f : α → Bool) (l : List α) : dAll [.lst (l.map fun a => D.bl (f a))] = some (.bl (l.all f)) := by
  unfold dAll
  simp only [bls_map, Option.map_some, List.all_map]
  rfl
theorem v_is_name (x : Str) (hx : x.length ≤ sizeLine) : F_is_name C [.str x] = some (.bl (nameOk x)) := by
  have hl : dLen [.str x] = some (.int x.length) := if_pos hx
  refine retF ?_
  unfold B_is_name
  refine_lift' st [hl]
  · intro h
    refine_lift' st
    refine rq_rt ?_
    unfold nameOk
    have : (decide (1 ≤ x.length) && decide (x.length ≤ 8)) = false := by
      simp at h ⊢
      omega
    rw [this, Bool.false_and, Bool.false_and]
  · intro h
    have h2 : 1 ≤ x.length ∧ x.length ≤ 8 := by
      simp at h
      omega
    refine_lift' st
    have hlc : mLc [1] (iSeq seqS (mVar 0)) (gNm 1) (mC true) (mOp dIn (mVar 1) (mOp dAdd (mC (.str "abcdefghijklmnopqrstuvwxyz")) (mC (.str "0123456789")))) (cells [.str x] 1) = some (.lst (x.cps.toList.map fun c => .bl (decide (c ∈ alnums.cps.toList))), cells [.str x] 1) := by
      refine e_lcm (α := Nat) (vs := [1]) (ρ1 := cells [.str x] 1) (enc := fun c => D.str ⟨#[c]⟩) (xs := x.cps.toList) (f := fun c => .bl (decide (c ∈ alnums.cps.toList))) rfl rfl (len_le ?_) ?_ rfl
      · show x.length ≤ 1000
        omega
      · intro c _
        exact ⟨(), [.dat (.str x), .dat (.str ⟨#[c]⟩)], rfl, [.dat (.str x), .dat (.str ⟨#[c]⟩)], by refine_lift' ev [abc_cat, in_str c alnums], rfl⟩
    obtain ⟨c, r, hc⟩ : ∃ c r, x.cps.toList = c :: r := by
      cases e : x.cps.toList with
      | nil =>
        have : x.length = x.cps.toList.length := rfl
        rw [e] at this
        simp at this; omega
      | cons c r => exact ⟨c, r, rfl⟩
    have hix : dIx (.str x) (.int 0) = some (.str ⟨#[c]⟩) := by
      have h : dIx (.str x) (.int 0) = (atI x.cps.toList 0).map fun c => D.str ⟨#[c]⟩ := if_pos hx
      rw [h, hc, show atI (c :: r) 0 = some c from atI_nat (j := 0) rfl]
      rfl
    have hin := in_str c "abcdefghijklmnopqrstuvwxyz"
    have hall := all_map (fun c => decide (c ∈ alnums.cps.toList)) x.cps.toList
    refine_lift' st [hix, hin, hlc, hall]
    refine rq_rt ?_
    unfold nameOk headOk
    rw [hc, decide_eq_true h2.1, decide_eq_true h2.2]
    rfl
end
end My
set_option exponentiation.threshold 20000
namespace My
open PySem PySem.Spec PyProof.Rows L2 DL
section
variable (C : Addr)
structure Ps.sane (p : Ps) : Prop where
  name : PyData.strOk p.name = true
  mode : PyData.strOk p.mode = true
  tail : PyData.strOk p.tail = true
  nameL : p.name.length ≤ sizeLine
theorem shaped_str {x : Str} (h : PyData.strOk x = true) : SeqAt.shaped (.str x) = true := by
  simp [SeqAt.shaped, PyData.canLay0, h, PyData.depth]
theorem strs_toPs (ws : List Str) : toPs (ws.map .str) = ws.map .str := by
  rw [toPs_map, List.map_map]
  congr 1
theorem plains_strs : ∀ ws : List Str, plains (ws.map .str) = true
  | [] => rfl
  | w :: ws => by simp only [List.map_cons, plains, DL.plain, plains_strs ws, Bool.and_self]
theorem canLay_strs : ∀ ws : List Str, (∀ w ∈ ws, PyData.strOk w = true) → PyData.canLayAll0 (ws.map .str) = true ∧ PyData.depthAll (ws.map .str) = 0
  | [], _ => by simp [PyData.canLayAll0, PyData.depthAll]
  | w :: ws, h => by
    obtain ⟨a, b⟩ := canLay_strs ws fun v hv => h v (List.mem_cons_of_mem _ hv)
    have := h w List.mem_cons_self
    simp [PyData.canLayAll0, PyData.depthAll, PyData.canLay0, PyData.depth, a, b, this]
theorem any_strs (x : Str) : ∀ ws : List Str, ((ws.map PyData.str).any fun e => PyData.eqv e (.str x)) = ws.contains x
  | [] => rfl
  | w :: ws => by
    rw [List.map_cons, List.any_cons, any_strs x ws, List.contains_cons]
    congr 1
    simp only [PyData.eqv]
    exact BEq.comm
theorem in_words {x : Str} (hx : PyData.strOk x = true) (ws : List Str) (h : ∀ w ∈ ws, PyData.strOk w = true) : dIn (.str x) (.tup (ws.map .str)) = some (.bl (ws.contains x)) := by
  obtain ⟨a, b⟩ := canLay_strs ws h
  have hs : SeqAt.shaped (.tuple (toPs (ws.map D.str))) = true := by
    rw [strs_toPs]
    simp [SeqAt.shaped, PyData.canLay0, PyData.depth, a, b]
  have : dInB (.str x) (.tup (ws.map .str)) = some (ws.contains x) := by
    rw [← any_strs, ← strs_toPs]
    exact if_pos ⟨rfl, plains_strs ws, shaped_str hx, hs⟩
  unfold dIn
  rw [this]
  rfl
theorem v_is_word {x : Str} (hx : PyData.strOk x = true) (ws : List Str) (h : ∀ w ∈ ws, PyData.strOk w = true) : F_is_word C [.str x, .tup (ws.map .str)] = some (.bl (ws.contains x)) := by
  refine retF ?_
  unfold B_is_word
  refine_lift' st [in_words hx ws h]
  exact rq_rt rfl
theorem v_is_length (i : Int) : F_is_length C [.int i] = some (.bl (decide (1 ≤ i) && decide (i ≤ 1000000000000))) := by
  refine retF ?_
  unfold B_is_length
  refine_lift' st [v_is_between C _ _ _]
  exact rq_rt rfl
theorem v_is_pass (p : Ps) (s : p.sane) (L : Int) : F_is_pass C [encP p, .int L] = some (.bl (passOk L p)) := by
  have hm := v_is_word C s.mode modes (by decide +kernel)
  have ht := v_is_word C s.tail tails (by decide +kernel)
  have hn := v_is_name C p.name s.nameL
  have hs := v_is_stretch C (p.first, p.last) 0 L
  have hto := v_are_touches C p.touches p.first p.last
  have hgl := v_is_between C p.glide 0 100
  refine retF ?_
  unfold B_is_pass
  unfold encP
  refine_lift' st
  · intro h
    simp at h
  · intro _
    refine_lift' st
    refine_lift' st
    refine_lift' st [hn]
    · intro h
      refine_lift' st
      refine rq_rt ?_
      unfold passOk
      have : (nameOk p.name && !decide (p.name = "old")) = false := by
        simp at h ⊢
        intro e; rcases h with h | h
        · rw [h] at e; cases e
        · exact h
      simp only [this, Bool.false_and]
    · intro h
      have h1 : (nameOk p.name && !decide (p.name = "old")) = true := by
        simp at h ⊢
        exact h
      refine_lift' st
      refine_lift' st [hm, ht]
      · intro h
        refine_lift' st
        refine rq_rt ?_
        unfold passOk
        have : (modes.contains p.mode && tails.contains p.tail) = false := by
          simp at h ⊢
          intro e; rcases h with h | h
          · exact (h e).elim
          · exact h
        rw [h1, Bool.true_and, this]
        simp only [Bool.false_and]
      · intro h
        have h2 : (modes.contains p.mode && tails.contains p.tail) = true := by
          simp at h ⊢
          exact h
        refine_lift' st
        refine_lift' st [hs]
        · intro h
          have h := (Bool.not_eq_true' _).mp h
          refine_lift' st
          refine rq_rt ?_
          unfold passOk
          rw [h1, Bool.true_and, h2, Bool.true_and]
          simp only at h
          rw [h]
          simp only [Bool.false_and]
        · intro h
          have h3 := (Bool.not_eq_false' _).mp h
          refine_lift' st
          refine_lift' st [hto, hgl]
          refine rq_rt ?_
          unfold passOk
          rw [h1, Bool.true_and, h2, Bool.true_and]
          simp only at h3
          rw [h3, Bool.true_and]
          simp only [Bool.and_assoc]
end
end My
set_option exponentiation.threshold 20000
namespace My
open PySem PySem.Spec PyProof.Rows L2 DL
section
variable (C : Addr)
theorem in_strL {x : Str} (hx : PyData.strOk x = true) (ws : List Str) (h : ∀ w ∈ ws, PyData.strOk w = true) : dIn (.str x) (.lst (ws.map .str)) = some (.bl (ws.contains x)) := by
  obtain ⟨a, b⟩ := canLay_strs ws h
  have hs : SeqAt.shaped (.list (toPs (ws.map D.str))) = true := by
    rw [strs_toPs]
    simp [SeqAt.shaped, PyData.canLay0, PyData.depth, a, b]
  have : dInB (.str x) (.lst (ws.map .str)) = some (ws.contains x) := by
    rw [← any_strs, ← strs_toPs]
    exact if_pos ⟨rfl, plains_strs ws, shaped_str hx, hs⟩
  unfold dIn
  rw [this]
  rfl
theorem enumD_map {α : Type} (enc : α → D) : ∀ (xs : List α) (k : Nat), enumD k (xs.map enc) = (xs.zipIdx k).map fun p => .tup [.int p.2, enc p.1]
  | [], _ => rfl
  | x :: xs, k => by
    rw [List.map_cons, enumD, enumD_map enc xs (k + 1), List.zipIdx_cons, List.map_cons]
structure PssOk (L : Int) (ps : List Ps) : Prop where
  sane : ∀ p ∈ ps, p.sane
  ok : ∀ p ∈ ps, passOk L p = true
  nd : (ps.map Ps.name).Nodup
  len : ps.length ≤ 8
theorem v_first_wrong (L : Int) (ps : List Ps) (h : PssOk L ps) : F_first_wrong C [.tup (ps.map encP), .int L] = some .non := by
  refine retF ?_
  unfold B_first_wrong
  refine_lift' st
  refine st_for (α := Ps × Nat) (enc := fun p => .tup [.int p.2, encP p.1]) (xs := ps.zipIdx) (ρ1 := [.dat (.tup (ps.map encP)), .dat (.int L), .own false (.lst []), .no, .no]) ?_ (fun ys ρ => ∃ x y, ρ = [.dat (.tup (ps.map encP)), .dat (.int L), .own false (.lst ((ys.map fun p => p.1.name).map .str)), x, y]) ⟨_, _, rfl⟩ ?_ ?_
  · have : enumT? [.tup (ps.map encP)] = some (ps.zipIdx.map fun p => .tup [.int p.2, encP p.1]) := by rw [← enumD_map]; rfl
    exact e_bd (v := [.tup (ps.map encP)]) rfl (e_l this)
  · rintro ys ⟨p, k⟩ zs ρ e ⟨x, y, rfl⟩
    refine ⟨(), [.dat (.tup (ps.map encP)), .dat (.int L), .own false (.lst ((ys.map fun p => p.1.name).map .str)), .dat (.int k), .dat (encP p)], rfl, ?_⟩
    have hk : (ys.map (·.1)).length = k ∧ ps = ys.map (·.1) ++ p :: zs.map (·.1) := by
      have e1 : ps = (ys ++ (p, k) :: zs).map (·.1) := by rw [← e, List.zipIdx_map_fst]
      rw [List.map_append, List.map_cons] at e1
      refine ⟨?_, e1⟩
      have e2 : List.range' 0 ps.length = (ys ++ (p, k) :: zs).map (·.2) := by rw [← e, List.zipIdx_map_snd]
      have e3 : (List.range' 0 ps.length)[ys.length]? = some k := by
        rw [e2, List.map_append, List.getElem?_append_right (by rw [List.length_map]; exact Nat.le_refl _), List.length_map, Nat.sub_self]
        rfl
      have hy : ys.length < ps.length := by rw [e1]; simp
      rw [List.getElem?_range' hy] at e3
      have e3 := Option.some.inj e3
      rw [List.length_map]; omega
    have hm : p ∈ ps := by rw [hk.2]; simp
    have hkl : k < 8 := by
      have h8 := h.len
      rw [hk.2, List.length_append, hk.1] at h8
      simp at h8
      omega
    have s := h.sane p hm
    have hp := v_is_pass C p s L
    rw [h.ok p hm] at hp
    have hin : dIn (.str p.name) (.lst ((ys.map fun p => p.1.name).map .str)) = some (.bl false) := by
      rw [in_strL s.name]
      · congr 2
        have nd := h.nd
        rw [hk.2, List.map_append, List.map_cons, List.nodup_append] at nd
        have := nd.2.2
        rw [List.contains_eq_mem, decide_eq_false_iff_not]
        intro q
        rw [List.map_map] at this
        exact this p.name q p.name (by simp) rfl
      · intro w hw
        obtain ⟨q, hq, rfl⟩ := List.mem_map.mp hw
        exact (h.sane q.1 (by rw [hk.2]; exact List.mem_append_left _ (List.mem_map.mpr ⟨q, hq, rfl⟩))).name
    have hlen : ((ys.map fun p => p.1.name).map D.str).length < sizeLine := by
      have : ys.length = k := by rw [← hk.1, List.length_map]
      rw [List.length_map, List.length_map, this]
      exact Nat.lt_of_lt_of_le hkl (len_le (by omega))
    have hge : dGe (.int k) (.int 8) = some (.bl false) := by
      show some (D.bl (decide ((8 : Int) ≤ k))) = _
      rw [decide_eq_false (by omega)]
    have hix : dIx (encP p) (.int 0) = some (.str p.name) := rfl
    refine st_one ?_
    refine_lift' st
    refine_lift' st [hge, hp, hix, hin]
    · intro h; cases h
    · intro _
      refine_lift' st
      refine_lift' st [hix, hlen]
      refine_lift' st
      refine ⟨.dat (.int k), .dat (encP p), ?_⟩
      rw [List.map_append, List.map_append]
      rfl
  · rintro ρ ⟨x, y, rfl⟩
    refine_lift' st
    exact rq_rt rfl
def encTr (C : Addr) (L : Int) (ps : List Ps) : D := .ins C ["_length", "_passes"] [.int L, .tup (ps.map encP)]
theorem v_Track_init (L : Int) (ps : List Ps) (h : PssOk L ps) (h1 : 1 ≤ L) (h2 : L ≤ 1000000000000) : F_Track_init C (.ins C [] []) [.int L, .tup (ps.map encP)] = some (.non, encTr C L ps) := by
  have hl := v_is_length C L
  rw [decide_eq_true h1, decide_eq_true h2] at hl
  have hw := v_first_wrong C L ps h
  have : ∃ d e, runO 3 1 (B_Track_init C) (.ins C [] []) [.int L, .tup (ps.map encP)] = some (d, e) ∧ d = .non ∧ e = encTr C L ps := by
    refine retOE ?_
    unfold B_Track_init
    refine_lift' st [hl]
    · intro h; cases h
    · intro _
      refine_lift' st
      refine_lift' st
      · intro h; cases h
      · intro _
        refine_lift' st
        refine_lift' st [hw]
        refine_lift' st
        · intro h; cases h
        · intro _
          refine_lift' st
          refine_lift' st
          refine_lift' st
          refine_lift' st
          exact ro_nx ⟨rfl, rfl⟩
  obtain ⟨d, e, q, rfl, rfl⟩ := this
  exact q
theorem v_Track_length (L : Int) (ps : List Ps) : F_Track_length C [encTr C L ps] = some (.int L) := by
  refine retF ?_
  unfold B_Track_length encTr
  refine_lift' st
  exact rq_rt rfl
theorem v_Track_passes (L : Int) (ps : List Ps) : F_Track_passes C [encTr C L ps] = some (.tup (ps.map encP)) := by
  refine retF ?_
  unfold B_Track_passes encTr
  refine_lift' st
  exact rq_rt rfl
theorem v_check_track (L : Int) (ps : List Ps) : F_check_track C [encTr C L ps] = some .non := by
  refine retF ?_
  unfold B_check_track encTr
  have : dIsCT C [.ins C ["_length", "_passes"] [.int L, .tup (ps.map encP)], .cls C] = some (.bl true) := by
    unfold dIsCT
    simp
  refine_lift' st [this]
  · intro h; cases h
  · intro _
    refine_lift' st
    exact rq_nx rfl
theorem v_check_tick (L t : Int) (ps : List Ps) (h0 : 0 ≤ t) (h1 : t < L) : F_check_tick C [encTr C L ps, .int t] = some .non := by
  have hb := v_is_between C t 0 (L - 1)
  rw [decide_eq_true h0, decide_eq_true (by omega)] at hb
  have hl := v_Track_length C L ps
  refine retF ?_
  unfold B_check_tick
  unfold encTr at hl ⊢
  refine_lift' st [hb, hl]
  · intro h; cases h
  · intro _
    refine_lift' st
    exact rq_nx rfl
end
end My
set_option exponentiation.threshold 20000
namespace My
open PySem PySem.Spec PyProof.Rows L2 DL
abbrev Wt := Int × Int
def encW (w : Wt) : D := .tup [.int w.1, .int w.2]
structure Tm where
  name : Str
  at' : Int
  wt : Wt
def encTm (t : Tm) : D := .tup [.str t.name, .int t.at', encW t.wt]
def gI (a b : Int) : Int := ((Nat.gcd a.natAbs b.natAbs : Nat) : Int)
def lowM (a b : Int) : Wt := (a / gI a b, b / gI a b)
theorem big_bits {i : Int} (h : i.natAbs ≤ 2 ^ 1000) : Builtin.Int.intBits i ≤ 1001 := by
  refine Nat.le_trans (bits_mono (j := 2 ^ 1000) ?_) (by decide +kernel)
  rw [Int.natAbs_pow]; exact h
theorem mul_ok {i j : Int} (h : i.natAbs ≤ 2 ^ 1000) (h' : j.natAbs ≤ 2 ^ 1000) : dMul (.int i) (.int j) = some (.int (i * j)) := by
  have a := big_bits h
  have b := big_bits h'
  exact if_pos (by omega)
theorem gI_pos {a b : Int} (h : 0 < b) : 0 < gI a b := by
  unfold gI
  have : 0 < Nat.gcd a.natAbs b.natAbs := Nat.gcd_pos_of_pos_right _ (by omega)
  omega
theorem gI_le {a b : Int} (h : 0 < b) : gI a b ≤ b := by
  unfold gI
  have : Nat.gcd a.natAbs b.natAbs ≤ b.natAbs := Nat.gcd_le_right _ (by omega)
  omega
theorem div_ok {i j : Int} (h : 0 < j) (h' : j.natAbs ≤ 2 ^ 8000) : dDiv (.int i) (.int j) = some (.int (i / j)) := by
  refine if_pos ⟨h, ?_⟩
  have h0 : j.natAbs ≠ 0 := by omega
  have : j.natAbs.log2 < 8001 := (Nat.log2_lt h0).mpr (Nat.lt_of_le_of_lt h' (Nat.pow_lt_pow_right (by omega) (by omega)))
  omega
theorem gI_dvd (a b : Int) : gI a b ∣ a ∧ gI a b ∣ b := by
  unfold gI
  exact ⟨Int.ofNat_dvd_left.mpr (Nat.gcd_dvd_left _ _), Int.ofNat_dvd_left.mpr (Nat.gcd_dvd_right _ _)⟩
/-- a weight within k glides -/
structure WtOk (k : Nat) (w : Wt) : Prop where
  pos : 0 < w.2
  le : w.2 ≤ 101 ^ k
  num : 0 ≤ w.1
  lt : w.1 ≤ w.2
theorem WtOk.nat {k : Nat} {w : Wt} (h : WtOk k w) (hk : k ≤ 100) : w.1.natAbs ≤ 2 ^ 1000 ∧ w.2.natAbs ≤ 2 ^ 1000 := by
  have h1 : (101 : Int) ^ k ≤ 101 ^ 100 := by
    have : (101 : Nat) ^ k ≤ 101 ^ 100 := Nat.pow_le_pow_right (by omega) hk
    exact_mod_cast this
  have h2 : (101 : Int) ^ 100 ≤ 2 ^ 1000 := by decide +kernel
  have := h.le; have := h.num; have := h.lt; have := h.pos
  have e : ((2 : Nat) ^ 1000 : Nat) = ((2 : Int) ^ 1000).natAbs := by decide +kernel
  constructor
  · rw [e]; omega
  · rw [e]; omega
theorem WtOk.mono {j k : Nat} {w : Wt} (h : WtOk j w) (hk : j ≤ k) : WtOk k w := by
  have : (101 : Nat) ^ j ≤ 101 ^ k := Nat.pow_le_pow_right (by omega) hk
  have h1 : (101 : Int) ^ j ≤ 101 ^ k := by exact_mod_cast this
  exact ⟨h.pos, Int.le_trans h.le h1, h.num, h.lt⟩
theorem lowM_ok {k : Nat} {a b : Int} (h : WtOk k (a, b)) : WtOk k (lowM a b) := by
  have hp := gI_pos (a := a) h.pos
  have h1 : (1 : Int) ≤ gI a b := hp
  obtain ⟨d1, d2⟩ := gI_dvd a b
  have hb : 0 < b := h.pos
  have ha : 0 ≤ a := h.num
  have hab : a ≤ b := h.lt
  refine ⟨?_, ?_, ?_, ?_⟩
  · exact Int.ediv_pos_of_pos_of_dvd hb (by omega) d2
  · exact Int.le_trans (Int.ediv_le_self _ (by omega)) h.le
  · exact Int.ediv_nonneg ha (by omega)
  · exact Int.ediv_le_ediv hp hab
theorem mul_wt {j k : Nat} {v w : Wt} (h : WtOk j v) (h' : WtOk k w) : WtOk (j + k) (v.1 * w.1, v.2 * w.2) := by
  refine ⟨Int.mul_pos h.pos h'.pos, ?_, Int.mul_nonneg h.num h'.num, ?_⟩
  · rw [Int.pow_add]
    exact Int.mul_le_mul h.le h'.le (Int.le_of_lt h'.pos) (Int.le_trans (Int.le_of_lt h.pos) h.le)
  · exact Int.mul_le_mul h.lt h'.lt h'.num (Int.le_of_lt h.pos)
def timesM (v w : Wt) : Wt := lowM (v.1 * w.1) (v.2 * w.2)
section
variable (C : Addr)
theorem v_lowest {k : Nat} {a b : Int} (h : WtOk k (a, b)) (hk : k ≤ 100) : F_lowest C [.int a, .int b] = some (encW (lowM a b)) := by
  have hb := h.pos
  simp only at hb
  have hp := gI_pos (a := a) hb
  have hle := gI_le (a := a) hb
  have hn := (h.nat hk).2
  simp only at hn
  have hs : (gI a b).natAbs ≤ 2 ^ 8000 := Nat.le_trans (by omega) (Nat.le_trans hn (Nat.pow_le_pow_right (by omega) (by omega)))
  have d1 := div_ok (i := a) hp hs
  have d2 := div_ok (i := b) hp hs
  have g : dGcd [.int a, .int b] = some (.int (gI a b)) := rfl
  refine retF ?_
  unfold B_lowest
  refine_lift' st [g]
  refine_lift' st [d1, d2]
  exact rq_rt rfl
theorem v_times {j k : Nat} {v w : Wt} (h : WtOk j v) (h' : WtOk k w) (hk : j + k ≤ 100) : F_times C [encW v, encW w] = some (encW (timesM v w)) := by
  have m1 := mul_ok (h.nat (by omega)).1 (h'.nat (by omega)).1
  have m2 := mul_ok (h.nat (by omega)).2 (h'.nat (by omega)).2
  have hl := v_lowest C (mul_wt h h') hk
  refine retF ?_
  unfold B_times encW
  refine_lift' st [m1, m2, hl]
  exact rq_rt rfl
theorem gcd_step (h l : Nat) (hl : 0 < l) : Nat.gcd l (h % l) = Nat.gcd h l := by
  rw [Nat.gcd_comm h l, Nat.gcd_rec l h, Nat.gcd_comm]
end
end My
set_option exponentiation.threshold 20000
namespace My
open PySem PySem.Spec PyProof.Rows L2 DL
def encOI : Option Int → D
  | none => .non
  | some i => .int i
def endM (p : Ps) (L : Int) : Int := if p.tail = "on" then L else p.last
def lastT (t : Int) : List (Int × Int) → Option Int → Option Int
  | [], f => f
  | p :: r, f => lastT t r (if p.1 ≤ t then some (if p.2 - 1 < t then p.2 - 1 else t) else f)
/-- what a pass writes: hand, share, place, rest -/
structure Wr where
  hand : Option Int
  share : Wt
  place : Int
  rest : Wt
def writtenM (p : Ps) (L t : Int) : Option Wr :=
  if p.first ≤ t ∧ t < endM p L then
    match lastT t p.touches none with
    | none => if p.mode = "write" then some ⟨none, (0, 1), p.first, (1, 1)⟩ else none
    | some h => if p.mode = "write" ∨ p.mode = "latch" then some ⟨some h, (1, 1), t, (0, 1)⟩ else
      if p.glide < t - h then none else some ⟨some h, lowM (p.glide + 1 - (t - h)) (p.glide + 1), t, if p.mode = "trim" then (1, 1) else lowM (t - h) (p.glide + 1)⟩
  else none
def encWr : Option Wr → D
  | none => .non
  | some w => .tup [encOI w.hand, encW w.share, .int w.place, encW w.rest]
abbrev Lf := Int × Wt
def encLf (l : Lf) : D := .tup [.int l.1, encW l.2]
def encOL : Option Lf → D
  | none => .non
  | some l => encLf l
/-- what a pass takes of what is left, and what it leaves -/
def takenM (p : Ps) (L : Int) (l : Lf) : Option Lf × Option Lf := match writtenM p L l.1 with
  | none => (none, some l)
  | some w => (w.hand.map fun h => (h, timesM l.2 w.share), if w.rest = (0, 1) then none else some (w.place, timesM l.2 w.rest))
def formM (L : Int) : List Ps → Lf → List Tm
  | [], l => [⟨"old", l.1, l.2⟩]
  | p :: r, l => ((takenM p L l).1.map fun x => Tm.mk p.name x.1 x.2).toList ++ match (takenM p L l).2 with
    | none => []
    | some l' => formM L r l'
structure WrOk (w : Wr) : Prop where
  share : WtOk 1 w.share
  rest : WtOk 1 w.rest
theorem lastT_le (t : Int) : ∀ (ts : List (Int × Int)) (f : Option Int), (∀ h, f = some h → h ≤ t) → ∀ h, lastT t ts f = some h → h ≤ t
  | [], f, hf, h, e => hf h e
  | p :: r, f, hf, h, e => lastT_le t r _ (fun x hx => by
      split at hx
      · cases hx
        split <;> omega
      · exact hf x hx) h e
theorem wt1 {a b : Int} (h : 0 < b) (h1 : b ≤ 101) (h2 : 0 ≤ a) (h3 : a ≤ b) : WtOk 1 (a, b) := ⟨h, by rw [Int.pow_succ, Int.pow_zero]; simpa using h1, h2, h3⟩
theorem writtenM_ok {p : Ps} {L t : Int} {w : Wr} (hg0 : 0 ≤ p.glide) (hg : p.glide ≤ 100) (h : writtenM p L t = some w) : WrOk w := by
  unfold writtenM at h
  split at h
  · split at h
    · split at h
      · cases h
        exact ⟨wt1 (by omega) (by omega) (by omega) (by omega), wt1 (by omega) (by omega) (by omega) (by omega)⟩
      · cases h
    · rename_i hd e
      have hle := lastT_le t p.touches none (fun _ q => by cases q) hd e
      split at h
      · cases h
        exact ⟨wt1 (by omega) (by omega) (by omega) (by omega), wt1 (by omega) (by omega) (by omega) (by omega)⟩
      · split at h
        · cases h
        · cases h
          refine ⟨lowM_ok (wt1 (by omega) (by omega) (by omega) (by omega)), ?_⟩
          simp only
          split
          · exact wt1 (by omega) (by omega) (by omega) (by omega)
          · exact lowM_ok (wt1 (by omega) (by omega) (by omega) (by omega))
  · cases h
section
variable (C : Addr)
theorem v_end_of (p : Ps) (L : Int) : F_end_of C [encP p, .int L] = some (.int (endM p L)) := by
  refine retF ?_
  unfold B_end_of encP
  refine_lift' st
  refine_lift' st
  refine rq_rt ?_
  unfold endM
  by_cases h : p.tail = "on"
  · simp [h]
  · simp [h]
theorem v_last_touch (ts : List (Int × Int)) (t : Int) : F_last_touch C [.tup (ts.map encT), .int t] = some (encOI (lastT t ts none)) := by
  refine retF ?_
  unfold B_last_touch
  refine_lift' st
  refine st_for (α := Int × Int) (enc := encT) (xs := ts) (ρ1 := [.dat (.tup (ts.map encT)), .dat (.int t), .dat .non, .no, .no]) rfl (fun ys ρ => ∃ f x y, ρ = [.dat (.tup (ts.map encT)), .dat (.int t), .dat (encOI f), x, y] ∧ ∀ zs, lastT t (ys ++ zs) none = lastT t zs f) ⟨none, _, _, rfl, fun _ => rfl⟩ ?_ ?_
  · rintro ys p zs ρ e ⟨f, x, y, rfl, q⟩
    refine ⟨(), [.dat (.tup (ts.map encT)), .dat (.int t), .dat (encOI f), .dat (.int p.1), .dat (.int p.2)], rfl, ?_⟩
    have step : ∀ f', (if p.1 ≤ t then some (if p.2 - 1 < t then p.2 - 1 else t) else f) = f' → ∀ zs, lastT t ((ys ++ [p]) ++ zs) none = lastT t zs f' := fun f' e zs => by
      rw [List.append_assoc, q]
      show lastT t (p :: zs) f = _
      rw [lastT, e]
    have hm : dMin [.int t, .int (p.2 - 1)] = some (.int (if p.2 - 1 < t then p.2 - 1 else t)) := rfl
    refine_lift' st
    · intro h
      refine_lift' st [hm]
      exact ⟨some (if p.2 - 1 < t then p.2 - 1 else t), .dat (.int p.1), .dat (.int p.2), rfl, step _ (if_pos (of_decide_eq_true h))⟩
    · intro h
      refine_lift' st
      exact ⟨f, .dat (.int p.1), .dat (.int p.2), rfl, step _ (if_neg (of_decide_eq_false h))⟩
  · rintro ρ ⟨f, x, y, rfl, q⟩
    refine_lift' st
    refine rq_rt ?_
    have := q []
    rw [List.append_nil] at this
    rw [this]
    rfl
theorem v_written (p : Ps) (L t : Int) (hg0 : 0 ≤ p.glide) (hg : p.glide ≤ 100) : F_written C [encP p, .int L, .int t] = some (encWr (writtenM p L t)) := by
  have he := v_end_of C p L
  have hl := v_last_touch C p.touches t
  refine retF ?_
  unfold B_written
  unfold encP at he ⊢
  refine_lift' st
  refine_lift' st [he]
  · intro h
    refine_lift' st
    refine rq_rt ?_
    unfold writtenM
    rw [if_neg (by simp at h; omega)]
    rfl
  · intro h
    have h1 : p.first ≤ t ∧ t < endM p L := by simp at h; omega
    refine_lift' st
    refine_lift' st [hl]
    unfold writtenM
    rw [if_pos h1]
    have hle := lastT_le t p.touches none (fun _ q => by cases q)
    cases hc : lastT t p.touches none with
    | none =>
      refine_lift' st
      · intro _
        refine_lift' st
        refine rq_rt ?_
        by_cases hm : p.mode = "write"
        · simp only [hm, decide_true, if_true]; rfl
        · simp only [hm, decide_false, if_false]; rfl
      · intro h; cases h
    | some hd =>
      have hle := hle hd hc
      have hx : encOI (some hd) = .int hd := rfl
      simp only [hx]
      refine_lift' st
      · intro h; cases h
      · intro _
        refine_lift' st
        refine_lift' st
        · intro h
          have h2 : p.mode = "write" ∨ p.mode = "latch" := by simpa using h
          rw [if_pos h2]
          refine_lift' st
          exact rq_rt rfl
        · intro h
          have h2 : ¬ (p.mode = "write" ∨ p.mode = "latch") := by simpa using h
          rw [if_neg h2]
          refine_lift' st
          refine_lift' st
          refine_lift' st
          · intro h
            have h3 := of_decide_eq_true h
            rw [if_pos h3]
            refine_lift' st
            exact rq_rt rfl
          · intro h
            have h3 := of_decide_eq_false h
            rw [if_neg h3]
            have w1 : WtOk 1 (p.glide + 1 - (t - hd), p.glide + 1) := wt1 (by omega) (by omega) (by omega) (by omega)
            have w2 : WtOk 1 (t - hd, p.glide + 1) := wt1 (by omega) (by omega) (by omega) (by omega)
            have l1 := v_lowest C w1 (by omega)
            have l2 := v_lowest C w2 (by omega)
            refine_lift' st
            refine_lift' st [l2]
            refine_lift' st [l1]
            refine rq_rt ?_
            by_cases hm : p.mode = "trim"
            · simp only [hm, decide_true, if_true]; rfl
            · simp only [hm, decide_false, if_false]; rfl
end
end My
set_option exponentiation.threshold 20000
namespace My
open PySem PySem.Spec PyProof.Rows L2 DL
theorem eqs_w (v w : Wt) : dEq (encW v) (encW w) = some (.bl (decide (v = w))) := by
  have : eqs (encW v) (encW w) = some (decide (v = w)) := by
    unfold eqs encW
    rw [if_pos (by refine ⟨rfl, rfl, rfl, rfl⟩)]
    obtain ⟨a, b⟩ := v
    obtain ⟨a', b'⟩ := w
    congr 1
    simp only [toP, toPs, PyData.eqv, PyData.eqvAll, Bool.and_true]
    by_cases h1 : a = a' <;> by_cases h2 : b = b' <;> simp [h1, h2]
  show (eqs (encW v) (encW w)).map D.bl = _
  rw [this]; rfl
section
variable (C : Addr)
theorem v_taken_by {k : Nat} (p : Ps) (L t : Int) (w : Wt) (hg0 : 0 ≤ p.glide) (hg : p.glide ≤ 100) (hw : WtOk k w) (hk : k < 100) : F_taken_by C [encP p, .int L, encLf (t, w)] = some (.tup [encOL (takenM p L (t, w)).1, encOL (takenM p L (t, w)).2]) := by
  have hwr := v_written C p L t hg0 hg
  refine retF ?_
  unfold B_taken_by
  unfold encLf
  refine_lift' st
  refine_lift' st [hwr]
  unfold takenM
  cases e : writtenM p L t with
  | none =>
    simp only [e, encWr]
    refine_lift' st
    · intro _
      refine_lift' st
      exact rq_rt rfl
    · intro h; cases h
  | some r =>
    obtain ⟨o1, o2⟩ := writtenM_ok hg0 hg e
    obtain ⟨hd, sh, pl, rs⟩ := r
    have t1 := v_times C hw o1 (by omega)
    have t2 := v_times C hw o2 (by omega)
    have eq2 := eqs_w rs (0, 1)
    simp only [e, encWr] at t1 t2 ⊢
    refine_lift' st
    · intro h; cases h
    · intro _
      refine_lift' st
      refine_lift' st
      cases hd with
      | none =>
        simp only [encOI]
        have m10 : ∀ ρ, mVar 6 ρ = some (D.non, ρ) → mIf (mTst (mOp dIs (mVar 6) (mC .non))) (mC .non) (mTup (aCons (mVar 6) (aCons (mFn (F_times C) (aCons (mVar 4) (aCons (mVar 7) aNil))) aNil))) ρ = some (.non, ρ) := fun ρ h => e_if1 (by refine_lift' ev) rfl
        refine_lift' st [m10 _ (e_var rfl)]
        refine_lift' st [eq2, t2]
        refine rq_rt ?_
        by_cases hr : rs = (0, 1)
        · simp only [hr, decide_true, if_true, Option.map_none]; rfl
        · simp only [hr, decide_false, if_false, Option.map_none]; rfl
      | some hd =>
        simp only [encOI]
        have m10 : ∀ ρ, mVar 6 ρ = some (D.int hd, ρ) → mVar 4 ρ = some (encW w, ρ) → mVar 7 ρ = some (encW sh, ρ) → mIf (mTst (mOp dIs (mVar 6) (mC .non))) (mC .non) (mTup (aCons (mVar 6) (aCons (mFn (F_times C) (aCons (mVar 4) (aCons (mVar 7) aNil))) aNil))) ρ = some (.tup [.int hd, encW (timesM w sh)], ρ) := fun ρ h h4 h7 => e_if0 (e_tst (p := false) (e_op h e_c rfl)) (by refine_lift' ev [t1])
        refine_lift' st [m10 _ (e_var rfl) (e_var rfl) (e_var rfl)]
        refine_lift' st [eq2, t2]
        refine rq_rt ?_
        by_cases hr : rs = (0, 1)
        · simp only [hr, decide_true, if_true, Option.map_some]; rfl
        · simp only [hr, decide_false, if_false, Option.map_some]; rfl
end
theorem takenM_ok {k : Nat} {p : Ps} {L : Int} {l : Lf} (hg0 : 0 ≤ p.glide) (hg : p.glide ≤ 100) (hw : WtOk k l.2) : (∀ x, (takenM p L l).1 = some x → WtOk (k + 1) x.2) ∧ ∀ x, (takenM p L l).2 = some x → WtOk (k + 1) x.2 := by
  unfold takenM
  cases e : writtenM p L l.1 with
  | none => exact ⟨fun x h => (by cases h), fun x h => by cases h; exact hw.mono (by omega)⟩
  | some r =>
    obtain ⟨o1, o2⟩ := writtenM_ok hg0 hg e
    refine ⟨fun x h => ?_, fun x h => ?_⟩
    · obtain ⟨h', _, rfl⟩ := Option.map_eq_some_iff.mp h
      exact lowM_ok (mul_wt hw o1)
    · simp only at h
      split at h
      · cases h
      · cases h
        exact lowM_ok (mul_wt hw o2)
end My
set_option exponentiation.threshold 20000
namespace My
open PySem PySem.Spec PyProof.Rows L2 DL
def sortT (ts : List Tm) : List D := (ts.map encTm).mergeSort leD
theorem tm_alike (a b : Tm) : PySem.W.alike (toP (encTm a)) (toP (encTm b)) = true := by
  simp [encTm, encW, toP, toPs, PySem.W.alike, PySem.W.alikeAll]
theorem leD_total : PySem.W.TotalLe leD := PySem.W.sortLe_total _ _ _
theorem leD_tm {a b : Tm} (h : a.name ≠ b.name) : leD (encTm a) (encTm b) = !decide (b.name.cps.toList < a.name.cps.toList) := by
  show (!PySem.W.dataLt (toP (encTm b)) (toP (encTm a))) = _
  have e : PySem.W.dataLt (toP (encTm b)) (toP (encTm a)) = decide (b.name.cps.toList < a.name.cps.toList) := by
    simp only [encTm, toP, toPs]
    rw [PySem.W.dataLt_tuple, PySem.W.dataLt_cons (by simp [PySem.W.alike]), PySem.W.dataLt_str]
    have : PyData.eqv (.str b.name) (.str a.name) = false := by
      simp only [PyData.eqv]
      exact beq_eq_false_iff_ne.mpr fun q => h q.symm
    rw [this]
    rfl
  rw [e]
theorem leD_anti {a b : Tm} (h : a.name ≠ b.name) : ¬ (leD (encTm a) (encTm b) = true ∧ leD (encTm b) (encTm a) = true) := by
  rintro ⟨h1, h2⟩
  rw [leD_tm h] at h1
  rw [leD_tm (Ne.symm h)] at h2
  have h1 : ¬ b.name.cps.toList < a.name.cps.toList := by simpa using h1
  have h2 : ¬ a.name.cps.toList < b.name.cps.toList := by simpa using h2
  exact h (PySem.W.str_of_cps (List.le_antisymm (List.not_lt.mp h1) (List.not_lt.mp h2)))
theorem sortT_perm {ts us : List Tm} (h : ts.Perm us) (nd : (ts.map Tm.name).Nodup) : sortT ts = sortT us := by
  unfold sortT
  refine List.Perm.eq_of_pairwise (le := fun a b => leD a b = true) ?_ (PySem.W.sort_pairwise leD_total _) (PySem.W.sort_pairwise leD_total _) ?_
  · intro x y hx hy h1 h2
    obtain ⟨a, ha, rfl⟩ := List.mem_map.mp (List.mem_mergeSort.mp hx)
    obtain ⟨b, hb, rfl⟩ := List.mem_map.mp (List.mem_mergeSort.mp hy)
    have hb := h.mem_iff.mpr hb
    by_cases e : a.name = b.name
    · have : a = b := by
        clear h hx hy h1 h2
        induction ts with
        | nil => cases ha
        | cons t ts ih =>
          rw [List.map_cons, List.nodup_cons] at nd
          rcases List.mem_cons.mp ha with p | p <;> rcases List.mem_cons.mp hb with q | q
          · rw [p, q]
          · exact (nd.1 (by rw [← p, e]; exact List.mem_map.mpr ⟨b, q, rfl⟩)).elim
          · exact (nd.1 (by rw [← q, ← e]; exact List.mem_map.mpr ⟨a, p, rfl⟩)).elim
          · exact ih nd.2 p q
      rw [this]
    · exact (leD_anti e ⟨h1, h2⟩).elim
  · exact (List.mergeSort_perm _ _).trans ((h.map encTm).trans (List.mergeSort_perm _ _).symm)
theorem plains_map {α : Type} (f : α → D) (h : ∀ a, DL.plain (f a) = true) : ∀ xs : List α, plains (xs.map f) = true
  | [] => rfl
  | x :: xs => by simp only [List.map_cons, plains, h x, plains_map f h xs, Bool.and_self]
theorem sorted_tms (ts : List Tm) (h : ts.length ≤ sizeLine) : dSorted [.lst (ts.map encTm)] = some (.lst (sortT ts)) := by
  refine if_pos ⟨plains_map _ (fun a => rfl) ts, ?_, ?_, ?_, by rw [List.length_map]; exact h⟩
  · rw [toPs_map, List.map_map]
    refine List.all_eq_true.mpr fun x hx => List.all_eq_true.mpr fun y hy => ?_
    obtain ⟨a, _, rfl⟩ := List.mem_map.mp hx
    obtain ⟨b, _, rfl⟩ := List.mem_map.mp hy
    exact tm_alike a b
  · rw [toPs_map, List.map_map]
    unfold sortable
    rw [Bool.or_eq_true]
    refine .inl (List.all_eq_true.mpr fun x hx => ?_)
    obtain ⟨a, _, rfl⟩ := List.mem_map.mp hx
    simp [encTm, toP, toPs, hasHead]
  · rw [toPs_map, List.map_map]
    refine List.all_eq_true.mpr fun x hx => ?_
    obtain ⟨a, _, rfl⟩ := List.mem_map.mp hx
    simp [encTm, encW, toP, toPs, PyData.depth, PyData.depthAll]
section
variable (C : Addr)
theorem wt_one : WtOk 0 (1, 1) := ⟨by decide, by decide, by decide, by decide⟩
theorem passOk_glide {L : Int} {p : Ps} (h : passOk L p = true) : 0 ≤ p.glide ∧ p.glide ≤ 100 := by
  unfold passOk at h
  simp only [Bool.and_eq_true, decide_eq_true_eq] at h
  exact ⟨h.1.2, h.2⟩
theorem v_form_of {L t : Int} {ps : List Ps} (h : PssOk L ps) : F_form_of C [.tup (ps.map encP), .int L, .int t] = some (.tup (sortT (formM L ps.reverse (t, (1, 1))))) := by
  refine retF ?_
  unfold B_form_of
  refine_lift' st
  refine_lift' st
  refine st_for (α := Ps) (enc := encP) (xs := ps.reverse) (ρ1 := [.dat (.tup (ps.map encP)), .dat (.int L), .dat (.int t), .own false (.lst []), .dat (encLf (t, (1, 1))), .no, .no]) ?_ (fun ys ρ => ∃ (acc : List Tm) (l : Lf) (x y : Cell), ρ = [.dat (.tup (ps.map encP)), .dat (.int L), .dat (.int t), .own false (.lst (acc.map encTm)), .dat (encLf l), x, y] ∧ acc.length ≤ ys.length ∧ WtOk ys.length l.2 ∧ ∀ zs, formM L (ys ++ zs) (t, (1, 1)) = acc ++ formM L zs l) ⟨[], (t, (1, 1)), _, _, rfl, Nat.le_refl _, wt_one, fun _ => rfl⟩ ?_ ?_
  · have : seqT (.tup (ps.map encP).reverse) = some (ps.reverse.map encP) := by rw [List.map_reverse]; rfl
    exact e_bd (e_un (x := .tup (ps.map encP)) (z := .tup (ps.map encP).reverse) rfl rfl) (e_l this)
  · rintro ys p zs ρ e ⟨acc, ⟨lt, lw⟩, x, y, rfl, ha, hw, q⟩
    have hmem : p ∈ ps := List.mem_reverse.mp (by rw [e]; simp)
    obtain ⟨hg0, hg⟩ := passOk_glide (h.ok p hmem)
    have hyl : ys.length + 1 ≤ 8 := by
      have := h.len
      rw [← List.length_reverse, e] at this
      simp at this; omega
    have ht := v_taken_by C p L lt lw hg0 hg hw (by omega)
    have hok := takenM_ok (L := L) (l := (lt, lw)) hg0 hg hw
    have hix : dIx (encP p) (.int 0) = some (.str p.name) := rfl
    have step : ∀ zs', formM L ((ys ++ [p]) ++ zs') (t, (1, 1)) = acc ++ formM L (p :: zs') (lt, lw) := fun zs' => by rw [List.append_assoc]; exact q _
    have hfull : formM L ps.reverse (t, (1, 1)) = acc ++ formM L (p :: zs) (lt, lw) := by rw [e]; exact q _
    refine ⟨(), [.dat (.tup (ps.map encP)), .dat (.int L), .dat (.int t), .own false (.lst (acc.map encTm)), .dat (encLf (lt, lw)), .dat (encP p), y], rfl, ?_⟩
    have hl1 : (acc.map encTm).length < sizeLine := by rw [List.length_map]; exact Nat.lt_of_lt_of_le (by omega : acc.length < 100) (len_le (by omega))
    have ets : ∀ tk : Option Lf, (takenM p L (lt, lw)).1 = tk → acc.map encTm ++ (tk.map fun x => encTm ⟨p.name, x.1, x.2⟩).toList = (acc ++ (tk.map fun x => Tm.mk p.name x.1 x.2).toList).map encTm := fun tk _ => by
      cases tk <;> simp
    -- behind the pass: what is left, or the end
    have tail : ∀ (acc' : List Tm) (c6 : Cell), acc' = acc ++ ((takenM p L (lt, lw)).1.map fun x => Tm.mk p.name x.1 x.2).toList → BodyQ (fun ρ => ∃ (acc : List Tm) (l : Lf) (x y : Cell), ρ = [.dat (.tup (ps.map encP)), .dat (.int L), .dat (.int t), .own false (.lst (acc.map encTm)), .dat (encLf l), x, y] ∧ acc.length ≤ (ys ++ [p]).length ∧ WtOk (ys ++ [p]).length l.2 ∧ ∀ zs, formM L ((ys ++ [p]) ++ zs) (t, (1, 1)) = acc ++ formM L zs l) (fun ρ' => RetQ (fun r => r = .tup (sortT (formM L ps.reverse (t, (1, 1))))) ((sSeq (sAppV 3 (mTup (aCons (mC (.str "old")) (aStar (mVar 4) aNil)))) (sRet (mFn dTuple (aCons (mFn dSorted (aCons (mVar 3) aNil)) aNil)))) ρ')) (RetQ (fun r => r = .tup (sortT (formM L ps.reverse (t, (1, 1)))))) (sSeq (sIf (mTst (mOp dIs (mVar 4) (mC .non))) (sRet (mFn dTuple (aCons (mFn dSorted (aCons (mVar 3) aNil)) aNil))) sNx) sNx [.dat (.tup (ps.map encP)), .dat (.int L), .dat (.int t), .own false (.lst (acc'.map encTm)), .dat (encOL (takenM p L (lt, lw)).2), .dat (encP p), c6]) := by
      intro acc' c6 ea
      have hal : acc'.length ≤ ys.length + 1 := by
        rw [ea, List.length_append]
        cases (takenM p L (lt, lw)).1 <;> simp <;> omega
      cases e2 : (takenM p L (lt, lw)).2 with
      | none =>
        have hs := sorted_tms acc' (Nat.le_trans (by omega : acc'.length ≤ 1000) (len_le (Nat.le_refl _)))
        have hf : formM L ps.reverse (t, (1, 1)) = acc' := by
          rw [hfull, ea, formM, e2]
          simp
        refine_lift' st
        · intro _
          have h3 : ∀ ρ : Cs, mVar 3 ρ = some (.lst (acc'.map encTm), ρ.set 3 (.dat (.lst (acc'.map encTm)))) → mFn dTuple (aCons (mFn dSorted (aCons (mVar 3) aNil)) aNil) ρ = some (.tup (sortT acc'), ρ.set 3 (.dat (.lst (acc'.map encTm)))) := fun ρ h => e_fn (e_acons (e_fn (e_acons h e_anil) hs) e_anil) rfl
          refine_lift' st [h3 _ (e_varO rfl)]
          exact rq_rt (by rw [hf])
        · intro h; cases h
      | some l' =>
        have hw' := hok.2 l' e2
        refine_lift' st
        · intro h; cases h
        · intro _
          refine_lift' st
          refine ⟨acc', l', _, _, rfl, by simpa using hal, by simpa using hw', fun zs' => ?_⟩
          rw [step, formM, e2, ea]
          simp
    refine st_one ?_
    refine_lift' st
    refine_lift' st [ht]
    cases e1 : (takenM p L (lt, lw)).1 with
    | none =>
      refine_lift' st
      refine_lift' st
      · intro h; cases h
      · intro _
        refine_lift' st
        exact tail acc _ (by rw [e1]; simp)
    | some tk =>
      refine_lift' st
      refine_lift' st
      · intro _
        refine_lift' st [hix, hl1]
        have := tail (acc ++ [⟨p.name, tk.1, tk.2⟩]) (.dat (encOL (some tk))) (by rw [e1]; simp)
        rw [List.map_append] at this
        exact this
      · intro h; cases h
  · rintro ρ ⟨acc, ⟨lt, lw⟩, x, y, rfl, ha, hw, q⟩
    have hal : acc.length ≤ 8 := by
      have := h.len
      rw [List.length_reverse] at ha
      omega
    have hl1 : (acc.map encTm).length < sizeLine := by rw [List.length_map]; exact Nat.lt_of_lt_of_le (by omega : acc.length < 100) (len_le (by omega))
    unfold encLf
    refine_lift' st [hl1]
    have q := q []
    rw [List.append_nil] at q
    have e : acc.map encTm ++ [.tup ([.str "old"] ++ [.int lt, encW lw])] = (formM L ps.reverse (t, (1, 1))).map encTm := by
      rw [q, List.map_append]
      rfl
    have hs := sorted_tms (formM L ps.reverse (t, (1, 1))) (by rw [q]; exact len_le (by simp [formM]; omega))
    rw [← e] at hs
    have h3 : ∀ ρ : Cs, mVar 3 ρ = some (.lst (acc.map encTm ++ [.tup ([.str "old"] ++ [.int lt, encW lw])]), ρ.set 3 (.dat (.lst (acc.map encTm ++ [.tup ([.str "old"] ++ [.int lt, encW lw])])))) → mFn dTuple (aCons (mFn dSorted (aCons (mVar 3) aNil)) aNil) ρ = some (.tup (sortT (formM L ps.reverse (t, (1, 1)))), ρ.set 3 (.dat (.lst (acc.map encTm ++ [.tup ([.str "old"] ++ [.int lt, encW lw])])))) := fun ρ h => e_fn (e_acons (e_fn (e_acons h e_anil) hs) e_anil) rfl
    refine_lift' st [h3 _ (e_varO rfl)]
    exact rq_rt rfl
end
end My
set_option exponentiation.threshold 20000
namespace My
open PySem PySem.Spec PyProof.Rows L2 DL
section
variable (C : Addr)
/-- the form of a track -/
def formD (L : Int) (ps : List Ps) (t : Int) : D := .tup (sortT (formM L ps.reverse (t, (1, 1))))
theorem v_form {L t : Int} {ps : List Ps} (h : PssOk L ps) (h0 : 0 ≤ t) (h1 : t < L) : F_form C [encTr C L ps, .int t] = some (formD L ps t) := by
  have a := v_check_track C L ps
  have b := v_check_tick C L t ps h0 h1
  have c := v_Track_passes C L ps
  have d := v_Track_length C L ps
  have e := v_form_of C h (t := t)
  refine retF ?_
  unfold B_form
  unfold encTr at *
  refine_lift' st [a]
  refine_lift' st [b]
  refine_lift' st [c, d, e]
  exact rq_rt rfl
end
end My
set_option exponentiation.threshold 20000
namespace My
open PySem PySem.Spec PyProof.Rows L2 DL
structure Pur where
  d : Int
  s : Int
  c : Int
def encPu (u : Pur) : D := .lst [.int u.d, .int u.s, .int u.c]
structure PurOk (m : Nat) (u : Pur) : Prop where
  bits : Builtin.Int.intBits u.d ≤ 1048576
  s0 : 0 ≤ u.s
  s1 : u.s < 2147483648
  c0 : 0 ≤ u.c
  c1 : u.c + (m : Int) ≤ 1000000000
theorem PurOk.mono {m n : Nat} {u : Pur} (h : PurOk m u) (k : n ≤ m) : PurOk n u := ⟨h.bits, h.s0, h.s1, h.c0, by have := h.c1; omega⟩
theorem mul_bits {i j : Int} (h : Builtin.Int.intBits i ≤ 10000000) (h' : Builtin.Int.intBits j ≤ 10000000) : dMul (.int i) (.int j) = some (.int (i * j)) := if_pos (by omega)
theorem mod_ok {i j : Int} (h : 0 < j) : dMod (.int i) (.int j) = some (.int (i % j)) := if_pos h
theorem divmod_ok {i j : Int} (h : 0 < j) (h' : j < 1073741824073741824) : dDivmod [.int i, .int j] = some (.tup [.int (i / j), .int (i % j)]) := by
  refine if_pos ⟨h, ?_⟩
  have h0 : j.natAbs ≠ 0 := by omega
  have : j.natAbs.log2 < 60 := (Nat.log2_lt h0).mpr (by omega)
  omega
section
variable (C : Addr)
theorem v_law_draw {m : Nat} {u : Pur} (hu : PurOk (m + 1) u) {n : Int} (h0 : 0 < n) (h1 : n < 1073741824073741824) : ∃ (i : Int) (u' : Pur), F_law_draw C (encPu u) [.int n] = some (.int i, encPu u') ∧ 0 ≤ i ∧ i < n ∧ PurOk m u' := by
  obtain ⟨d, s, c⟩ := u
  obtain ⟨b, s0, s1, c0, c1⟩ := hu
  simp only at b s0 s1 c0 c1
  have e1 := mod_ok (i := s) (j := 40009) (by decide)
  have q1 : 0 ≤ s % 40009 ∧ s % 40009 < 40009 := ⟨Int.emod_nonneg _ (by decide), Int.emod_lt_of_pos _ (by decide)⟩
  have c31 : (2 : Nat) ^ 31 ≤ 2 ^ 1000 := by decide +kernel
  have e2 : dMul (.int s) (.int (s % 40009 + 20021)) = some (.int (s * (s % 40009 + 20021))) := mul_ok (Nat.le_trans (by omega) c31) (Nat.le_trans (by omega) c31)
  have e3 : dMul (.int 60013) (.int (c + 1)) = some (.int (60013 * (c + 1))) := mul_ok (Nat.le_trans (by omega) c31) (Nat.le_trans (by omega) c31)
  have e4 := mod_ok (i := s * (s % 40009 + 20021) + 60013 * (c + 1) + 11) (j := 2147483629) (by decide)
  have q4 : 0 ≤ (s * (s % 40009 + 20021) + 60013 * (c + 1) + 11) % 2147483629 ∧ (s * (s % 40009 + 20021) + 60013 * (c + 1) + 11) % 2147483629 < 2147483629 := ⟨Int.emod_nonneg _ (by decide), Int.emod_lt_of_pos _ (by decide)⟩
  generalize hS : (s * (s % 40009 + 20021) + 60013 * (c + 1) + 11) % 2147483629 = S at e4 q4
  have e5 := divmod_ok (i := d) h0 h1
  have e6 : dDiv (.int S) (.int 89) = some (.int (S / 89)) := div_ok (by decide) (Nat.le_trans (by decide : (89 : Int).natAbs ≤ 2 ^ 31) (Nat.pow_le_pow_right (by decide) (by decide)))
  have e7 := mod_ok (i := S / 89) h0
  have i1 : ∀ i : Int, dInt [.int i] = some (.int i) := fun i => rfl
  have : ∃ r u', runO 2 3 (B_law_draw C) (encPu ⟨d, s, c⟩) [.int n] = some (r, u') ∧ ∃ (i : Int) (v : Pur), r = .int i ∧ u' = encPu v ∧ 0 ≤ i ∧ i < n ∧ PurOk m v := by
    refine retOE ?_
    unfold B_law_draw encPu
    refine_lift' st [e1, i1 _]
    refine_lift' st
    refine_lift' st [e2, e3, e4, i1 _]
    refine_lift' st
    · intro h
      have hd : 0 < d := of_decide_eq_true h
      refine_lift' st
      refine_lift' st [e5]
      refine_lift' st
      exact ro_rt ⟨d % n, ⟨d / n, S, c + 1⟩, rfl, rfl, Int.emod_nonneg _ (by omega), Int.emod_lt_of_pos _ h0, Nat.le_trans (bits_div (by omega) h0) b, by simp only; omega, by simp only; omega, by simp only; omega, by simp only; omega⟩
    · intro h
      refine_lift' st
      refine_lift' st [e6, e7, i1 _]
      exact ro_rt ⟨S / 89 % n, ⟨d, S, c + 1⟩, rfl, rfl, Int.emod_nonneg _ (by omega), Int.emod_lt_of_pos _ h0, b, by simp only; omega, by simp only; omega, by simp only; omega, by simp only; omega⟩
  obtain ⟨r, u', e, i, v, rfl, rfl, h⟩ := this
  exact ⟨i, v, e, h⟩
theorem v_law_pick {m : Nat} {u : Pur} (hu : PurOk (m + 1) u) {ds : List D} (h0 : 0 < ds.length) (h1 : ds.length ≤ 1000) : ∃ (x : D) (u' : Pur), F_law_pick C (encPu u) [.lst ds] = some (x, encPu u') ∧ x ∈ ds ∧ PurOk m u' := by
  obtain ⟨i, u1, e, i0, i1, hu1⟩ := v_law_draw C hu (n := ds.length) (by omega) (by omega)
  obtain ⟨j, rfl⟩ : ∃ j : Nat, i = j := ⟨i.toNat, by omega⟩
  have hj : j < ds.length := by omega
  have hix : dIx (.lst ds) (.int j) = some ds[j] := atI_nat (by rw [List.getElem?_eq_getElem hj])
  have : ∃ r u', runO 2 0 (B_law_pick C) (encPu u) [.lst ds] = some (r, u') ∧ r = ds[j] ∧ u' = encPu u1 := by
    refine retOE ?_
    unfold B_law_pick
    refine_lift' st [e, hix]
    exact ro_rt ⟨rfl, rfl⟩
  obtain ⟨r, u', e', rfl, rfl⟩ := this
  exact ⟨_, u1, e', List.getElem_mem hj, hu1⟩
theorem cut4 (ns : List Int) : dSl (.scr ns) none (some 4) = some (.lst ((ns.take 4).map .int)) := by
  have : DL.cutD ns none (some ((4 : Nat) : Int)) = ns.take 4 := by
    unfold DL.cutD
    rw [HT.sIx_none, HT.sIx_nat, List.drop_zero, Nat.sub_zero]
    by_cases h : 4 ≤ ns.length
    · rw [Nat.min_eq_left h]
    · rw [Nat.min_eq_right (by omega), List.take_length, List.take_of_length_le (by omega)]
  show some (D.lst ((DL.cutD ns none (some ((4 : Nat) : Int))).map .int)) = _
  rw [this]
theorem v_law_purse {ns : List Int} (hb : ∀ z ∈ ns, Builtin.Int.intBits z ≤ 1048576) {k : Nat} (hk : k ≤ 100) : ∃ u : Pur, F_law_purse C [.scr ns, .int k] = some (encPu u) ∧ PurOk 1000000000 u := by
  have c31 : (2 : Nat) ^ 40 ≤ 2 ^ 1000 := by decide +kernel
  have i1 : ∀ i : Int, dInt [.int i] = some (.int i) := fun i => rfl
  have : ∃ d, F_law_purse C [.scr ns, .int k] = some d ∧ ∃ u : Pur, d = encPu u ∧ PurOk 1000000000 u := by
    refine retNE ?_
    unfold B_law_purse
    refine_lift' st
    · intro h
      have lk : k < ns.length := by
        have := of_decide_eq_true h
        omega
      have hc := hb _ (List.getElem_mem lk)
      have hix : dIx (.scr ns) (.int k) = some (.int ns[k]) := by
        show (atI ns k).map D.int = _
        rw [atI_nat (j := k) (by rw [List.getElem?_eq_getElem lk])]
        rfl
      generalize ns[k] = cell at hc hix
      have e1 : dMul (.int cell) (.int 39373) = some (.int (cell * 39373)) := mul_bits (Nat.le_trans hc (by decide)) (by decide)
      have e2 : dMul (.int 104723) (.int k) = some (.int (104723 * (k : Int))) := mul_ok (Nat.le_trans (by decide) c31) (Nat.le_trans (by omega) c31)
      have e3 := mod_ok (i := cell * 39373 + 104723 * (k : Int) + 17) (j := 2147483629) (by decide)
      have q3 : 0 ≤ (cell * 39373 + 104723 * (k : Int) + 17) % 2147483629 ∧ (cell * 39373 + 104723 * (k : Int) + 17) % 2147483629 < 2147483629 := ⟨Int.emod_nonneg _ (by decide), Int.emod_lt_of_pos _ (by decide)⟩
      have ab : dAbs [.int cell] = some (.int (if cell < 0 then -cell else cell)) := rfl
      have p18 : dPow (.int 10) (.int 18) = some (.int 1000000000000000000) := by
        have e : ((10 : Int) ^ (18 : Int).toNat) = 1000000000000000000 := by decide +kernel
        rw [← e]
        exact if_pos (e := none) (show (0 : Int) ≤ 18 ∧ (18 : Int) ≤ 1000000 ∧ (10 : Int).natAbs < 2 ^ 64 by decide +kernel)
      generalize hS : (cell * 39373 + 104723 * (k : Int) + 17) % 2147483629 = S at e3 q3
      refine_lift' st
      refine_lift' st [hix]
      have m3 : ∀ ρ : Cs, mVar 2 ρ = some (.int cell, ρ) → ∃ d : Int, mIf (mOr (mTst (mOp dLt (mVar 2) (mC (.int 0)))) (mTst (mOp dGe (mVar 2) (mOp dPow (mC (.int 10)) (mC (.int 18)))))) (mFn dAbs (aCons (mVar 2) aNil)) (mC (.int 0)) ρ = some (.int d, ρ) ∧ Builtin.Int.intBits d ≤ 1048576 := by
        intro ρ h
        cases hq : (decide (cell < 0) || decide ((1000000000000000000 : Int) ≤ cell)) with
        | true =>
          refine ⟨if cell < 0 then -cell else cell, e_if1 (by rw [← hq]; refine_lift' ev [p18]) (by refine_lift' ev), Nat.le_trans (bits_mono ?_) hc⟩
          split <;> omega
        | false => exact ⟨0, e_if0 (by rw [← hq]; refine_lift' ev [p18]) rfl, by decide⟩
      obtain ⟨d, hd, bd⟩ := m3 [.dat (.scr ns), .dat (.int k), .dat (.int cell), .no, .no] rfl
      refine_lift' st
      refine st_set (ρ := [.dat (.scr ns), .dat (.int k), .dat (.int cell), .no, .no]) hd ?_
      refine_lift' st [e1, e2, e3, i1 _]
      exact rn_rn ⟨⟨d, S, 0⟩, rfl, bd, by simp only; omega, by simp only; omega, by simp only; omega, by simp only; omega⟩
    · intro _
      have e1 : dMul (.int 86243) (.int k) = some (.int (86243 * (k : Int))) := mul_ok (Nat.le_trans (by decide) c31) (Nat.le_trans (by omega) c31)
      have hc4 := cut4 ns
      refine_lift' st
      refine_lift' st [e1]
      refine st_for (α := Int) (enc := D.int) (xs := ns.take 4) (ρ1 := [.dat (.scr ns), .dat (.int k), .no, .no, .dat (.int (86243 * (k : Int) + 131))]) ?_ (fun ys ρ => ∃ (y : Cell) (s : Int), ρ = [.dat (.scr ns), .dat (.int k), y, .no, .dat (.int s)] ∧ 0 ≤ s ∧ s < 2147483648) ⟨_, _, rfl, by omega, by omega⟩ ?_ ?_
      · have h1 : mSl dSl (mVar 0) mNo (mPart (mC (.int 4))) [.dat (.scr ns), .dat (.int k), .no, .no, .dat (.int (86243 * (k : Int) + 131))] = some (.lst ((ns.take 4).map .int), [.dat (.scr ns), .dat (.int k), .no, .no, .dat (.int (86243 * (k : Int) + 131))]) := by refine_lift' ev [hc4]
        exact e_bd h1 (e_l rfl)
      · rintro ys x zs ρ e ⟨y, s, rfl, s0, s1⟩
        have e2 : dMul (.int s) (.int 48271) = some (.int (s * 48271)) := mul_ok (Nat.le_trans (by omega) c31) (Nat.le_trans (by decide) c31)
        have e3 := mod_ok (i := s * 48271 + x) (j := 2147483587) (by decide)
        have q3 : 0 ≤ (s * 48271 + x) % 2147483587 ∧ (s * 48271 + x) % 2147483587 < 2147483587 := ⟨Int.emod_nonneg _ (by decide), Int.emod_lt_of_pos _ (by decide)⟩
        refine ⟨(), [.dat (.scr ns), .dat (.int k), .dat (.int x), .no, .dat (.int s)], rfl, ?_⟩
        refine_lift' st [e2, e3, i1 _]
        refine_lift' st
        exact ⟨.dat (.int x), _, rfl, q3.1, by omega⟩
      · rintro ρ ⟨y, s, rfl, s0, s1⟩
        refine_lift' st
        exact rn_rn ⟨⟨0, s, 0⟩, rfl, by show Builtin.Int.intBits 0 ≤ 1048576; decide, s0, s1, by show (0 : Int) ≤ 0; decide, by show (0 : Int) + 1000000000 ≤ 1000000000; decide⟩
  obtain ⟨d, e, u, rfl, h⟩ := this
  exact ⟨u, e, h⟩
end
end My
set_option exponentiation.threshold 20000
namespace My
open PySem PySem.Spec PyProof.Rows L2 DL
structure Gd (n : Nat) (d : D) : Prop where
  p : DL.plain d = true
  l : (toP d).canLay0 = true
  dp : (toP d).depth ≤ n
  e : PyData.eqv (toP d) (toP d) = true
theorem gd_int (n : Nat) (i : Int) : Gd n (.int i) := ⟨rfl, by simp [toP, PyData.canLay0], by simp [toP, PyData.depth], by simp [toP, PyData.eqv]⟩
theorem gds {n : Nat} : ∀ {ds : List D}, (∀ d ∈ ds, Gd n d) → plains ds = true ∧ PyData.canLayAll0 (toPs ds) = true ∧ PyData.depthAll (toPs ds) ≤ n ∧ PyData.eqvAll (toPs ds) (toPs ds) = true
  | [], _ => by simp [plains, toPs, PyData.canLayAll0, PyData.depthAll, PyData.eqvAll]
  | d :: ds, h => by
    obtain ⟨a, b, c, e⟩ := gds fun x hx => h x (List.mem_cons_of_mem _ hx)
    have g := h d List.mem_cons_self
    refine ⟨by simp only [plains, g.p, a, Bool.and_self], by simp only [toPs, PyData.canLayAll0, g.l, b, Bool.and_self], ?_, by simp only [toPs, PyData.eqvAll, g.e, e, Bool.and_self]⟩
    simp only [toPs, PyData.depthAll]
    exact Nat.max_le.mpr ⟨g.dp, c⟩
theorem gd_tup {n : Nat} {ds : List D} (h : ∀ d ∈ ds, Gd n d) : Gd (n + 1) (.tup ds) := by
  obtain ⟨a, b, c, e⟩ := gds h
  exact ⟨by simpa [DL.plain] using a, by simpa [toP, PyData.canLay0] using b, by simp only [toP, PyData.depth]; omega, by simpa [toP, PyData.eqv] using e⟩
theorem gd_lst {n : Nat} {ds : List D} (h : ∀ d ∈ ds, Gd n d) : Gd (n + 1) (.lst ds) := by
  obtain ⟨a, b, c, e⟩ := gds h
  exact ⟨by simpa [DL.plain] using a, by simpa [toP, PyData.canLay0] using b, by simp only [toP, PyData.depth]; omega, by simpa [toP, PyData.eqv] using e⟩
theorem eqs_same {n : Nat} {d : D} (h : Gd n d) (hn : n ≤ 64) : eqs d d = some true := by
  unfold eqs
  have s : SeqAt.shaped (toP d) = true := by
    unfold SeqAt.shaped
    rw [h.l, decide_eq_true (Nat.le_trans h.dp hn)]
    rfl
  rw [if_pos ⟨h.p, h.p, s, s⟩, h.e]
theorem ne_lst {n : Nat} {ds : List D} (h : Gd n (.lst ds)) (hn : n ≤ 64) : dNe (.lst ds) (.lst ds) = some (.bl false) := by
  show (eqs _ _).map _ = _
  rw [eqs_same h hn]; rfl
theorem gd_w (w : Wt) : Gd 1 (encW w) := gd_tup (n := 0) fun d hd => by
  simp at hd
  rcases hd with rfl | rfl
  · exact gd_int _ _
  · exact gd_int _ _
end My
set_option exponentiation.threshold 20000
namespace My
open PySem PySem.Spec PyProof.Rows L2 DL
def ofQ (q : Rat) : Wt := (q.num, (q.den : Int))
def toQ (w : Wt) : Rat := (w.1 : Rat) / (w.2 : Rat)
theorem lowM_ofQ {a b : Int} (h : 0 < b) : lowM a b = ofQ ((a : Rat) / (b : Rat)) := by
  unfold ofQ lowM
  rw [← Rat.divInt_eq_div, Rat.num_divInt, Rat.den_divInt]
  have e : gI a b = (Int.gcd b a : Nat) := by unfold gI; rw [Int.gcd, Nat.gcd_comm]
  rw [Int.sign_eq_one_of_pos h, Int.one_mul, if_neg (by omega), e]
  congr 1
  have : b = (b.natAbs : Int) := by omega
  rw [this]
  simp
theorem toQ_ofQ (q : Rat) : toQ (ofQ q) = q := by
  unfold toQ ofQ
  simp only
  rw [← Rat.divInt_eq_div]
  exact Rat.num_divInt_den q
theorem ofQ_inj {p q : Rat} (h : ofQ p = ofQ q) : p = q := by rw [← toQ_ofQ p, h, toQ_ofQ]
theorem lowM_toQ {w : Wt} (h : 0 < w.2) : lowM w.1 w.2 = ofQ (toQ w) := lowM_ofQ h
theorem ofQ_pos (q : Rat) : 0 < (ofQ q).2 := by
  have := q.den_pos
  unfold ofQ; simp only; omega
theorem timesM_ofQ (p q : Rat) : timesM (ofQ p) (ofQ q) = ofQ (p * q) := by
  unfold timesM
  rw [lowM_ofQ (Int.mul_pos (ofQ_pos p) (ofQ_pos q))]
  congr 1
  have a := toQ_ofQ p
  have b := toQ_ofQ q
  have hp : ((ofQ p).2 : Rat) ≠ 0 := by have := ofQ_pos p; exact_mod_cast Int.ne_of_gt this
  have hq : ((ofQ q).2 : Rat) ≠ 0 := by have := ofQ_pos q; exact_mod_cast Int.ne_of_gt this
  unfold toQ at a b
  rw [Rat.intCast_mul, Rat.intCast_mul]
  grind
theorem ofQ_one : ofQ 1 = (1, 1) := by decide +kernel
theorem ofQ_zero : ofQ 0 = (0, 1) := by decide +kernel
theorem ofQ_num_pos {q : Rat} (h : 0 < q) : 0 < (ofQ q).1 := by
  have := (Rat.lt_iff 0 q).mp h
  unfold ofQ
  simpa using this
structure TQ where
  name : Str
  at' : Int
  q : Rat
def TQ.tm (x : TQ) : Tm := ⟨x.name, x.at', ofQ x.q⟩
def TQ.sc (q : Rat) (x : TQ) : TQ := ⟨x.name, x.at', q * x.q⟩
/-- hand with its share; what is left to the curve ahead: where, and its share -/
def wrQ (p : Ps) (L t : Int) : Option (Int × Rat) × Option (Int × Rat) :=
  if p.first ≤ t ∧ t < endM p L then
    match lastT t p.touches none with
    | none => (none, some (if p.mode = "write" then p.first else t, 1))
    | some h => if p.mode = "write" ∨ p.mode = "latch" then (some (h, 1), none) else
      if p.glide < t - h then (none, some (t, 1)) else
      (some (h, ((p.glide + 1 - (t - h) : Int) : Rat) / ((p.glide + 1 : Int) : Rat)), if p.mode = "trim" then some (t, 1) else if t = h then none else some (t, ((t - h : Int) : Rat) / ((p.glide + 1 : Int) : Rat)))
  else (none, some (t, 1))
def atQ (L : Int) : List Ps → Int → List TQ
  | [], t => [⟨"old", t, 1⟩]
  | p :: r, t => ((wrQ p L t).1.map fun x => TQ.mk p.name x.1 x.2).toList ++ match (wrQ p L t).2 with
    | none => []
    | some y => (atQ L r y.1).map (TQ.sc y.2)
theorem takenM_q (p : Ps) (L t : Int) (q : Rat) (hg : 0 ≤ p.glide) :
    takenM p L (t, ofQ q) = ((wrQ p L t).1.map fun x => (x.1, ofQ (q * x.2)), (wrQ p L t).2.map fun x => (x.1, ofQ (q * x.2))) := by
  have t1 : timesM (ofQ q) (1, 1) = ofQ (q * 1) := by rw [← ofQ_one, timesM_ofQ]
  have one : q * 1 = q := by grind
  rw [one] at t1
  have hpos : 0 < p.glide + 1 := by omega
  unfold takenM writtenM wrQ
  simp only
  by_cases h1 : p.first ≤ t ∧ t < endM p L
  · rw [if_pos h1, if_pos h1]
    cases e : lastT t p.touches none with
    | none =>
      simp only
      by_cases hw : p.mode = "write"
      · rw [if_pos hw, if_pos hw]
        simp only [Option.map_none, Option.map_some, t1, one]
        rw [if_neg (by decide)]
      · rw [if_neg hw, if_neg hw]
        simp only [Option.map_none, Option.map_some, one]
    | some h =>
      have hle := lastT_le t p.touches none (fun _ q => by cases q) h e
      simp only
      by_cases hw : p.mode = "write" ∨ p.mode = "latch"
      · rw [if_pos hw, if_pos hw]
        simp only [Option.map_none, Option.map_some, t1, one, if_true]
      · rw [if_neg hw, if_neg hw]
        by_cases hgl : p.glide < t - h
        · rw [if_pos hgl, if_pos hgl]
          simp only [Option.map_none, Option.map_some, one]
        · rw [if_neg hgl, if_neg hgl]
          simp only [Option.map_some]
          rw [lowM_ofQ (a := p.glide + 1 - (t - h)) hpos, timesM_ofQ]
          congr 1
          by_cases htr : p.mode = "trim"
          · rw [if_pos htr, if_pos htr, if_neg (by decide), t1]
            simp only [Option.map_some, one]
          · rw [if_neg htr, if_neg htr, lowM_ofQ (a := t - h) hpos]
            have hne : ((p.glide + 1 : Int) : Rat) ≠ 0 := by exact_mod_cast Int.ne_of_gt hpos
            by_cases hth : t = h
            · subst hth
              rw [if_pos rfl, if_pos ?_]
              · rfl
              · rw [← ofQ_zero]
                congr 1
                rw [Int.sub_self]
                grind
            · rw [if_neg hth, if_neg ?_]
              · rw [timesM_ofQ]; rfl
              · intro z
                rw [← ofQ_zero] at z
                have z := ofQ_inj z
                have : ((t - h : Int) : Rat) ≠ 0 := by exact_mod_cast (by omega : t - h ≠ 0)
                grind
  · rw [if_neg h1, if_neg h1]
    simp only [Option.map_none, Option.map_some, one]
theorem sc_sc (p q : Rat) (x : TQ) : (x.sc p).sc q = x.sc (q * p) := by unfold TQ.sc; simp only [Rat.mul_assoc]
theorem formM_q (L : Int) : ∀ (ps : List Ps) (t : Int) (q : Rat), (∀ p ∈ ps, 0 ≤ p.glide) → formM L ps (t, ofQ q) = ((atQ L ps t).map (TQ.sc q)).map TQ.tm
  | [], t, q, _ => by
    have one : q * 1 = q := by grind
    simp [formM, atQ, TQ.sc, TQ.tm, one]
  | p :: r, t, q, h => by
    rw [formM, takenM_q p L t q (h p List.mem_cons_self), atQ, List.map_append, List.map_append]
    congr 1
    · cases (wrQ p L t).1 <;> simp [TQ.sc, TQ.tm]
    · cases (wrQ p L t).2 with
      | none => rfl
      | some y =>
        simp only [Option.map_some]
        rw [formM_q L r y.1 (q * y.2) fun p hp => h p (List.mem_cons_of_mem _ hp)]
        simp only [List.map_map]
        congr 1
        funext x
        simp only [Function.comp, sc_sc]
theorem sc_one (x : TQ) : x.sc 1 = x := by
  obtain ⟨n, a, q⟩ := x
  unfold TQ.sc
  simp only [TQ.mk.injEq, true_and]
  grind
theorem map_sc_one (xs : List TQ) : xs.map (TQ.sc 1) = xs := by
  rw [show TQ.sc 1 = id from funext sc_one, List.map_id]
theorem formM_atQ (L : Int) (ps : List Ps) (t : Int) (h : ∀ p ∈ ps, 0 ≤ p.glide) : formM L ps (t, (1, 1)) = (atQ L ps t).map TQ.tm := by
  rw [← ofQ_one, formM_q L ps t 1 h, map_sc_one]
end My
set_option exponentiation.threshold 20000
namespace My
open PySem PySem.Spec PyProof.Rows L2 DL
structure BodyOk (L : Int) (p : Ps) : Prop where
  mode : modes.contains p.mode = true
  tail : tails.contains p.tail = true
  rng : 0 ≤ p.first ∧ p.first + 1 ≤ p.last ∧ p.last ≤ L
  tl : p.touches.length ≤ 6
  tok : touchesOk p.last p.touches p.first = true
  gl : 0 ≤ p.glide ∧ p.glide ≤ 100
theorem modes_strOk {x : Str} (h : modes.contains x = true) : PyData.strOk x = true := by
  have h := List.contains_iff_mem.mp h
  simp only [modes, List.mem_cons, List.not_mem_nil, or_false] at h
  rcases h with rfl | rfl | rfl | rfl <;> decide +kernel
theorem tails_strOk {x : Str} (h : tails.contains x = true) : PyData.strOk x = true := by
  have h := List.contains_iff_mem.mp h
  simp only [tails, List.mem_cons, List.not_mem_nil, or_false] at h
  rcases h with rfl | rfl <;> decide +kernel
theorem passOk_of {L : Int} {p : Ps} (h : BodyOk L p) (a : nameOk p.name = true) (b : p.name ≠ "old") : passOk L p = true := by
  have r := h.rng
  unfold passOk
  rw [a, h.mode, h.tail, h.tok, decide_eq_false b, decide_eq_true r.1, decide_eq_true (show p.first ≤ L by omega), decide_eq_true r.2.1, decide_eq_true r.2.2, decide_eq_true h.tl, decide_eq_true h.gl.1, decide_eq_true h.gl.2]
  rfl
theorem sane_of {L : Int} {p : Ps} (h : BodyOk L p) (a : PyData.strOk p.name = true) (b : p.name.length ≤ 1000) : p.sane := ⟨a, modes_strOk h.mode, tails_strOk h.tail, len_le b⟩
theorem b_of_pass {L : Int} {p : Ps} (h : passOk L p = true) : BodyOk L p ∧ nameOk p.name = true ∧ p.name ≠ "old" := by
  unfold passOk at h
  simp only [Bool.and_eq_true, decide_eq_true_eq, Bool.not_eq_true', decide_eq_false_iff_not] at h
  obtain ⟨⟨⟨⟨⟨⟨⟨⟨a, b⟩, c⟩, d⟩, e⟩, f⟩, g⟩, i⟩, j⟩ := h
  exact ⟨⟨c, d, ⟨e.1.1, e.2.1, e.2.2⟩, f, g, i, j⟩, a, b⟩
theorem it_rng1 {ρ ρ1 : Cs} {l : Mo (List D)} {n : Nat} (h : l ρ = some ([.int n], ρ1)) (hn : n ≤ 1000000) : iFn rng1? l ρ = some ((List.range n).map fun k : Nat => D.int (0 + (k : Int)), ρ1) := by
  refine e_bd h ?_
  show mL (rng1? [.int n]) ρ1 = _
  rw [rng_ok hn]
  rfl
section
variable (C : Addr)
theorem v_law_pickI {m : Nat} {u : Pur} (hu : PurOk (m + 1) u) (is : List Int) (h0 : 0 < is.length := by simp) (h1 : is.length ≤ 1000 := by simp) : ∃ (i : Int) (u' : Pur), F_law_pick C (encPu u) [.lst (is.map .int)] = some (.int i, encPu u') ∧ i ∈ is ∧ PurOk m u' := by
  obtain ⟨x, u', e, hx, hu'⟩ := v_law_pick C hu (ds := is.map .int) (by simpa using h0) (by simpa using h1)
  obtain ⟨i, hi, rfl⟩ := List.mem_map.mp hx
  exact ⟨i, u', e, hi, hu'⟩
theorem v_law_pickS {m : Nat} {u : Pur} (hu : PurOk (m + 1) u) (is : List Str) (h0 : 0 < is.length := by simp) (h1 : is.length ≤ 1000 := by simp) : ∃ (i : Str) (u' : Pur), F_law_pick C (encPu u) [.lst (is.map .str)] = some (.str i, encPu u') ∧ i ∈ is ∧ PurOk m u' := by
  obtain ⟨x, u', e, hx, hu'⟩ := v_law_pick C hu (ds := is.map .str) (by simpa using h0) (by simpa using h1)
  obtain ⟨i, hi, rfl⟩ := List.mem_map.mp hx
  exact ⟨i, u', e, hi, hu'⟩
theorem mul_s {i j : Int} (h : i.natAbs ≤ 2 ^ 200) (h' : j.natAbs ≤ 2 ^ 200) : dMul (.int i) (.int j) = some (.int (i * j)) := mul_ok (Nat.le_trans h (Nat.pow_le_pow_right (by omega) (by omega))) (Nat.le_trans h' (Nat.pow_le_pow_right (by omega) (by omega)))
theorem v_law_touches {m n : Nat} {u : Pur} {first last wide : Int} (hu : PurOk (m + 4 * n) u) (hf : 0 ≤ first) (hf1 : first ≤ 1000000000000) (hl : last ≤ 1000000000000) (hn : n ≤ 100) (hw : 0 ≤ wide) (hw' : wide ≤ 1000000000000) :
    ∃ (ts : List (Int × Int)) (u' : Pur), F_law_touches C (encPu u) [.int first, .int last, .int n, .int wide] = some (.tup (ts.map encT), encPu u') ∧ touchesOk last ts first = true ∧ ts.length ≤ n ∧ PurOk m u' := by
  have : ∃ r e, runO 5 5 (B_law_touches C) (encPu u) [.int first, .int last, .int n, .int wide] = some (r, e) ∧ ∃ (ts : List (Int × Int)) (u' : Pur), r = .tup (ts.map encT) ∧ e = encPu u' ∧ touchesOk last ts first = true ∧ ts.length ≤ n ∧ PurOk m u' := by
    refine retOE ?_
    unfold B_law_touches
    refine_lift' st
    refine st_for (α := Nat) (enc := fun k : Nat => D.int (0 + (k : Int))) (xs := List.range n) (ρ1 := [.own true (encPu u), .dat (.int first), .dat (.int last), .dat (.int n), .dat (.int wide), .own false (.lst []), .dat (.int first), .no, .no, .no]) ?_
      (fun ys ρ => ∃ (u' : Pur) (ts : List (Int × Int)) (a : Int) (x y z : Cell), ρ = [.own true (encPu u'), .dat (.int first), .dat (.int last), .dat (.int n), .dat (.int wide), .own false (.lst (ts.map encT)), .dat (.int a), x, y, z] ∧ PurOk (m + 4 * (n - ys.length)) u' ∧ ts.length ≤ ys.length ∧ 0 ≤ a ∧ a ≤ 1000000000001 ∧ ∀ zs, touchesOk last (ts ++ zs) first = touchesOk last zs a)
      ⟨u, [], first, _, _, _, rfl, by simpa using hu, Nat.le_refl _, hf, by omega, fun _ => rfl⟩ ?_ ?_
    · refine it_rng1 (n := n) (ρ1 := [.own true (encPu u), .dat (.int first), .dat (.int last), .dat (.int n), .dat (.int wide), .own false (.lst []), .dat (.int first), .no, .no, .no]) ?_ (by omega)
      refine_lift' eva
    · rintro ys k zs ρ e ⟨u0, ts, a, x, y, z, rfl, hu0, htl, ha0, ha1, q⟩
      have hyn : ys.length < n := by
        have := congrArg List.length e
        rw [List.length_range, List.length_append, List.length_cons] at this
        omega
      have hu0 : PurOk (m + 4 * (n - (ys.length + 1)) + 1 + 1 + 1 + 1) u0 := hu0.mono (by omega)
      obtain ⟨i1, u1, e1, i10, i11, hu1⟩ := v_law_draw C hu0 (n := 4) (by decide) (by decide)
      obtain ⟨w1, u2, e2, hw1, hu2⟩ := v_law_pickI C hu1 [1, 1, wide]
      obtain ⟨i3, u3, e3, i30, i31, hu3⟩ := v_law_draw C hu2 (n := 3) (by decide) (by decide)
      obtain ⟨w4, u4, e4, hw4, hu4⟩ := v_law_pickI C hu3 [1, 1, wide]
      have hw1 : 0 ≤ w1 ∧ w1 ≤ 1000000000000 := by simp at hw1; omega
      have hw4 : 0 ≤ w4 ∧ w4 ≤ 1000000000000 := by simp at hw4; omega
      have m1 : dMul (.int i1) (.int w1) = some (.int (i1 * w1)) := mul_s (Nat.le_trans (by omega : i1.natAbs ≤ 2 ^ 60) (by decide)) (Nat.le_trans (by omega : w1.natAbs ≤ 2 ^ 60) (by decide))
      have m2 : dMul (.int i3) (.int w4) = some (.int (i3 * w4)) := mul_s (Nat.le_trans (by omega : i3.natAbs ≤ 2 ^ 60) (by decide)) (Nat.le_trans (by omega : w4.natAbs ≤ 2 ^ 60) (by decide))
      have p1 : 0 ≤ i1 * w1 := Int.mul_nonneg i10 hw1.1
      have p2 : 0 ≤ i3 * w4 := Int.mul_nonneg i30 hw4.1
      have hl1 : (ts.map encT).length < sizeLine := by rw [List.length_map]; exact Nat.lt_of_lt_of_le (by omega : ts.length < 200) (len_le (by omega))
      refine ⟨(), [.own true (encPu u0), .dat (.int first), .dat (.int last), .dat (.int n), .dat (.int wide), .own false (.lst (ts.map encT)), .dat (.int a), .dat (.int (0 + (k : Int))), y, z], rfl, ?_⟩
      refine st_one ?_
      refine_lift' st
      refine_lift' st [e1, e2, m1]
      refine_lift' st
      refine_lift' st [e3, e4, m2]
      refine_lift' st
      · intro h
        have h := of_decide_eq_true h
        refine_lift' st
        refine_lift' st [hl1]
        refine_lift' st
        refine ⟨u4, ts ++ [(a + i1 * w1, a + i1 * w1 + 1 + i3 * w4)], a + i1 * w1 + 1 + i3 * w4 + 1, .dat (.int (0 + (k : Int))), .dat (.int (a + i1 * w1)), .dat (.int (a + i1 * w1 + 1 + i3 * w4)), by rw [List.map_append]; rfl, ?_, ?_, by omega, by omega, fun zs' => ?_⟩
        · rw [List.length_append]; exact hu4
        · rw [List.length_append, List.length_append, List.length_singleton, List.length_singleton]; omega
        · rw [List.append_assoc, q]
          show touchesOk last ((a + i1 * w1, a + i1 * w1 + 1 + i3 * w4) :: zs') a = _
          rw [touchesOk]
          simp only
          rw [decide_eq_true (by omega), decide_eq_true (by omega), decide_eq_true (by omega), decide_eq_true (by omega)]
          rfl
      · intro h
        refine_lift' st
        refine ⟨u4, ts, a, .dat (.int (0 + (k : Int))), .dat (.int (a + i1 * w1)), .dat (.int (a + i1 * w1 + 1 + i3 * w4)), rfl, ?_, ?_, ha0, ha1, q⟩
        · rw [List.length_append]; exact hu4
        · rw [List.length_append]; omega
    · rintro ρ ⟨u', ts, a, x, y, z, rfl, hu', htl, _, _, q⟩
      refine_lift' st
      rw [List.length_range] at htl hu'
      refine ro_rt ⟨ts, u', rfl, rfl, ?_, htl, hu'.mono (by omega)⟩
      have := q []
      rw [List.append_nil] at this
      rw [this]
      rfl
  obtain ⟨r, e, h, ts, u', rfl, rfl, h2⟩ := this
  exact ⟨ts, u', h, h2⟩
end
end My
set_option exponentiation.threshold 20000
namespace My
open PySem PySem.Spec PyProof.Rows L2 DL
theorem max_eq (a b : Int) : dMax [.int a, .int b] = some (.int (if b > a then b else a)) := rfl
theorem min_eq (a b : Int) : dMin [.int a, .int b] = some (.int (if b < a then b else a)) := rfl
theorem div_s {i j : Int} (h : 0 < j) (h' : j ≤ 1000000000000) : dDiv (.int i) (.int j) = some (.int (i / j)) := div_ok h (Nat.le_trans (by omega : j.natAbs ≤ 2 ^ 60) (Nat.pow_le_pow_right (by decide) (by decide)))
theorem drawn_modes {x : Str} (h : x ∈ (["write", "latch", "touch", "touch", "trim"] : List Str)) : modes.contains x = true := by
  simp only [List.mem_cons, List.not_mem_nil, or_false] at h
  rcases h with rfl | rfl | rfl | rfl | rfl <;> decide +kernel
theorem drawn_tails {x : Str} (h : x ∈ (["stop", "stop", "on"] : List Str)) : tails.contains x = true := by
  simp only [List.mem_cons, List.not_mem_nil, or_false] at h
  rcases h with rfl | rfl | rfl <;> decide +kernel
section
variable (C : Addr)
set_option maxHeartbeats 4000000 in
theorem v_law_pass {m : Nat} {u : Pur} {L wide : Int} (x : Str) (hu : PurOk (m + 20) u) (hL : 1 ≤ L) (hL1 : L ≤ 1000000000000) (hw : 1 ≤ wide) (hw' : wide ≤ 1000000000000) :
    ∃ (p : Ps) (u' : Pur), F_law_pass C (encPu u) [.str x, .int L, .int wide] = some (encP p, encPu u') ∧ p.name = x ∧ BodyOk L p ∧ p.touches.length ≤ 3 ∧ p.glide ≤ 5 ∧ PurOk m u' := by
  have : ∃ r e, runO 4 6 (B_law_pass C) (encPu u) [.str x, .int L, .int wide] = some (r, e) ∧ ∃ (p : Ps) (u' : Pur), r = encP p ∧ e = encPu u' ∧ p.name = x ∧ BodyOk L p ∧ p.touches.length ≤ 3 ∧ p.glide ≤ 5 ∧ PurOk m u' := by
    refine retOE ?_
    unfold B_law_pass
    have hu : PurOk (m + 12 + 1 + 1 + 1 + 1 + 1 + 1 + 1 + 1) u := hu
    -- first
    have m4 : ∃ (f : Int) (u2 : Pur), mIf (mTst (mOp dGt (mCallO (F_law_draw C) 0 (aCons (mC (.int 4)) aNil)) (mC (.int 0)))) (mOp dMul (mCallO (F_law_draw C) 0 (aCons (mFn dMax (aCons (mC (.int 1)) (aCons (mOp dDiv (mVar 2) (mVar 3)) aNil))) aNil)) (mVar 3)) (mC (.int 0)) (.own true (encPu u) :: cells [.str x, .int L, .int wide] 6) = some (.int f, .own true (encPu u2) :: cells [.str x, .int L, .int wide] 6) ∧ 0 ≤ f ∧ PurOk (m + 12 + 1 + 1 + 1 + 1 + 1 + 1) u2 := by
      obtain ⟨i1, u1, e1, i10, i11, hu1⟩ := v_law_draw C hu (n := 4) (by decide) (by decide)
      by_cases hi : 0 < i1
      · have hd : dGt (.int i1) (.int 0) = some (.bl true) := by show some (D.bl (decide _)) = _; rw [decide_eq_true hi]
        have d1 := div_s (i := L) (j := wide) (by omega) (by omega)
        have mx := max_eq 1 (L / wide)
        have hq : L / wide ≤ L := Int.ediv_le_self _ (by omega)
        generalize hn : (if L / wide > 1 then L / wide else 1) = n at mx
        have hn0 : 0 < n ∧ n ≤ 1000000000000 := by split at hn <;> omega
        obtain ⟨i2, u2, e2, i20, i21, hu2⟩ := v_law_draw C hu1 (n := n) (by omega) (by omega)
        have ml := mul_s (i := i2) (j := wide) (Nat.le_trans (by omega : i2.natAbs ≤ 2 ^ 60) (by decide)) (Nat.le_trans (by omega : wide.natAbs ≤ 2 ^ 60) (by decide))
        refine ⟨i2 * wide, u2, ?_, Int.mul_nonneg i20 (by omega), hu2⟩
        refine e_if1 (ρ1 := .own true (encPu u1) :: cells [.str x, .int L, .int wide] 6) ?_ ?_
        · refine_lift' eva [e1, hd]
        · refine_lift' eva [d1, mx, e2, ml]
      · have hd : dGt (.int i1) (.int 0) = some (.bl false) := by show some (D.bl (decide _)) = _; rw [decide_eq_false hi]
        refine ⟨0, u1, ?_, by omega, hu1.mono (by omega)⟩
        refine e_if0 (ρ1 := .own true (encPu u1) :: cells [.str x, .int L, .int wide] 6) ?_ ?_
        · refine_lift' eva [e1, hd]
        · refine_lift' eva
    obtain ⟨f, u2, hm4, hf, hu2⟩ := m4
    refine st_set hm4 ?_
    -- at most the last tick
    have mn := min_eq f (L - 1)
    generalize hf2 : (if L - 1 < f then L - 1 else f) = f2 at mn
    have hf2 : 0 ≤ f2 ∧ f2 ≤ L - 1 := by split at hf2 <;> omega
    refine_lift' st [mn]
    -- last
    have d1 := div_s (i := L - f2) (j := wide) (by omega) (by omega)
    have mx := max_eq 1 ((L - f2) / wide)
    have hq : (L - f2) / wide ≤ L - f2 := Int.ediv_le_self _ (by omega)
    generalize hn : (if (L - f2) / wide > 1 then (L - f2) / wide else 1) = n at mx
    have hn0 : 0 < n ∧ n ≤ 1000000000000 := by split at hn <;> omega
    obtain ⟨i3, u3, e3, i30, i31, hu3⟩ := v_law_draw C hu2 (n := n) (by omega) (by omega)
    have ml := mul_s (i := i3) (j := wide) (Nat.le_trans (by omega : i3.natAbs ≤ 2 ^ 60) (by decide)) (Nat.le_trans (by omega : wide.natAbs ≤ 2 ^ 60) (by decide))
    have p3 : 0 ≤ i3 * wide := Int.mul_nonneg i30 (by omega)
    refine_lift' st [d1, mx, e3, ml]
    have mn2 := min_eq (f2 + 1 + i3 * wide) L
    generalize hl1 : (if L < f2 + 1 + i3 * wide then L else f2 + 1 + i3 * wide) = l1 at mn2
    have hl1 : f2 + 1 ≤ l1 ∧ l1 ≤ L := by split at hl1 <;> omega
    obtain ⟨l2, u4, e4, hl2, hu4⟩ := v_law_pickI C hu3 [l1, l1, L]
    have hl2 : f2 + 1 ≤ l2 ∧ l2 ≤ L := by simp at hl2; omega
    refine_lift' st [mn2, e4]
    -- touches
    obtain ⟨i5, u5, e5, i50, i51, hu5⟩ := v_law_draw C hu4 (n := 4) (by decide) (by decide)
    obtain ⟨n5, rfl⟩ : ∃ n : Nat, i5 = n := ⟨i5.toNat, by omega⟩
    obtain ⟨ts, u6, e6, ht, htl, hu6⟩ := v_law_touches C (m := m + 1 + 1 + 1) (n := n5) (first := f2) (last := l2) (wide := wide) (hu5.mono (by omega)) hf2.1 (by omega) (by omega) (by omega) (by omega) hw'
    refine_lift' st [e5, e6]
    obtain ⟨md, u7, e7, hmd, hu7⟩ := v_law_pickS C hu6 ["write", "latch", "touch", "touch", "trim"]
    refine_lift' st [e7]
    obtain ⟨gl, u8, e8, hgl, hu8⟩ := v_law_pickI C hu7 [0, 1, 2, 3, 5]
    obtain ⟨tl, u9, e9, htl9, hu9⟩ := v_law_pickS C hu8 ["stop", "stop", "on"]
    have hgl : 0 ≤ gl ∧ gl ≤ 5 := by simp at hgl; omega
    refine_lift' st [e8, e9]
    refine_lift' st
    exact ro_rt ⟨⟨x, md, f2, l2, ts, gl, tl⟩, u9, rfl, rfl, rfl, ⟨drawn_modes hmd, drawn_tails htl9, ⟨hf2.1, hl2.1, hl2.2⟩, by simp only; omega, ht, by simp only; omega⟩, by simp only; omega, by simp only; omega, hu9⟩
  obtain ⟨r, e, h, p, u', rfl, rfl, h2⟩ := this
  exact ⟨p, u', h, h2⟩
end
end My
set_option exponentiation.threshold 20000
namespace My
open PySem PySem.Spec PyProof.Rows L2 DL
theorem cut_drop {α : Type} (xs : List α) (n : Nat) : DL.cutD xs (some (n : Int)) none = xs.drop n := by
  unfold DL.cutD
  rw [HT.sIx_none, HT.sIx_nat]
  by_cases h : n ≤ xs.length
  · rw [Nat.min_eq_left h, List.take_of_length_le (by rw [List.length_drop]; omega)]
  · rw [Nat.min_eq_right (by omega), List.drop_length, List.drop_of_length_le (by omega)]
    simp
theorem cut_take {α : Type} (xs : List α) (n : Nat) : DL.cutD xs none (some (n : Int)) = xs.take n := by
  unfold DL.cutD
  rw [HT.sIx_none, HT.sIx_nat, List.drop_zero, Nat.sub_zero]
  by_cases h : n ≤ xs.length
  · rw [Nat.min_eq_left h]
  · rw [Nat.min_eq_right (by omega), List.take_length, List.take_of_length_le (by omega)]
theorem sl_drop (ds : List D) (n : Nat) : dSl (.lst ds) (some (n : Int)) none = some (.lst (ds.drop n)) := by
  show some (D.lst (DL.cutD ds _ _)) = _
  rw [cut_drop]
theorem sl_take (ds : List D) (n : Nat) : dSl (.lst ds) none (some (n : Int)) = some (.lst (ds.take n)) := by
  show some (D.lst (DL.cutD ds _ _)) = _
  rw [cut_take]
theorem add_lst {a b : List D} (h : a.length + b.length ≤ 1000) : dAdd (.lst a) (.lst b) = some (.lst (a ++ b)) := if_pos (len_le h)
theorem ix_lst {ds : List D} {k : Nat} (h : k < ds.length) : dIx (.lst ds) (.int (0 + (k : Int))) = some ds[k] := by
  rw [Int.zero_add]
  exact atI_nat (by rw [List.getElem?_eq_getElem h])
theorem pow_ok {j : Nat} (h : j ≤ 100) : dPow (.int 10) (.int j) = some (.int (10 ^ j)) := by
  have : ((10 : Int) ^ (j : Int).toNat) = 10 ^ j := by rw [Int.toNat_natCast]
  rw [← this]
  exact if_pos (e := none) ⟨by omega, by omega, by decide⟩
theorem pow6 : dPow (.int 10) (.int 6) = some (.int 1000000) := pow_ok (j := 6) (by decide)
theorem pow12 : dPow (.int 10) (.int 12) = some (.int 1000000000000) := pow_ok (j := 12) (by decide)
theorem lc_nil {vs : List Nat} {g : D → Mo Unit} {t : Mo Bool} {e : Mo D} {acc : List D} {ρ : Cs} : goLc vs g t e [] acc ρ = some (acc, ρ) := rfl
theorem lc_cons {vs : List Nat} {g : D → Mo Unit} {e : Mo D} {acc xs : List D} {x y : D} {u : Unit} {ρ ρ1 ρ2 : Cs} {r : Option (List D × Cs)} (hg : g x (clr vs ρ) = some (u, ρ1)) (he : e ρ1 = some (y, ρ2)) (hl : acc.length < 1000) (hr : goLc vs g (mC true) e xs (acc ++ [y]) ρ2 = r) : goLc vs g (mC true) e (x :: xs) acc ρ = r := by
  unfold goLc
  simp only [hg, e_c, he]
  rw [if_pos (Nat.lt_of_lt_of_le hl (len_le (Nat.le_refl _)))]
  exact hr
theorem lc_of {vs : List Nat} {it : Mo (List D)} {g : D → Mo Unit} {t : Mo Bool} {e : Mo D} {ds acc : List D} {ρ ρ1 ρ' : Cs} (hi : it ρ = some (ds, ρ1)) (hf : free vs ρ1 = true) (h : goLc vs g t e ds [] (clr vs ρ1) = some (acc, ρ')) : mLc vs it g t e ρ = some (.lst acc, back vs ρ1 (clr vs ρ')) := by
  refine e_bd hi ?_
  rw [if_pos hf, h]
def rowNames : List Str := ["a", "b", "olds", "z9", "write", "c", "on", "pass"]
def rot {α : Type} (xs : List α) (n : Nat) : List α := xs.drop n ++ xs.take n
theorem rot_len {α : Type} (xs : List α) (n : Nat) : (rot xs n).length = xs.length := by
  unfold rot
  rw [List.length_append, List.length_drop, List.length_take]
  omega
theorem rot_map {α β : Type} (f : α → β) (xs : List α) (n : Nat) : rot (xs.map f) n = (rot xs n).map f := by
  unfold rot
  rw [List.map_append, List.map_drop, List.map_take]
theorem rot_perm {α : Type} (xs : List α) (n : Nat) : (rot xs n).Perm xs := by
  unfold rot
  refine List.perm_append_comm.trans ?_
  rw [List.take_append_drop]
/-- passes of a row: their names are the first of some -/
structure RowOk (L : Int) (ns : List Str) (ps : List Ps) : Prop where
  names : ps.map Ps.name = ns.take ps.length
  body : ∀ p ∈ ps, BodyOk L p
structure NmsOk (ns : List Str) : Prop where
  nd : ns.Nodup
  ok : ∀ x ∈ ns, nameOk x = true ∧ x ≠ "old" ∧ PyData.strOk x = true ∧ x.length ≤ 1000
theorem NmsOk.perm {ns ms : List Str} (h : NmsOk ns) (p : ms.Perm ns) : NmsOk ms := ⟨p.nodup_iff.mpr h.nd, fun x hx => h.ok x (p.mem_iff.mp hx)⟩
theorem rowNames_ok : NmsOk rowNames := ⟨by decide +kernel, by decide +kernel⟩
theorem RowOk.pss {L : Int} {ns : List Str} {ps : List Ps} (h : RowOk L ns ps) (hn : NmsOk ns) (hl : ps.length ≤ 8) : PssOk L ps := by
  have hm : ∀ p ∈ ps, p.name ∈ ns := fun p hp => List.mem_of_mem_take (by rw [← h.names]; exact List.mem_map.mpr ⟨p, hp, rfl⟩)
  refine ⟨fun p hp => ?_, fun p hp => ?_, ?_, hl⟩
  · obtain ⟨_, _, c, d⟩ := hn.ok _ (hm p hp)
    exact sane_of (h.body p hp) c d
  · obtain ⟨a, b, _, _⟩ := hn.ok _ (hm p hp)
    exact passOk_of (h.body p hp) a b
  · rw [h.names]
    exact hn.nd.sublist (List.take_sublist _ _)
theorem RowOk.snoc {L : Int} {ns : List Str} {ps : List Ps} {p : Ps} (h : RowOk L ns ps) (hb : BodyOk L p) (hl : ps.length < ns.length) (hn : p.name = ns[ps.length]) : RowOk L ns (ps ++ [p]) := by
  refine ⟨?_, fun q hq => ?_⟩
  · rw [List.map_append, h.names, List.length_append, List.length_singleton, List.take_add_one, List.getElem?_eq_getElem hl]
    simp [hn]
  · rcases List.mem_append.mp hq with hq | hq
    · exact h.body q hq
    · rw [List.mem_singleton.mp hq]; exact hb
section
variable (C : Addr)
set_option maxHeartbeats 2000000 in
theorem v_law_row {m many : Nat} {u : Pur} {L wide : Int} (hu : PurOk (m + 20 * many + 2) u) (hm : many ≤ 8) (hL : 1 ≤ L) (hL1 : L ≤ 1000000000000) (hw : 1 ≤ wide) (hw' : wide ≤ 1000000000000) :
    ∃ (ps : List Ps) (u' : Pur), F_law_row C (encPu u) [.int L, .int many, .int wide] = some (.tup (ps.map encP), encPu u') ∧ (∃ n, RowOk L (rot rowNames n) ps) ∧ ps.length ≤ many ∧ (∀ p ∈ ps, p.touches.length ≤ 3 ∧ p.glide ≤ 5) ∧ PurOk m u' := by
  have : ∃ r e, runO 4 3 (B_law_row C) (encPu u) [.int L, .int many, .int wide] = some (r, e) ∧ ∃ (ps : List Ps) (u' : Pur), r = .tup (ps.map encP) ∧ e = encPu u' ∧ (∃ n, RowOk L (rot rowNames n) ps) ∧ ps.length ≤ many ∧ (∀ p ∈ ps, p.touches.length ≤ 3 ∧ p.glide ≤ 5) ∧ PurOk m u' := by
    refine retOE ?_
    unfold B_law_row
    have hu : PurOk (m + 20 * many + 1 + 1) u := hu
    refine_lift' st
    obtain ⟨i1, u1, e1, i10, i11, hu1⟩ := v_law_draw C hu (n := 8) (by decide) (by decide)
    obtain ⟨n, rfl⟩ : ∃ n : Nat, i1 = n := ⟨i1.toNat, by omega⟩
    refine_lift' st [e1]
    have s1 := sl_drop (rowNames.map D.str) n
    have s2 := sl_take (rowNames.map D.str) n
    have s3 : dAdd (.lst ((rowNames.map D.str).drop n)) (.lst ((rowNames.map D.str).take n)) = some (.lst ((rot rowNames n).map D.str)) := by
      rw [add_lst, ← rot_map]
      · rfl
      · rw [List.length_drop, List.length_take, List.length_map]
        have : rowNames.length = 8 := rfl
        omega
    refine_lift' st [s1, s2, s3]
    obtain ⟨i2, u2, e2, i20, i21, hu2⟩ := v_law_draw C hu1 (n := (many : Int) + 1) (by omega) (by omega)
    obtain ⟨k, rfl⟩ : ∃ n : Nat, i2 = n := ⟨i2.toNat, by omega⟩
    have hk : k ≤ many := by omega
    obtain ⟨acc, ρ', hlc, u3, ps, x, rfl, rfl, hps, hrow, hsm, hu3⟩ := e_lc (α := Nat) (vs := [6]) (it := iFn rng1? (aCons (mCallO (F_law_draw C) 0 (aCons (mOp dAdd (mVar 2) (mC (.int 1))) aNil)) aNil)) (g := gNm 6) (t := mC true) (e := mCallO (F_law_pass C) 0 (aCons (mOp dIx (mVar 4) (mVar 6)) (aCons (mVar 1) (aCons (mVar 3) aNil)))) (enc := fun k : Nat => D.int (0 + (k : Int))) (xs := List.range k)
      (ρ := [.own true (encPu u1), .dat (.int L), .dat (.int many), .dat (.int wide), .dat (.lst ((rot rowNames n).map D.str)), .dat (.int n), .no]) (ρ1 := [.own true (encPu u2), .dat (.int L), .dat (.int many), .dat (.int wide), .dat (.lst ((rot rowNames n).map D.str)), .dat (.int n), .no])
      (by refine it_rng1 (n := k) ?_ (by omega); refine_lift' eva [e2]) rfl
      (fun ys acc ρ => ∃ (u3 : Pur) (ps : List Ps) (x : Cell), ρ = [.own true (encPu u3), .dat (.int L), .dat (.int many), .dat (.int wide), .dat (.lst ((rot rowNames n).map D.str)), .dat (.int n), x] ∧ acc = ps.map encP ∧ ps.length = ys.length ∧ RowOk L (rot rowNames n) ps ∧ (∀ p ∈ ps, p.touches.length ≤ 3 ∧ p.glide ≤ 5) ∧ PurOk (m + 20 * (many - ys.length)) u3)
      ⟨u2, [], .no, rfl, rfl, rfl, ⟨rfl, fun p h => by cases h⟩, (fun p h => by cases h), by simpa using hu2⟩
      (fun done acc ρ ⟨_, ps, _, _, h, h1, _⟩ => by rw [h, List.length_map, h1]; exact Nat.le_refl _) (by rw [List.length_range]; exact len_le (by omega))
      (by
        rintro ys j zs acc ρ e ⟨u3, ps, x, rfl, rfl, hps, hrow, hsm, hu3⟩
        have hj : j = ys.length ∧ ys.length < k := by
          have h1 := congrArg List.length e
          have h2 := congrArg (fun l => l[ys.length]?) e
          simp only [List.length_range, List.length_append, List.length_cons] at h1
          simp only [List.getElem?_append_right (Nat.le_refl _), Nat.sub_self, List.getElem?_cons_zero] at h2
          rw [List.getElem?_range (by omega)] at h2
          exact ⟨(Option.some.inj h2).symm, by omega⟩
        obtain ⟨rfl, hyk⟩ := hj
        have hlen : (rot rowNames n).length = 8 := by rw [rot_len]; rfl
        have hix : dIx (.lst ((rot rowNames n).map D.str)) (.int (0 + (ys.length : Int))) = some (.str ((rot rowNames n)[ys.length]'(by omega))) := by
          rw [ix_lst (by rw [List.length_map]; omega), List.getElem_map]
        obtain ⟨p, u4, e4, hn, hb, h3, h5, hu4⟩ := v_law_pass C (m := m + 20 * (many - (ys.length + 1))) ((rot rowNames n)[ys.length]'(by omega)) (hu3.mono (by omega)) hL hL1 hw hw'
        refine ⟨(), [.own true (encPu u3), .dat (.int L), .dat (.int many), .dat (.int wide), .dat (.lst ((rot rowNames n).map D.str)), .dat (.int n), .dat (.int (0 + (ys.length : Int)))], true, _, rfl, rfl, fun h => (by cases h), fun _ => ⟨encP p, [.own true (encPu u4), .dat (.int L), .dat (.int many), .dat (.int wide), .dat (.lst ((rot rowNames n).map D.str)), .dat (.int n), .dat (.int (0 + (ys.length : Int)))], by refine_lift' eva [hix, e4], u4, ps ++ [p], _, rfl, by rw [List.map_append]; rfl, by rw [List.length_append, List.length_append, hps]; rfl, hrow.snoc hb (by omega) (by rw [hn]; simp only [hps]), ?_, ?_⟩⟩
        · intro q hq
          rcases List.mem_append.mp hq with hq | hq
          · exact hsm q hq
          · rw [List.mem_singleton.mp hq]; exact ⟨h3, h5⟩
        · rw [List.length_append]; exact hu4)
    rw [List.length_range] at hps hu3
    refine st_one ?_
    refine st_ret (e_fn (f := dTuple) (z := .tup (ps.map encP)) (e_acons hlc e_anil) rfl) ?_
    exact ro_rt ⟨ps, u3, rfl, rfl, ⟨n, hrow⟩, by omega, hsm, hu3.mono (by omega)⟩
  obtain ⟨r, e, h, ps, u', rfl, rfl, h2⟩ := this
  exact ⟨ps, u', h, h2⟩
end
end My
set_option exponentiation.threshold 20000
namespace My
open PySem PySem.Spec PyProof.Rows L2 DL
def allWords : List Str := ["a", "b", "olds", "z9", "write", "c", "on", "pass", "abcdefgh", "t0000001", "ol", "track", "ab", "aa"]
theorem allWords_ok : NmsOk allWords := ⟨by decide +kernel, by decide +kernel⟩
theorem NmsOk.take {ns : List Str} (h : NmsOk ns) (k : Nat) : NmsOk (ns.take k) := ⟨h.nd.sublist (List.take_sublist _ _), fun x hx => h.ok x (List.mem_of_mem_take hx)⟩
section
variable (C : Addr)
theorem v_law_words {m : Nat} {u : Pur} (hu : PurOk (m + 1) u) : ∃ (n : Nat) (u' : Pur), F_law_words C (encPu u) [] = some (.lst (((rot allWords n).take 8).map .str), encPu u') ∧ PurOk m u' := by
  obtain ⟨i1, u1, e1, i10, i11, hu1⟩ := v_law_draw C hu (n := 14) (by decide) (by decide)
  obtain ⟨n, rfl⟩ : ∃ n : Nat, i1 = n := ⟨i1.toNat, by omega⟩
  have hl : dLen [.lst (allWords.map D.str)] = some (.int 14) := rfl
  have s1 := sl_drop (allWords.map D.str) n
  have s2 := sl_take (allWords.map D.str) n
  have s3 : dAdd (.lst ((allWords.map D.str).drop n)) (.lst ((allWords.map D.str).take n)) = some (.lst ((rot allWords n).map D.str)) := by
    rw [add_lst, ← rot_map]
    · rfl
    · rw [List.length_drop, List.length_take, List.length_map]
      have : allWords.length = 14 := rfl
      omega
  have s4 := sl_take ((rot allWords n).map D.str) 8
  have : ∃ r e, runO 1 2 (B_law_words C) (encPu u) [] = some (r, e) ∧ r = .lst (((rot allWords n).take 8).map .str) ∧ e = encPu u1 := by
    refine retOE ?_
    unfold B_law_words
    refine_lift' st
    refine_lift' st [hl, e1]
    refine_lift' st [s1, s2, s3, s4]
    exact ro_rt ⟨by rw [List.map_take], rfl⟩
  obtain ⟨r, e, h, rfl, rfl⟩ := this
  exact ⟨n, u1, h, hu1⟩
theorem v_law_wide {m : Nat} {u : Pur} (hu : PurOk (m + 2) u) {n : Int} (h0 : 0 < n) : ∃ (i : Int) (u' : Pur), F_law_wide C (encPu u) [.int n] = some (.int i, encPu u') ∧ 0 ≤ i ∧ i < n ∧ PurOk m u' := by
  have hu : PurOk (m + 1 + 1) u := hu
  obtain ⟨i1, u1, e1, i10, i11, hu1⟩ := v_law_draw C hu (n := 1000000) (by decide) (by decide)
  obtain ⟨i2, u2, e2, i20, i21, hu2⟩ := v_law_draw C hu1 (n := 1000000) (by decide) (by decide)
  have ml := mul_s (i := i1) (j := 1000000) (Nat.le_trans (by omega : i1.natAbs ≤ 2 ^ 60) (by decide)) (by decide)
  have md := mod_ok (i := i1 * 1000000 + i2) (j := n) h0
  have ii : ∀ i : Int, dInt [.int i] = some (.int i) := fun i => rfl
  have : ∃ r e, runO 2 0 (B_law_wide C) (encPu u) [.int n] = some (r, e) ∧ r = .int ((i1 * 1000000 + i2) % n) ∧ e = encPu u2 := by
    refine retOE ?_
    unfold B_law_wide
    refine_lift' st [pow6, e1, e2, ml, ii _, md]
    exact ro_rt ⟨rfl, rfl⟩
  obtain ⟨r, e, h, rfl, rfl⟩ := this
  exact ⟨_, u2, h, Int.emod_nonneg _ (by omega), Int.emod_lt_of_pos _ h0, hu2⟩
set_option maxHeartbeats 4000000 in
theorem v_law_fader {m : Nat} {u : Pur} {L : Int} (x : Str) (hu : PurOk (m + 50) u) (hL : 1 ≤ L) (hL1 : L ≤ 1000000000000) :
    ∃ (p : Ps) (u' : Pur), F_law_fader C (encPu u) [.str x, .int L] = some (encP p, encPu u') ∧ p.name = x ∧ BodyOk L p ∧ PurOk m u' := by
  have : ∃ r e, runO 3 9 (B_law_fader C) (encPu u) [.str x, .int L] = some (r, e) ∧ ∃ (p : Ps) (u' : Pur), r = encP p ∧ e = encPu u' ∧ p.name = x ∧ BodyOk L p ∧ PurOk m u' := by
    refine retOE ?_
    unfold B_law_fader
    have hu : PurOk (m + 41 + 2 + 2 + 1 + 2 + 2) u := hu
    obtain ⟨w1, u1, e1, w10, w11, hu1⟩ := v_law_wide C hu (n := L) (by omega)
    obtain ⟨w2, u2, e2, w20, w21, hu2⟩ := v_law_wide C hu1 (n := L) (by omega)
    obtain ⟨f, u3, e3, hf, hu3⟩ := v_law_pickI C hu2 [0, w1, w2]
    have hf : 0 ≤ f ∧ f < L := by simp at hf; omega
    refine_lift' st [e1, e2, e3]
    obtain ⟨w4, u4, e4, w40, w41, hu4⟩ := v_law_wide C hu3 (n := L - f) (by omega)
    obtain ⟨w5, u5, e5, w50, w51, hu5⟩ := v_law_wide C hu4 (n := L - f) (by omega)
    have hlc : mLc [5] (iFn rng1? (aCons (mC (.int 2)) aNil)) (gNm 5) (mC true) (mOp dAdd (mOp dAdd (mVar 3) (mC (.int 1))) (mCallO (F_law_wide C) 0 (aCons (mOp dSub (mVar 2) (mVar 3)) aNil))) [.own true (encPu u3), .dat (.str x), .dat (.int L), .dat (.int f), .no, .no, .no, .no, .no, .no, .no, .no]
        = some (.lst [.int (f + 1 + w4), .int (f + 1 + w5)], [.own true (encPu u5), .dat (.str x), .dat (.int L), .dat (.int f), .no, .no, .no, .no, .no, .no, .no, .no]) := by
      have s1 : mOp dAdd (mOp dAdd (mVar 3) (mC (.int 1))) (mCallO (F_law_wide C) 0 (aCons (mOp dSub (mVar 2) (mVar 3)) aNil)) [.own true (encPu u3), .dat (.str x), .dat (.int L), .dat (.int f), .no, .dat (.int 0), .no, .no, .no, .no, .no, .no] = some (.int (f + 1 + w4), [.own true (encPu u4), .dat (.str x), .dat (.int L), .dat (.int f), .no, .dat (.int 0), .no, .no, .no, .no, .no, .no]) := by refine_lift' eva [e4]
      have s2 : mOp dAdd (mOp dAdd (mVar 3) (mC (.int 1))) (mCallO (F_law_wide C) 0 (aCons (mOp dSub (mVar 2) (mVar 3)) aNil)) [.own true (encPu u4), .dat (.str x), .dat (.int L), .dat (.int f), .no, .dat (.int 1), .no, .no, .no, .no, .no, .no] = some (.int (f + 1 + w5), [.own true (encPu u5), .dat (.str x), .dat (.int L), .dat (.int f), .no, .dat (.int 1), .no, .no, .no, .no, .no, .no]) := by refine_lift' eva [e5]
      exact lc_of (it_rng1 (n := 2) (ρ1 := [.own true (encPu u3), .dat (.str x), .dat (.int L), .dat (.int f), .no, .no, .no, .no, .no, .no, .no, .no]) rfl (by decide)) rfl (lc_cons rfl s1 (by simp) (lc_cons rfl s2 (by simp) lc_nil))
    have ad : dAdd (.lst [.int L]) (.lst [.int (f + 1 + w4), .int (f + 1 + w5)]) = some (.lst [.int L, .int (f + 1 + w4), .int (f + 1 + w5)]) := add_lst (by simp)
    refine st_set (e_op (a := mLst (aCons (mVar 2) aNil)) (x := .lst [.int L]) (ρ1 := [.own true (encPu u3), .dat (.str x), .dat (.int L), .dat (.int f), .no, .no, .no, .no, .no, .no, .no, .no]) (by refine_lift' eva) hlc ad) ?_
    obtain ⟨l, u6, e6, hl, hu6⟩ := v_law_pickI C hu5 [L, f + 1 + w4, f + 1 + w5]
    have hl : f + 1 ≤ l ∧ l ≤ L := by simp at hl; omega
    refine_lift' st [e6]
    have d1 := div_s (i := l - f) (j := 20) (by omega) (by omega)
    have mx := max_eq 1 ((l - f) / 20)
    have hq : (l - f) / 20 ≤ l - f := Int.ediv_le_self _ (by omega)
    generalize hn : (if (l - f) / 20 > 1 then (l - f) / 20 else 1) = n at mx
    have hn0 : 1 ≤ n ∧ n ≤ 1000000000000 := by split at hn <;> omega
    have hu6 : PurOk (m + 27 + 11 + 1 + 1) u6 := hu6.mono (by omega)
    obtain ⟨w, u7, e7, hw, hu7⟩ := v_law_pickI C hu6 [1, 1, n]
    have hw : 1 ≤ w ∧ w ≤ 1000000000000 := by simp at hw; omega
    refine_lift' st [d1, mx, e7]
    obtain ⟨i8, u8, e8, i80, i81, hu8⟩ := v_law_draw C hu7 (n := 7) (by decide) (by decide)
    obtain ⟨n8, rfl⟩ : ∃ n : Nat, i8 = n := ⟨i8.toNat, by omega⟩
    obtain ⟨ts, u9, e9, ht, htl, hu9⟩ := v_law_touches C (m := m + 1 + 1 + 1) (n := n8) (first := f) (last := l) (wide := w) (hu8.mono (by omega)) hf.1 (by omega) (by omega) (by omega) (by omega) hw.2
    refine_lift' st [e8, e9]
    obtain ⟨md, ua, ea, hmd, hua⟩ := v_law_pickS C hu9 ["write", "latch", "touch", "touch", "trim"]
    refine_lift' st [ea]
    obtain ⟨gl, ub, eb, hgl, hub⟩ := v_law_pickI C hua [0, 1, 2, 3, 7, 99, 100]
    obtain ⟨tl, uc, ec, htl9, huc⟩ := v_law_pickS C hub ["stop", "stop", "on"]
    have hgl : 0 ≤ gl ∧ gl ≤ 100 := by simp at hgl; omega
    refine_lift' st [eb, ec]
    refine_lift' st
    exact ro_rt ⟨⟨x, md, f, l, ts, gl, tl⟩, uc, rfl, rfl, rfl, ⟨drawn_modes hmd, drawn_tails htl9, ⟨hf.1, hl.1, hl.2⟩, by simp only; omega, ht, by simp only; omega⟩, huc⟩
  obtain ⟨r, e, h, p, u', rfl, rfl, h2⟩ := this
  exact ⟨p, u', h, h2⟩
end
end My
set_option exponentiation.threshold 20000
namespace My
open PySem PySem.Spec PyProof.Rows L2 DL
theorem range_at {n : Nat} {ys zs : List Nat} {k : Nat} (e : List.range n = ys ++ k :: zs) : k = ys.length ∧ ys.length < n := by
  have h1 := congrArg List.length e
  have h2 := congrArg (fun l => l[ys.length]?) e
  simp only [List.length_range, List.length_append, List.length_cons] at h1
  simp only [List.getElem?_append_right (Nat.le_refl _), Nat.sub_self, List.getElem?_cons_zero] at h2
  rw [List.getElem?_range (by omega)] at h2
  exact ⟨(Option.some.inj h2).symm, by omega⟩
theorem e_lcN {vs : List Nat} {it : Mo (List D)} {g : D → Mo Unit} {e : Mo D} {n : Nat} {ρ ρ1 : Cs} (hi : it ρ = some ((List.range n).map fun k : Nat => D.int (0 + (k : Int)), ρ1)) (hf : free vs ρ1 = true) (hn : n ≤ 1000) (I : Nat → List D → Cs → Prop) (h0 : I 0 [] (clr vs ρ1)) (hln : ∀ j acc ρ, I j acc ρ → acc.length = j)
    (hs : ∀ j acc ρ, j < n → I j acc ρ → ∃ u ρ1 y ρ3, g (.int (0 + (j : Int))) (clr vs ρ) = some (u, ρ1) ∧ e ρ1 = some (y, ρ3) ∧ I (j + 1) (acc ++ [y]) ρ3) : ∃ acc ρ', mLc vs it g (mC true) e ρ = some (.lst acc, back vs ρ1 (clr vs ρ')) ∧ I n acc ρ' := by
  obtain ⟨acc, ρ', h1, h2⟩ := e_lc (α := Nat) (vs := vs) (it := it) (g := g) (t := mC true) (e := e) (enc := fun k : Nat => D.int (0 + (k : Int))) (xs := List.range n) hi hf (fun ys acc ρ => I ys.length acc ρ) h0 (fun done acc ρ h => Nat.le_of_eq (hln _ _ _ h)) (by rw [List.length_range]; exact len_le hn) (by
    intro ys j zs acc ρ q h
    obtain ⟨rfl, hj⟩ := range_at q
    obtain ⟨u, ρ1, y, ρ3, a, b, c⟩ := hs ys.length acc ρ hj h
    exact ⟨u, ρ1, true, ρ1, a, rfl, (fun z => by cases z), fun _ => ⟨y, ρ3, b, by rw [List.length_append]; exact c⟩⟩)
  rw [List.length_range] at h2
  exact ⟨acc, ρ', h1, h2⟩
theorem st_forN {it : Mo (List D)} {g : D → Mo Unit} {n : Nat} {ρ ρ1 : Cs} {m k : Mo Fl} {P : Option (Fl × Cs) → Prop} (hi : it ρ = some ((List.range n).map fun k : Nat => D.int (0 + (k : Int)), ρ1)) (I : Nat → Cs → Prop) (h0 : I 0 ρ1)
    (hs : ∀ j ρ, j < n → I j ρ → ∃ u ρ1, g (.int (0 + (j : Int))) ρ = some (u, ρ1) ∧ BodyQ (I (j + 1)) (fun ρ' => P (k ρ')) P (m ρ1)) (hd : ∀ ρ, I n ρ → P (k ρ)) : P (sSeq (sFor it g m) k ρ) := by
  refine st_for (α := Nat) (enc := fun k : Nat => D.int (0 + (k : Int))) (xs := List.range n) hi (fun ys ρ => I ys.length ρ) h0 ?_ ?_
  · intro ys j zs ρ q h
    obtain ⟨rfl, hj⟩ := range_at q
    obtain ⟨u, ρ1, a, b⟩ := hs ys.length ρ hj h
    exact ⟨u, ρ1, a, by rw [List.length_append]; exact b⟩
  · intro ρ h
    rw [List.length_range] at h
    exact hd ρ h
section
variable (C : Addr)
set_option maxHeartbeats 2000000 in
theorem v_law_faders {m many : Nat} {u : Pur} {L : Int} (hu : PurOk (m + 50 * many + 2) u) (hm : many ≤ 8) (hL : 1 ≤ L) (hL1 : L ≤ 1000000000000) :
    ∃ (ps : List Ps) (u' : Pur), F_law_faders C (encPu u) [.int L, .int many] = some (.tup (ps.map encP), encPu u') ∧ (∃ n, RowOk L ((rot allWords n).take 8) ps) ∧ ps.length ≤ many ∧ PurOk m u' := by
  have : ∃ r e, runO 3 2 (B_law_faders C) (encPu u) [.int L, .int many] = some (r, e) ∧ ∃ (ps : List Ps) (u' : Pur), r = .tup (ps.map encP) ∧ e = encPu u' ∧ (∃ n, RowOk L ((rot allWords n).take 8) ps) ∧ ps.length ≤ many ∧ PurOk m u' := by
    refine retOE ?_
    unfold B_law_faders
    have hu : PurOk (m + 50 * many + 1 + 1) u := hu
    obtain ⟨n, u1, e1, hu1⟩ := v_law_words C hu
    refine_lift' st [e1]
    generalize hw : (rot allWords n).take 8 = ws
    have hwl : ws.length = 8 := by rw [← hw, List.length_take, rot_len]; rfl
    obtain ⟨i2, u2, e2, i20, i21, hu2⟩ := v_law_draw C hu1 (n := (many : Int) + 1) (by omega) (by omega)
    obtain ⟨k, rfl⟩ : ∃ n : Nat, i2 = n := ⟨i2.toNat, by omega⟩
    have hk : k ≤ many := by omega
    obtain ⟨acc, ρ', hlc, u3, ps, x, rfl, rfl, hps, hrow, hu3⟩ := e_lcN (vs := [4]) (it := iFn rng1? (aCons (mCallO (F_law_draw C) 0 (aCons (mOp dAdd (mVar 2) (mC (.int 1))) aNil)) aNil)) (g := gNm 4) (e := mCallO (F_law_fader C) 0 (aCons (mOp dIx (mVar 3) (mVar 4)) (aCons (mVar 1) aNil))) (n := k)
      (ρ := [.own true (encPu u1), .dat (.int L), .dat (.int many), .dat (.lst (ws.map D.str)), .no]) (ρ1 := [.own true (encPu u2), .dat (.int L), .dat (.int many), .dat (.lst (ws.map D.str)), .no])
      (by refine it_rng1 (n := k) ?_ (by omega); refine_lift' eva [e2]) rfl (by omega)
      (fun j acc ρ => ∃ (u3 : Pur) (ps : List Ps) (x : Cell), ρ = [.own true (encPu u3), .dat (.int L), .dat (.int many), .dat (.lst (ws.map D.str)), x] ∧ acc = ps.map encP ∧ ps.length = j ∧ RowOk L ws ps ∧ PurOk (m + 50 * (many - j)) u3)
      ⟨u2, [], .no, rfl, rfl, rfl, ⟨rfl, fun p h => by cases h⟩, by simpa using hu2⟩
      (fun j acc ρ ⟨_, ps, _, _, h, h1, _⟩ => by rw [h, List.length_map, h1])
      (by
        rintro j acc ρ hj ⟨u3, ps, x, rfl, rfl, hps, hrow, hu3⟩
        have hix : dIx (.lst (ws.map D.str)) (.int (0 + (j : Int))) = some (.str (ws[j]'(by omega))) := by
          rw [ix_lst (by rw [List.length_map]; omega), List.getElem_map]
        obtain ⟨p, u4, e4, hn, hb, hu4⟩ := v_law_fader C (m := m + 50 * (many - (j + 1))) (ws[j]'(by omega)) (hu3.mono (by omega)) hL hL1
        exact ⟨(), [.own true (encPu u3), .dat (.int L), .dat (.int many), .dat (.lst (ws.map D.str)), .dat (.int (0 + (j : Int)))], encP p, [.own true (encPu u4), .dat (.int L), .dat (.int many), .dat (.lst (ws.map D.str)), .dat (.int (0 + (j : Int)))], rfl, by refine_lift' eva [hix, e4], u4, ps ++ [p], _, rfl, by rw [List.map_append]; rfl, by rw [List.length_append, hps]; rfl, hrow.snoc hb (by omega) (by rw [hn]; simp only [hps]), hu4⟩)
    refine st_one ?_
    have hlc' : mLc [4] (iFn rng1? (aCons (mCallO (F_law_draw C) 0 (aCons (mOp dAdd (mVar 2) (mC (.int 1))) aNil)) aNil)) (gNm 4) (mC true) (mCallO (F_law_fader C) 0 (aCons (mOp dIx (mVar 3) (mVar 4)) (aCons (mVar 1) aNil))) [.own true (encPu u1), .dat (.int L), .dat (.int many), .dat (.lst (ws.map D.str)), .no] = some (.lst (ps.map encP), [.own true (encPu u3), .dat (.int L), .dat (.int many), .dat (.lst (ws.map D.str)), .no]) := hlc
    refine st_ret (e_fn (f := dTuple) (z := .tup (ps.map encP)) (e_acons hlc' e_anil) rfl) ?_
    exact ro_rt ⟨ps, u3, rfl, rfl, ⟨n, by rw [hw]; exact hrow⟩, by omega, hu3.mono (by omega)⟩
  obtain ⟨r, e, h, ps, u', rfl, rfl, h2⟩ := this
  exact ⟨ps, u', h, h2⟩
theorem BodyOk.glide {L : Int} {p : Ps} (h : BodyOk L p) {g : Int} (h0 : 0 ≤ g) (h1 : g ≤ 100) : BodyOk L { p with glide := g } := ⟨h.mode, h.tail, h.rng, h.tl, h.tok, h0, h1⟩
end
end My
set_option exponentiation.threshold 20000
namespace My
open PySem PySem.Spec PyProof.Rows L2 DL
section
variable (C : Addr)
theorem sub_int (a b : Int) : dSub (.int a) (.int b) = some (.int (a - b)) := rfl
end
end My
set_option exponentiation.threshold 20000
namespace My
open PySem PySem.Spec PyProof.Rows L2 DL
section
variable (C : Addr)
/-- what was left in a name of a loop -/
def Loose (x : Cell) : Prop := x = .no ∨ ∃ d, x = .dat d
theorem Loose.d {d : D} : Loose (.dat d) := .inr ⟨_, rfl⟩
theorem Loose.n : Loose .no := .inl rfl
end
end My
set_option exponentiation.threshold 20000
namespace My
open PySem PySem.Spec PyProof.Rows L2 DL
def atL (L : Int) : List Ps → Int → List TQ
  | [], t => [⟨"old", t, 1⟩]
  | p :: r, t => (match (wrQ p L t).2 with
    | none => []
    | some y => (atL L r y.1).map (TQ.sc y.2)) ++ ((wrQ p L t).1.map fun x => TQ.mk p.name x.1 x.2).toList
theorem atL_perm (L : Int) : ∀ (ps : List Ps) (t : Int), (atL L ps t).Perm (atQ L ps t)
  | [], t => .refl _
  | p :: r, t => by
    rw [atL, atQ]
    refine List.perm_append_comm.trans (List.Perm.append_left _ ?_)
    cases (wrQ p L t).2 with
    | none => exact .refl _
    | some y => exact (atL_perm L r y.1).map _
theorem atQ_names (L : Int) : ∀ (ps : List Ps) (t : Int), ((atQ L ps t).map TQ.name).Sublist (ps.map Ps.name ++ [("old" : Str)])
  | [], t => .refl _
  | p :: r, t => by
    rw [atQ, List.map_append, List.map_cons, List.cons_append]
    have h2 : ((match (wrQ p L t).2 with
    | none => []
    | some y => (atQ L r y.1).map (TQ.sc y.2)).map TQ.name).Sublist (r.map Ps.name ++ [("old" : Str)]) := by
      cases (wrQ p L t).2 with
      | none => exact List.nil_sublist _
      | some y =>
        simp only [List.map_map]
        exact atQ_names L r y.1
    cases (wrQ p L t).1 with
    | none => exact h2.cons _
    | some x => exact h2.cons_cons _
theorem PssOk.old {L : Int} {ps : List Ps} (h : PssOk L ps) : (ps.map Ps.name ++ [("old" : Str)]).Nodup := by
  rw [List.nodup_append]
  refine ⟨h.nd, by simp, fun a ha b hb => ?_⟩
  obtain ⟨p, hp, rfl⟩ := List.mem_map.mp ha
  rw [List.mem_singleton.mp hb]
  exact (b_of_pass (h.ok p hp)).2.2
theorem PssOk.rev {L : Int} {ps : List Ps} (h : PssOk L ps) : PssOk L ps.reverse := ⟨fun p hp => h.sane p (List.mem_reverse.mp hp), fun p hp => h.ok p (List.mem_reverse.mp hp), by rw [List.map_reverse]; exact (List.reverse_perm _).nodup_iff.mpr h.nd, by rw [List.length_reverse]; exact h.len⟩
theorem PssOk.sub {L : Int} {ps qs : List Ps} (h : PssOk L ps) (s : qs.Sublist ps) : PssOk L qs := ⟨fun p hp => h.sane p (s.subset hp), fun p hp => h.ok p (s.subset hp), h.nd.sublist (s.map _), Nat.le_trans s.length_le h.len⟩
theorem atQ_nodup {L : Int} {ps : List Ps} (h : PssOk L ps) (t : Int) : ((atQ L ps t).map TQ.name).Nodup := h.old.sublist (atQ_names L ps t)
theorem atL_nodup {L : Int} {ps : List Ps} (h : PssOk L ps) (t : Int) : ((atL L ps t).map TQ.name).Nodup := ((atL_perm L ps t).map _).nodup_iff.mpr (atQ_nodup h t)
theorem atL_mem {L : Int} {ps : List Ps} {t : Int} {x : TQ} (h : x ∈ atL L ps t) : x.name ∈ ps.map Ps.name ++ [("old" : Str)] := (atQ_names L ps t).subset (List.mem_map.mpr ⟨x, (atL_perm L ps t).mem_iff.mp h, rfl⟩)
theorem wt_mul {j k : Nat} {a b : Rat} (h : WtOk j (ofQ a)) (h' : WtOk k (ofQ b)) : WtOk (j + k) (ofQ (a * b)) := by
  rw [← timesM_ofQ]
  exact lowM_ok (mul_wt h h')
theorem wt_frac {a b : Int} (h : 0 < b) (h1 : b ≤ 101) (h2 : 0 ≤ a) (h3 : a ≤ b) : WtOk 1 (ofQ ((a : Rat) / (b : Rat))) := by
  rw [← lowM_ofQ h]
  exact lowM_ok (wt1 h h1 h2 h3)
theorem wt_1 : WtOk 1 (ofQ 1) := by rw [ofQ_one]; exact wt1 (by decide) (by decide) (by decide) (by decide)
theorem wrQ_ok {p : Ps} {L t : Int} (hg0 : 0 ≤ p.glide) (hg : p.glide ≤ 100) : (∀ x, (wrQ p L t).1 = some x → WtOk 1 (ofQ x.2)) ∧ ∀ x, (wrQ p L t).2 = some x → WtOk 1 (ofQ x.2) := by
  unfold wrQ
  by_cases h1 : p.first ≤ t ∧ t < endM p L
  · rw [if_pos h1]
    cases e : lastT t p.touches none with
    | none => exact ⟨fun x h => (by cases h), fun x h => by cases h; exact wt_1⟩
    | some h =>
      have hle := lastT_le t p.touches none (fun _ q => by cases q) h e
      simp only
      by_cases hw : p.mode = "write" ∨ p.mode = "latch"
      · rw [if_pos hw]
        exact ⟨fun x h => by cases h; exact wt_1, fun x h => by cases h⟩
      · rw [if_neg hw]
        by_cases hgl : p.glide < t - h
        · rw [if_pos hgl]
          exact ⟨fun x h => (by cases h), fun x h => by cases h; exact wt_1⟩
        · rw [if_neg hgl]
          refine ⟨fun x h => by cases h; exact wt_frac (by omega) (by omega) (by omega) (by omega), fun x h => ?_⟩
          simp only at h
          split at h
          · cases h; exact wt_1
          · split at h
            · cases h
            · cases h; exact wt_frac (by omega) (by omega) (by omega) (by omega)
  · rw [if_neg h1]
    exact ⟨fun x h => (by cases h), fun x h => by cases h; exact wt_1⟩
theorem atL_wt {L : Int} : ∀ (ps : List Ps) (t : Int), (∀ p ∈ ps, 0 ≤ p.glide ∧ p.glide ≤ 100) → ∀ x ∈ atL L ps t, WtOk (ps.length + 1) (ofQ x.q)
  | [], t, _, x, hx => by
    simp only [atL, List.mem_singleton] at hx
    subst hx
    exact wt_1
  | p :: r, t, h, x, hx => by
    obtain ⟨o1, o2⟩ := wrQ_ok (L := L) (t := t) (h p List.mem_cons_self).1 (h p List.mem_cons_self).2
    rw [atL] at hx
    rcases List.mem_append.mp hx with hx | hx
    · cases e : (wrQ p L t).2 with
      | none => rw [e] at hx; cases hx
      | some y =>
        rw [e] at hx
        obtain ⟨z, hz, rfl⟩ := List.mem_map.mp hx
        have := wt_mul (o2 y e) (atL_wt r y.1 (fun q hq => h q (List.mem_cons_of_mem _ hq)) z hz)
        rw [List.length_cons]
        exact this.mono (by omega)
    · cases e : (wrQ p L t).1 with
      | none => rw [e] at hx; cases hx
      | some y =>
        rw [e] at hx
        simp only [Option.map_some, Option.toList_some, List.mem_singleton] at hx
        subst hx
        exact (o1 y e).mono (by omega)
end My
set_option exponentiation.threshold 20000
namespace My
open PySem PySem.Spec PyProof.Rows L2 DL
theorem Gd.up {m n : Nat} {d : D} (h : Gd m d) (k : m ≤ n) : Gd n d := ⟨h.p, h.l, Nat.le_trans h.dp k, h.e⟩
theorem eqs_of {n : Nat} {d e : D} (h : Gd n d) (h' : Gd n e) (hn : n ≤ 64) : eqs d e = some (PyData.eqv (toP d) (toP e)) := by
  unfold eqs
  have s : SeqAt.shaped (toP d) = true := by
    unfold SeqAt.shaped
    rw [h.l, decide_eq_true (Nat.le_trans h.dp hn)]
    rfl
  have s' : SeqAt.shaped (toP e) = true := by
    unfold SeqAt.shaped
    rw [h'.l, decide_eq_true (Nat.le_trans h'.dp hn)]
    rfl
  rw [if_pos ⟨h.p, h'.p, s, s'⟩]
theorem div_self_q {a : Int} (h : 0 < a) : ((a : Int) : Rat) / ((a : Int) : Rat) = 1 := by
  have : ((a : Int) : Rat) ≠ 0 := by exact_mod_cast Int.ne_of_gt h
  grind
end My
set_option exponentiation.threshold 20000
namespace My
open PySem PySem.Spec PyProof.Rows L2 DL
structure TmSh (t : Tm) : Prop where
  nm : PyData.strOk t.name = true
  nl : t.name.length ≤ 8
  at' : t.at'.natAbs < 10 ^ 19
  w1 : t.wt.1.natAbs < 10 ^ 19
  w2 : t.wt.2.natAbs < 10 ^ 19
theorem lastT_ge {t : Int} : ∀ (ts : List (Int × Int)) (f : Option Int) (lo hi : Int), touchesOk hi ts lo = true → 0 ≤ lo → (∀ h, f = some h → 0 ≤ h) → ∀ h, lastT t ts f = some h → 0 ≤ h
  | [], f, _, _, _, _, hf, h, e => hf h e
  | p :: r, f, lo, hi, ok, h0, hf, h, e => by
    rw [touchesOk] at ok
    simp only [Bool.and_eq_true, decide_eq_true_eq] at ok
    obtain ⟨⟨⟨a, _⟩, b, _⟩, ok⟩ := ok
    refine lastT_ge r _ _ _ ok (by omega) (fun x hx => ?_) h e
    split at hx
    · cases hx
      split <;> omega
    · exact hf x hx
theorem wrQ_at {p : Ps} {L t : Int} (hb : BodyOk L p) (h0 : 0 ≤ t) : (∀ x, (wrQ p L t).1 = some x → 0 ≤ x.1 ∧ x.1 ≤ t) ∧ ∀ x, (wrQ p L t).2 = some x → 0 ≤ x.1 ∧ x.1 ≤ t := by
  unfold wrQ
  have r := hb.rng
  by_cases h1 : p.first ≤ t ∧ t < endM p L
  · rw [if_pos h1]
    cases e : lastT t p.touches none with
    | none =>
      refine ⟨fun x h => (by cases h), fun x h => ?_⟩
      cases h
      simp only
      split <;> omega
    | some h =>
      have hle := lastT_le t p.touches none (fun _ q => by cases q) h e
      have hge := lastT_ge p.touches none p.first p.last hb.tok r.1 (fun _ q => by cases q) h e
      simp only
      by_cases hw : p.mode = "write" ∨ p.mode = "latch"
      · rw [if_pos hw]
        exact ⟨fun x h => by cases h; exact ⟨hge, hle⟩, fun x h => by cases h⟩
      · rw [if_neg hw]
        by_cases hgl : p.glide < t - h
        · rw [if_pos hgl]
          exact ⟨fun x h => (by cases h), fun x h => by cases h; exact ⟨h0, Int.le_refl _⟩⟩
        · rw [if_neg hgl]
          refine ⟨fun x h => by cases h; exact ⟨hge, hle⟩, fun x h => ?_⟩
          simp only at h
          split at h
          · cases h; exact ⟨h0, Int.le_refl _⟩
          · split at h
            · cases h
            · cases h; exact ⟨h0, Int.le_refl _⟩
  · rw [if_neg h1]
    exact ⟨fun x h => (by cases h), fun x h => by cases h; exact ⟨h0, Int.le_refl _⟩⟩
theorem atL_at {L : Int} : ∀ (ps : List Ps) (t : Int), (∀ p ∈ ps, BodyOk L p) → 0 ≤ t → ∀ x ∈ atL L ps t, 0 ≤ x.at' ∧ x.at' ≤ t
  | [], t, _, h0, x, hx => by
    simp only [atL, List.mem_singleton] at hx
    subst hx
    exact ⟨h0, Int.le_refl _⟩
  | p :: r, t, h, h0, x, hx => by
    obtain ⟨o1, o2⟩ := wrQ_at (h p List.mem_cons_self) h0
    rw [atL] at hx
    rcases List.mem_append.mp hx with hx | hx
    · cases e : (wrQ p L t).2 with
      | none => rw [e] at hx; cases hx
      | some y =>
        rw [e] at hx
        obtain ⟨z, hz, rfl⟩ := List.mem_map.mp hx
        obtain ⟨a, b⟩ := o2 y e
        have := atL_at r y.1 (fun q hq => h q (List.mem_cons_of_mem _ hq)) a z hz
        exact ⟨this.1, by show z.at' ≤ t; omega⟩
    · cases e : (wrQ p L t).1 with
      | none => rw [e] at hx; cases hx
      | some y =>
        rw [e] at hx
        simp only [Option.map_some, Option.toList_some, List.mem_singleton] at hx
        subst hx
        exact o1 y e
theorem name8 {x : Str} (h : nameOk x = true) : x.length ≤ 8 := by
  unfold nameOk at h
  simp only [Bool.and_eq_true, decide_eq_true_eq] at h
  exact h.1.1.2
theorem atL_sh {L t : Int} {ps : List Ps} (h : PssOk L ps) (h0 : 0 ≤ t) (h1 : t ≤ 1000000000000) : ∀ x ∈ atL L ps t, TmSh x.tm := by
  intro x hx
  have hm := atL_mem hx
  have ha := atL_at ps t (fun p hp => (b_of_pass (h.ok p hp)).1) h0 x hx
  have hw := atL_wt ps t (fun p hp => (b_of_pass (h.ok p hp)).1.gl) x hx
  have hn : PyData.strOk x.name = true ∧ x.name.length ≤ 8 := by
    rcases List.mem_append.mp hm with hm | hm
    · obtain ⟨p, hp, e⟩ := List.mem_map.mp hm
      rw [← e]
      exact ⟨(h.sane p hp).name, name8 (b_of_pass (h.ok p hp)).2.1⟩
    · rw [List.mem_singleton.mp hm]
      exact ⟨by decide +kernel, by decide +kernel⟩
  have hle := (hw.mono (k := 9) (by have := h.len; omega))
  have b1 : (101 : Int) ^ 9 = 1093685272684360901 := by decide +kernel
  have w1 := hle.pos
  have w2 := hle.le
  have w3 := hle.num
  have w4 := hle.lt
  rw [b1] at w2
  have e19 : (10 : Nat) ^ 19 = 10000000000000000000 := by decide +kernel
  refine ⟨hn.1, hn.2, ?_, ?_, ?_⟩
  · show x.at'.natAbs < _
    rw [e19]; omega
  · show (ofQ x.q).1.natAbs < _
    rw [e19]; omega
  · show (ofQ x.q).2.natAbs < _
    rw [e19]; omega
theorem form_atL {L : Int} {ps : List Ps} (h : PssOk L ps) (t : Int) : sortT (formM L ps.reverse (t, (1, 1))) = sortT ((atL L ps.reverse t).map TQ.tm) := by
  rw [formM_atQ L ps.reverse t fun p hp => (b_of_pass (h.ok p (List.mem_reverse.mp hp))).1.gl.1]
  refine sortT_perm ((atL_perm L ps.reverse t).symm.map _) ?_
  rw [List.map_map]
  exact atQ_nodup h.rev t
theorem atL_len {L : Int} {ps : List Ps} (t : Int) : (atL L ps t).length ≤ ps.length + 1 := by
  have h1 := (atQ_names L ps t).length_le
  rw [List.length_map, List.length_append, List.length_map, List.length_singleton] at h1
  rw [(atL_perm L ps t).length_eq]
  exact h1
theorem leD_str (x y : Str) : leD (.str x) (.str y) = !decide (y.cps.toList < x.cps.toList) := by
  show (!PySem.W.dataLt (toP (.str y)) (toP (.str x))) = _
  simp only [toP]
  rw [PySem.W.dataLt_str]
/-- terms in the order of their names -/
def byName (ts : List Tm) : List Tm := ts.mergeSort fun a b => leD (.str a.name) (.str b.name)
theorem byName_names (ts : List Tm) : (ts.map fun t => D.str t.name).mergeSort leD = (byName ts).map fun t => D.str t.name :=
  (List.map_mergeSort (r := fun a b : Tm => leD (.str a.name) (.str b.name)) (s := leD) (f := fun t : Tm => D.str t.name) fun a _ b _ => rfl).symm
theorem byName_perm (ts : List Tm) : (byName ts).Perm ts := List.mergeSort_perm _ _
theorem byName_sort {ts : List Tm} (nd : (ts.map Tm.name).Nodup) : (byName ts).map encTm = sortT ts := by
  have hp := byName_perm ts
  have nd2 : ((byName ts).map Tm.name).Nodup := (hp.map _).nodup_iff.mpr nd
  have hpw : ((byName ts).map encTm).Pairwise fun a b => leD a b = true := by
    have h1 : ((byName ts).map fun t => D.str t.name).Pairwise fun a b => leD a b = true := by
      rw [← byName_names]
      exact PySem.W.sort_pairwise leD_total _
    rw [List.pairwise_map] at h1 ⊢
    have h2 : (byName ts).Pairwise fun a b => a.name ≠ b.name := List.pairwise_map.mp nd2
    refine (h1.and h2).imp fun {a b} h => ?_
    rw [leD_tm h.2]
    rw [leD_str] at h
    exact h.1
  have e : sortT (byName ts) = sortT ts := sortT_perm hp nd2
  rw [← e]
  unfold sortT
  exact (List.mergeSort_of_pairwise hpw).symm
end My
set_option exponentiation.threshold 20000
namespace My
open PySem PySem.Spec PyProof.Rows L2 DL
theorem sc_ones (xs : List TQ) : xs.map (TQ.sc 1) = xs := by
  have : ∀ x ∈ xs, TQ.sc 1 x = x := fun x _ => by
    cases x
    simp only [TQ.sc]
    congr 1
    grind
  rw [List.map_congr_left this, List.map_id']
/-- all of them -/
def AL (F : Int → D) (n : Nat) : List D := (List.range n).map fun k : Nat => F (k : Int)
theorem AL_len (F : Int → D) (n : Nat) : (AL F n).length = n := by unfold AL; rw [List.length_map, List.length_range]
theorem AL_congr {F G : Int → D} {n : Nat} (h : ∀ k : Int, 0 ≤ k → k < n → F k = G k) : AL F n = AL G n := List.map_congr_left fun k hk => h k (by omega) (by have := List.mem_range.mp hk; omega)
theorem AL_get {F : Int → D} {n i : Nat} (h : i < (AL F n).length) : (AL F n)[i] = F i := by simp [AL]
theorem ix_AL (F : Int → D) {n : Nat} {k : Int} (h0 : 0 ≤ k) (h1 : k < n) : dIx (.lst (AL F n)) (.int k) = some (F k) := by
  obtain ⟨i, rfl⟩ : ∃ i : Nat, k = i := ⟨k.toNat, by omega⟩
  have h2 : i < (AL F n).length := by rw [AL_len]; omega
  have := ix_lst (ds := AL F n) (k := i) h2
  rw [Int.zero_add] at this
  rw [this, AL_get]
theorem AL_set (F : Int → D) (n i : Nat) (d : D) : (AL F n).set i d = AL (fun k => if k = (i : Int) then d else F k) n := by
  refine List.ext_getElem (by rw [List.length_set, AL_len, AL_len]) fun j h1 h2 => ?_
  rw [AL_get, List.getElem_set, AL_get]
  by_cases e : i = j
  · rw [if_pos e, if_pos (by omega)]
  · rw [if_neg e, if_neg (by omega)]
theorem ixN_nat {n i : Nat} (h : i < n) : ixN n (i : Int) = some i := by
  unfold ixN
  rw [if_pos (by omega), if_pos (by omega)]
  simp
def mixF (a : Int) (j : Nat) (X A : Int → D) (k : Int) : D := if a ≤ k ∧ k < a + (j : Int) then X k else A k
theorem mix_step {f : Int} {a : Nat} (hf : f = (a : Int)) (j n : Nat) (X A : Int → D) : (AL (mixF f j X A) n).set (a + j) (X (f + (j : Int))) = AL (mixF f (j + 1) X A) n := by
  subst hf
  rw [AL_set]
  refine AL_congr fun k _ _ => ?_
  unfold mixF
  by_cases e : k = ((a + j : Nat) : Int)
  · rw [if_pos e, if_pos ⟨by omega, by omega⟩, e]
    congr 1
  · rw [if_neg e]
    by_cases q : (a : Int) ≤ k ∧ k < a + (j : Int)
    · rw [if_pos q, if_pos ⟨q.1, by omega⟩]
    · rw [if_neg q, if_neg (by omega)]
theorem mix_zero (f : Int) (n : Nat) (X A : Int → D) : AL (mixF f 0 X A) n = AL A n := AL_congr fun k _ _ => by
  unfold mixF
  rw [if_neg (by omega)]
end My
set_option exponentiation.threshold 20000
namespace My
open PySem PySem.Spec PyProof.Rows L2 DL
def gliding (m : Str) : Bool := decide (m = "touch") || decide (m = "trim")
def rngI (a b : Int) : List Int := (List.range (b - a).toNat).map fun k : Nat => a + (k : Int)
theorem mem_rngI {a b x : Int} : x ∈ rngI a b ↔ a ≤ x ∧ x < b := by
  unfold rngI
  simp only [List.mem_map, List.mem_range]
  constructor
  · rintro ⟨k, hk, rfl⟩
    omega
  · rintro ⟨h1, h2⟩
    exact ⟨(x - a).toNat, by omega, by omega⟩
def minI (a b : Int) : Int := if b < a then b else a
theorem minI_le (a b : Int) : minI a b ≤ a ∧ minI a b ≤ b ∧ (minI a b = a ∨ minI a b = b) := by
  unfold minI
  split <;> omega
/-- the ticks from which on a pass does something else -/
def edgesM (p : Ps) (L : Int) : List Int := [p.first, p.first + 1, endM p L] ++ p.touches.flatMap fun q => q.1 :: rngI q.2 (minI (q.2 + (if gliding p.mode then p.glide else 0)) (endM p L) + 1)
theorem touches_in {hi : Int} : ∀ {ts : List (Int × Int)} {lo : Int}, touchesOk hi ts lo = true → ∀ q ∈ ts, lo ≤ q.1 ∧ q.1 + 1 ≤ q.2 ∧ q.2 ≤ hi
  | [], _, _, _, h => absurd h List.not_mem_nil
  | p :: r, lo, h, q, hq => by
    rw [touchesOk] at h
    simp only [Bool.and_eq_true, decide_eq_true_eq] at h
    rcases List.mem_cons.mp hq with e | hq
    · subst e
      omega
    · have := touches_in h.2 q hq
      omega
/-- the terms of a tick, by name -/
def formT (L : Int) (ps : List Ps) (t : Int) : List Tm := byName ((atQ L ps.reverse t).map TQ.tm)
theorem formT_nd {L : Int} {ps : List Ps} (h : PssOk L ps) (t : Int) : (((atQ L ps.reverse t).map TQ.tm).map Tm.name).Nodup := by
  rw [List.map_map]
  exact atQ_nodup h.rev t
theorem formD_T {L : Int} {ps : List Ps} (h : PssOk L ps) (t : Int) : formD L ps t = .tup ((formT L ps t).map encTm) := by
  unfold formD formT
  rw [byName_sort (formT_nd h t), formM_atQ L ps.reverse t fun p hp => (b_of_pass (h.rev.ok p hp)).1.gl.1]
end My
set_option exponentiation.threshold 20000
set_option exponentiation.threshold 20000
namespace My
open PySem PySem.Spec PyProof.Rows L2 DL
/-- the pairs of neighbours -/
def segsM : Int → List Int → List (Int × Int)
  | _, [] => []
  | a, b :: r => (a, b) :: segsM b r
def edgesAll (L : Int) (ps : List Ps) : List Int := [0, L] ++ ps.flatMap fun p => edgesM p L
theorem edges_in {p : Ps} {L e : Int} (h : BodyOk L p) (he : e ∈ edgesM p L) : 0 ≤ e ∧ e ≤ L := by
  have h1 := h.rng
  have h2 : p.last ≤ endM p L ∧ endM p L ≤ L := by
    unfold endM
    split <;> omega
  unfold edgesM at he
  rcases List.mem_append.mp he with he | he
  · simp only [List.mem_cons, List.not_mem_nil, or_false] at he
    omega
  · obtain ⟨q, hq, he⟩ := List.mem_flatMap.mp he
    have h3 := touches_in h.tok q hq
    rcases List.mem_cons.mp he with rfl | he
    · omega
    · have := mem_rngI.mp he
      have := minI_le (q.2 + (if gliding p.mode then p.glide else 0)) (endM p L)
      omega
theorem edgesAll_in {L e : Int} {ps : List Ps} (hL : 1 ≤ L) (h : ∀ p ∈ ps, BodyOk L p) (he : e ∈ edgesAll L ps) : 0 ≤ e ∧ e ≤ L := by
  unfold edgesAll at he
  rcases List.mem_append.mp he with he | he
  · simp only [List.mem_cons, List.not_mem_nil, or_false] at he
    omega
  · obtain ⟨p, hp, he⟩ := List.mem_flatMap.mp he
    exact edges_in (h p hp) he
/-- the segments of tracks of a length with passes -/
def segsOf (L : Int) (ps : List Ps) : List (Int × Int) := match sortU (edgesAll L ps) with
  | [] => []
  | a :: r => segsM a r
/-- stretches one behind the other, from a to b -/
inductive Run : Int → List (Int × Int) → Int → Prop
  | nil (a : Int) : Run a [] a
  | cons {a b c : Int} {r : List (Int × Int)} : a < b → Run b r c → Run a ((a, b) :: r) c
theorem segsM_run : ∀ (a : Int) (r : List Int), (a :: r).Pairwise (· < ·) → Run a (segsM a r) ((a :: r).getLast (by simp))
  | a, [], _ => .nil a
  | a, b :: r, h => by
    obtain ⟨h1, h2⟩ := List.pairwise_cons.mp h
    rw [segsM, List.getLast_cons (by simp)]
    exact .cons (h1 b List.mem_cons_self) (segsM_run b r h2)
theorem Run.le {a c : Int} {r : List (Int × Int)} (h : Run a r c) : a ≤ c := by
  induction h with
  | nil => exact Int.le_refl _
  | cons h _ ih => omega
theorem segs_run {L : Int} {ps : List Ps} (hL : 1 ≤ L) (h : ∀ p ∈ ps, BodyOk L p) : Run 0 (segsOf L ps) L := by
  have ris := sortU_ris (edgesAll L ps)
  have m0 : (0 : Int) ∈ sortU (edgesAll L ps) := mem_sortU.mpr (by simp [edgesAll])
  have mL : L ∈ sortU (edgesAll L ps) := mem_sortU.mpr (by simp [edgesAll])
  have hin : ∀ e ∈ sortU (edgesAll L ps), 0 ≤ e ∧ e ≤ L := fun e he => edgesAll_in hL h (mem_sortU.mp he)
  unfold segsOf
  cases hs : sortU (edgesAll L ps) with
  | nil => rw [hs] at m0; cases m0
  | cons a r =>
    rw [hs] at ris m0 mL hin
    have ha : a = 0 := by
      rcases List.mem_cons.mp m0 with e | e
      · exact e.symm
      · have := (List.pairwise_cons.mp ris).1 0 e
        have := (hin a List.mem_cons_self).1
        omega
    have hl : (a :: r).getLast (by simp) = L := by
      have lm := hin _ (List.getLast_mem (l := a :: r) (by simp))
      have : ∀ (l : List Int) (hn : l ≠ []), l.Pairwise (· < ·) → ∀ x ∈ l, x ≤ l.getLast hn := by
        intro l
        induction l with
        | nil => intro hn; exact absurd rfl hn
        | cons y l ih =>
          intro _ hp x hx
          obtain ⟨p1, p2⟩ := List.pairwise_cons.mp hp
          by_cases hl : l = []
          · subst hl
            rcases List.mem_cons.mp hx with rfl | hx
            · exact Int.le_refl _
            · cases hx
          · rw [List.getLast_cons hl]
            rcases List.mem_cons.mp hx with rfl | hx
            · exact Int.le_of_lt (p1 _ (List.getLast_mem hl))
            · exact ih hl p2 x hx
      have := this (a :: r) (by simp) ris L mL
      omega
    have := segsM_run a r ris
    rw [hl] at this
    subst ha
    exact this
end My
set_option exponentiation.threshold 20000
namespace My
open PySem PySem.Spec PyProof.Rows L2 DL
def Norm : Int → List (Int × Int) → Prop
  | _, [] => True
  | lo, s :: r => lo < s.1 ∧ s.1 < s.2 ∧ Norm s.2 r
def Mem (t : Int) (l : List (Int × Int)) : Prop := ∃ s ∈ l, s.1 ≤ t ∧ t < s.2
theorem Norm.low : ∀ {lo : Int} {l : List (Int × Int)}, Norm lo l → ∀ s ∈ l, lo < s.1 ∧ s.1 < s.2
  | _, [], _, s, hs => absurd hs List.not_mem_nil
  | lo, x :: r, h, s, hs => by
    obtain ⟨h1, h2, h3⟩ := h
    rcases List.mem_cons.mp hs with rfl | hs
    · exact ⟨h1, h2⟩
    · have := Norm.low h3 s hs
      omega
theorem Norm.snoc {s : Int × Int} : ∀ {lo : Int} {l : List (Int × Int)}, Norm lo l → lo < s.1 → (∀ x ∈ l, x.2 < s.1) → s.1 < s.2 → Norm lo (l ++ [s])
  | _, [], _, h1, _, h3 => ⟨h1, h3, trivial⟩
  | _, x :: r, h, _, h2, h3 => ⟨h.1, h.2.1, Norm.snoc h.2.2 (h2 x List.mem_cons_self) (fun y hy => h2 y (List.mem_cons_of_mem _ hy)) h3⟩
theorem Norm.init {s : Int × Int} : ∀ {lo : Int} {l : List (Int × Int)}, Norm lo (l ++ [s]) → Norm lo l ∧ lo < s.1 ∧ (∀ x ∈ l, x.2 < s.1) ∧ s.1 < s.2
  | _, [], h => ⟨trivial, h.1, fun _ z => absurd z List.not_mem_nil, h.2.1⟩
  | lo, x :: r, h => by
    obtain ⟨a, b, c, d⟩ := Norm.init (l := r) h.2.2
    have h1 := h.1
    have h2 := h.2.1
    refine ⟨⟨h1, h2, a⟩, by omega, fun y hy => ?_, d⟩
    rcases List.mem_cons.mp hy with rfl | hy
    · exact b
    · exact c y hy
/-- what the loop makes of stretches whose beginnings ascend -/
def addS (l : List (Int × Int)) (s : Int × Int) : List (Int × Int) := match l.getLast? with
  | none => [s]
  | some x => if s.1 ≤ x.2 then l.dropLast ++ [(x.1, if x.2 < s.2 then s.2 else x.2)] else l ++ [s]
theorem addS_snoc (l : List (Int × Int)) (x s : Int × Int) : addS (l ++ [x]) s = if s.1 ≤ x.2 then l ++ [(x.1, if x.2 < s.2 then s.2 else x.2)] else l ++ [x] ++ [s] := by
  unfold addS
  rw [List.getLast?_concat, List.dropLast_concat]
theorem snoc_of {α : Type} : ∀ (l : List α), l = [] ∨ ∃ r x, l = r ++ [x] := fun l => by
  cases e : l.reverse with
  | nil => exact .inl (List.reverse_eq_nil_iff.mp e)
  | cons x r => exact .inr ⟨r.reverse, x, by rw [← List.reverse_reverse l, e, List.reverse_cons]⟩
theorem Mem.app {t : Int} {l m : List (Int × Int)} : Mem t (l ++ m) ↔ Mem t l ∨ Mem t m := by
  constructor
  · rintro ⟨s, hs, k⟩
    rcases List.mem_append.mp hs with hs | hs
    · exact .inl ⟨s, hs, k⟩
    · exact .inr ⟨s, hs, k⟩
  · rintro (⟨s, hs, k⟩ | ⟨s, hs, k⟩)
    · exact ⟨s, List.mem_append_left _ hs, k⟩
    · exact ⟨s, List.mem_append_right _ hs, k⟩
theorem Mem.one {t : Int} {s : Int × Int} : Mem t [s] ↔ s.1 ≤ t ∧ t < s.2 := by
  constructor
  · rintro ⟨x, hx, k⟩
    rw [List.mem_singleton.mp hx] at k
    exact k
  · exact fun k => ⟨s, List.mem_singleton.mpr rfl, k⟩
/-- the loop's promise -/
structure Joined (lo : Int) (ys l : List (Int × Int)) : Prop where
  nm : Norm lo l
  mem : ∀ t, Mem t l ↔ Mem t ys
  from' : ∀ s ∈ l, ∃ y ∈ ys, s.1 = y.1
  len : l.length ≤ ys.length
theorem Joined.add {lo : Int} {ys l : List (Int × Int)} {s : Int × Int} (h : Joined lo ys l) (h1 : lo < s.1) (h2 : s.1 < s.2) (h3 : ∀ y ∈ ys, y.1 ≤ s.1) : Joined lo (ys ++ [s]) (addS l s) := by
  have hl := h.len
  rcases snoc_of l with rfl | ⟨r, x, rfl⟩
  · refine ⟨⟨h1, h2, trivial⟩, fun t => ?_, fun z hz => ⟨s, List.mem_append_right _ (List.mem_singleton.mpr rfl), by rw [List.mem_singleton.mp hz]⟩, by simp [addS]⟩
    rw [show addS [] s = [s] from rfl, Mem.app, ← h.mem t]
    constructor
    · exact .inr
    · rintro (⟨_, z, _⟩ | z)
      · cases z
      · exact z
  · obtain ⟨n1, n2, n3, n4⟩ := h.nm.init
    obtain ⟨y, hy, ey⟩ := h.from' x (List.mem_append_right _ (List.mem_singleton.mpr rfl))
    have hx := h3 y hy
    rw [addS_snoc]
    by_cases c : s.1 ≤ x.2
    · rw [if_pos c]
      have big : (if x.2 < s.2 then s.2 else x.2) = s.2 ∧ x.2 < s.2 ∨ (if x.2 < s.2 then s.2 else x.2) = x.2 ∧ s.2 ≤ x.2 := by
        split <;> omega
      generalize (if x.2 < s.2 then s.2 else x.2) = m at big
      refine ⟨n1.snoc (s := (x.1, m)) n2 n3 (by show x.1 < m; omega), fun t => ?_, fun z hz => ?_, by simp only [List.length_append, List.length_cons, List.length_nil] at hl ⊢; omega⟩
      · rw [Mem.app, Mem.app, ← h.mem t, Mem.app, Mem.one, Mem.one, Mem.one]
        show Mem t r ∨ (x.1 ≤ t ∧ t < m) ↔ _
        constructor
        · rintro (k | k)
          · exact .inl (.inl k)
          · by_cases ct : t < x.2
            · exact .inl (.inr ⟨k.1, ct⟩)
            · exact .inr (by omega)
        · rintro ((k | k) | k)
          · exact .inl k
          · exact .inr (by omega)
          · exact .inr (by omega)
      · rcases List.mem_append.mp hz with hz | hz
        · obtain ⟨w, hw, ew⟩ := h.from' z (List.mem_append_left _ hz)
          exact ⟨w, List.mem_append_left _ hw, ew⟩
        · rw [List.mem_singleton.mp hz]
          exact ⟨y, List.mem_append_left _ hy, ey⟩
    · rw [if_neg c]
      refine ⟨h.nm.snoc h1 (fun z hz => ?_) h2, fun t => ?_, fun z hz => ?_, by simp only [List.length_append, List.length_cons, List.length_nil] at hl ⊢; omega⟩
      · rcases List.mem_append.mp hz with hz | hz
        · have := n3 z hz
          omega
        · rw [List.mem_singleton.mp hz]
          omega
      · rw [Mem.app (l := r ++ [x]), Mem.app (l := ys), h.mem t]
      · rcases List.mem_append.mp hz with hz | hz
        · obtain ⟨w, hw, ew⟩ := h.from' z hz
          exact ⟨w, List.mem_append_left _ hw, ew⟩
        · rw [List.mem_singleton.mp hz]
          exact ⟨s, List.mem_append_right _ (List.mem_singleton.mpr rfl), rfl⟩
end My
set_option exponentiation.threshold 20000
namespace My
open PySem PySem.Spec PyProof.Rows L2 DL
/-- what two tracks have in common for what follows -/
structure Two (L : Int) (ps qs : List Ps) : Prop where
  p : PssOk L ps
  q : PssOk L qs
  l1 : 1 ≤ L
  l2 : L ≤ 1000000000000
  few : (edgesAll L (ps ++ qs)).length + 1 < 4096
theorem Two.body {L : Int} {ps qs : List Ps} (h : Two L ps qs) : ∀ p ∈ ps ++ qs, BodyOk L p := fun p hp => by
  rcases List.mem_append.mp hp with hp | hp
  · exact (b_of_pass (h.p.ok p hp)).1
  · exact (b_of_pass (h.q.ok p hp)).1
theorem Two.run {L : Int} {ps qs : List Ps} (h : Two L ps qs) : Run 0 (segsOf L (ps ++ qs)) L := segs_run h.l1 h.body
end My
set_option exponentiation.threshold 20000
namespace My
open PySem PySem.Spec PyProof.Rows L2 DL
def sumQ : List Rat → Rat
  | [] => 0
  | a :: r => a + sumQ r
theorem sumQ_perm {l l' : List Rat} (h : l.Perm l') : sumQ l = sumQ l' := by
  induction h with
  | nil => rfl
  | cons a _ ih => simp only [sumQ, ih]
  | swap a b l => simp only [sumQ]; grind
  | trans _ _ h1 h2 => rw [h1, h2]
theorem sumQ_app (l l' : List Rat) : sumQ (l ++ l') = sumQ l + sumQ l' := by
  induction l with
  | nil => simp only [List.nil_append, sumQ]; grind
  | cons a l ih => simp only [List.cons_append, sumQ, ih]; grind
theorem sumQ_mul (q : Rat) (l : List Rat) : sumQ (l.map fun x => q * x) = q * sumQ l := by
  induction l with
  | nil => simp only [List.map_nil, sumQ]; grind
  | cons a l ih => simp only [List.map_cons, sumQ, ih]; grind
theorem frac_add {a b g : Int} (hg : 0 < g) (h : a + b = g) : ((a : Int) : Rat) / ((g : Int) : Rat) + ((b : Int) : Rat) / ((g : Int) : Rat) = 1 := by
  have hne : ((g : Int) : Rat) ≠ 0 := by exact_mod_cast Int.ne_of_gt hg
  have : ((a : Int) : Rat) + ((b : Int) : Rat) = ((g : Int) : Rat) := by rw [← h, Rat.intCast_add]
  grind
theorem frac_pos {a g : Int} (hg : 0 < g) (h : 0 < a) : 0 < ((a : Int) : Rat) / ((g : Int) : Rat) := by
  have h1 : (0 : Rat) < ((a : Int) : Rat) := by exact_mod_cast h
  have h2 : (0 : Rat) < ((g : Int) : Rat) := by exact_mod_cast hg
  rw [Rat.div_def]
  exact Rat.mul_pos h1 (Rat.inv_pos.mpr h2)
theorem lastT_in {t : Int} : ∀ (ts : List (Int × Int)) (f : Option Int) (lo hi : Int), touchesOk hi ts lo = true → ∀ h, lastT t ts f = some h → (∃ p ∈ ts, p.1 ≤ h ∧ h < p.2) ∨ f = some h
  | [], f, _, _, _, h, e => .inr e
  | p :: r, f, lo, hi, ok, h, e => by
    rw [touchesOk] at ok
    simp only [Bool.and_eq_true, decide_eq_true_eq] at ok
    obtain ⟨⟨⟨a, _⟩, b, _⟩, ok⟩ := ok
    rcases lastT_in r _ _ _ ok h e with ⟨q, hq, h1⟩ | e2
    · exact .inl ⟨q, List.mem_cons_of_mem _ hq, h1⟩
    · split at e2
      · rename_i c
        cases e2
        refine .inl ⟨p, List.mem_cons_self, ?_⟩
        split <;> omega
      · exact .inr e2
/-- what wrQ tells, all at once -/
structure WrFacts (p : Ps) (L t : Int) : Prop where
  p1 : ∀ x, (wrQ p L t).1 = some x → 0 < x.2
  p2 : ∀ x, (wrQ p L t).2 = some x → 0 < x.2
  tc : ∀ x, (wrQ p L t).1 = some x → ∃ q ∈ p.touches, q.1 ≤ x.1 ∧ x.1 < q.2
  sm : (if p.mode = "trim" then 0 else match (wrQ p L t).1 with
    | none => 0
    | some x => x.2) + (match (wrQ p L t).2 with
    | none => 0
    | some x => x.2) = (1 : Rat)
theorem wr_facts {p : Ps} {L : Int} (hb : BodyOk L p) (t : Int) : WrFacts p L t := by
  have g := hb.gl
  have one : (0 : Rat) < 1 := by decide
  have z1 : (0 : Rat) + 1 = 1 := by grind
  have o0 : (1 : Rat) + 0 = 1 := by grind
  have nw : ¬ (("write" : Str) = "trim") := by decide +kernel
  have nl : ¬ (("latch" : Str) = "trim") := by decide +kernel
  by_cases h1 : p.first ≤ t ∧ t < endM p L
  · cases e : lastT t p.touches none with
    | none =>
      have w : wrQ p L t = (none, some (if p.mode = "write" then p.first else t, 1)) := by
        unfold wrQ; rw [if_pos h1, e]
      refine ⟨fun x h => ?_, fun x h => ?_, fun x h => ?_, ?_⟩ <;> rw [w] at *
      · cases h
      · cases h; exact one
      · cases h
      · simp only; split <;> exact z1
    | some h =>
      have hle := lastT_le t p.touches none (fun _ q => by cases q) h e
      have hin : ∃ q ∈ p.touches, q.1 ≤ h ∧ h < q.2 := by
        rcases lastT_in p.touches none p.first p.last hb.tok h e with x | x
        · exact x
        · cases x
      by_cases hw : p.mode = "write" ∨ p.mode = "latch"
      · have w : wrQ p L t = (some (h, 1), none) := by
          unfold wrQ; rw [if_pos h1, e]; simp only; rw [if_pos hw]
        have nt : ¬ p.mode = "trim" := by rcases hw with q | q <;> rw [q] <;> assumption
        refine ⟨fun x q => ?_, fun x q => ?_, fun x q => ?_, ?_⟩ <;> rw [w] at *
        · cases q; exact one
        · cases q
        · cases q; exact hin
        · simp only; rw [if_neg nt]; exact o0
      · by_cases hgl : p.glide < t - h
        · have w : wrQ p L t = (none, some (t, 1)) := by
            unfold wrQ; rw [if_pos h1, e]; simp only; rw [if_neg hw, if_pos hgl]
          refine ⟨fun x q => ?_, fun x q => ?_, fun x q => ?_, ?_⟩ <;> rw [w] at *
          · cases q
          · cases q; exact one
          · cases q
          · simp only; split <;> exact z1
        · have hpos : 0 < p.glide + 1 := by omega
          by_cases htr : p.mode = "trim"
          · have w : wrQ p L t = (some (h, ((p.glide + 1 - (t - h) : Int) : Rat) / ((p.glide + 1 : Int) : Rat)), some (t, 1)) := by
              unfold wrQ; rw [if_pos h1, e]; simp only; rw [if_neg hw, if_neg hgl, if_pos htr]
            refine ⟨fun x q => ?_, fun x q => ?_, fun x q => ?_, ?_⟩ <;> rw [w] at *
            · cases q; exact frac_pos hpos (by omega)
            · cases q; exact one
            · cases q; exact hin
            · simp only; rw [if_pos htr]; exact z1
          · by_cases hth : t = h
            · have w : wrQ p L t = (some (h, ((p.glide + 1 - (t - h) : Int) : Rat) / ((p.glide + 1 : Int) : Rat)), none) := by
                unfold wrQ; rw [if_pos h1, e]; simp only; rw [if_neg hw, if_neg hgl, if_neg htr, if_pos hth]
              refine ⟨fun x q => ?_, fun x q => ?_, fun x q => ?_, ?_⟩ <;> rw [w] at *
              · cases q; exact frac_pos hpos (by omega)
              · cases q
              · cases q; exact hin
              · simp only; rw [if_neg htr, show p.glide + 1 - (t - h) = p.glide + 1 by omega, div_self_q hpos]; exact o0
            · have w : wrQ p L t = (some (h, ((p.glide + 1 - (t - h) : Int) : Rat) / ((p.glide + 1 : Int) : Rat)), some (t, ((t - h : Int) : Rat) / ((p.glide + 1 : Int) : Rat))) := by
                unfold wrQ; rw [if_pos h1, e]; simp only; rw [if_neg hw, if_neg hgl, if_neg htr, if_neg hth]
              refine ⟨fun x q => ?_, fun x q => ?_, fun x q => ?_, ?_⟩ <;> rw [w] at *
              · cases q; exact frac_pos hpos (by omega)
              · cases q; exact frac_pos hpos (by omega)
              · cases q; exact hin
              · simp only; rw [if_neg htr]; exact frac_add hpos (by omega)
  · have w : wrQ p L t = (none, some (t, 1)) := by unfold wrQ; rw [if_neg h1]
    refine ⟨fun x q => ?_, fun x q => ?_, fun x q => ?_, ?_⟩ <;> rw [w] at *
    · cases q
    · cases q; exact one
    · cases q
    · simp only; split <;> exact z1
theorem atQ_pos {L : Int} : ∀ (ps : List Ps) (t : Int), (∀ p ∈ ps, BodyOk L p) → ∀ x ∈ atQ L ps t, 0 < x.q
  | [], t, _, x, hx => by
    simp only [atQ, List.mem_singleton] at hx
    subst hx
    show (0 : Rat) < 1
    decide
  | p :: r, t, h, x, hx => by
    have f := wr_facts (h p List.mem_cons_self) t
    rw [atQ] at hx
    rcases List.mem_append.mp hx with hx | hx
    · cases e : (wrQ p L t).1 with
      | none => rw [e] at hx; cases hx
      | some y =>
        rw [e] at hx
        simp only [Option.map_some, Option.toList_some, List.mem_singleton] at hx
        subst hx
        exact f.p1 y e
    · cases e : (wrQ p L t).2 with
      | none => rw [e] at hx; cases hx
      | some y =>
        rw [e] at hx
        obtain ⟨z, hz, rfl⟩ := List.mem_map.mp hx
        exact Rat.mul_pos (f.p2 y e) (atQ_pos r y.1 (fun q hq => h q (List.mem_cons_of_mem _ hq)) z hz)
theorem atQ_touched {L : Int} : ∀ (ps : List Ps) (t : Int), (∀ p ∈ ps, BodyOk L p) → ∀ x ∈ atQ L ps t, x.name = "old" ∨ ∃ p ∈ ps, p.name = x.name ∧ ∃ q ∈ p.touches, q.1 ≤ x.at' ∧ x.at' < q.2
  | [], t, _, x, hx => by
    simp only [atQ, List.mem_singleton] at hx
    subst hx
    exact .inl rfl
  | p :: r, t, h, x, hx => by
    have f := wr_facts (h p List.mem_cons_self) t
    rw [atQ] at hx
    rcases List.mem_append.mp hx with hx | hx
    · cases e : (wrQ p L t).1 with
      | none => rw [e] at hx; cases hx
      | some y =>
        rw [e] at hx
        simp only [Option.map_some, Option.toList_some, List.mem_singleton] at hx
        subst hx
        exact .inr ⟨p, List.mem_cons_self, rfl, f.tc y e⟩
    · cases e : (wrQ p L t).2 with
      | none => rw [e] at hx; cases hx
      | some y =>
        rw [e] at hx
        obtain ⟨z, hz, rfl⟩ := List.mem_map.mp hx
        rcases atQ_touched r y.1 (fun q hq => h q (List.mem_cons_of_mem _ hq)) z hz with q | ⟨q, hq, h2⟩
        · exact .inl q
        · exact .inr ⟨q, List.mem_cons_of_mem _ hq, h2⟩
/-- the weights of what is no trim -/
def plainSum (T : List Str) (xs : List TQ) : Rat := sumQ ((xs.filter fun x => !T.contains x.name).map TQ.q)
theorem plain_app (T : List Str) (xs ys : List TQ) : plainSum T (xs ++ ys) = plainSum T xs + plainSum T ys := by
  unfold plainSum
  rw [List.filter_append, List.map_append, sumQ_app]
theorem plain_sc (T : List Str) (q : Rat) (xs : List TQ) : plainSum T (xs.map (TQ.sc q)) = q * plainSum T xs := by
  unfold plainSum
  rw [← sumQ_mul, List.filter_map, List.map_map, List.map_map]
  rfl
theorem plain_perm (T : List Str) {xs ys : List TQ} (h : xs.Perm ys) : plainSum T xs = plainSum T ys := sumQ_perm ((h.filter _).map _)
theorem plain_one {L : Int} {T : List Str} (ho : T.contains "old" = false) : ∀ (ps : List Ps) (t : Int), (∀ p ∈ ps, BodyOk L p) → (∀ p ∈ ps, T.contains p.name = decide (p.mode = "trim")) → plainSum T (atQ L ps t) = 1
  | [], t, _, _ => by
    unfold plainSum
    rw [atQ, List.filter_cons_of_pos (by rw [ho]; rfl)]
    simp only [List.filter_nil, List.map_cons, List.map_nil, sumQ]
    grind
  | p :: r, t, h, hT => by
    have f := (wr_facts (h p List.mem_cons_self) t).sm
    have ih := fun t' => plain_one (T := T) ho r t' (fun q hq => h q (List.mem_cons_of_mem _ hq)) (fun q hq => hT q (List.mem_cons_of_mem _ hq))
    have hp := hT p List.mem_cons_self
    rw [atQ, plain_app]
    have e2 : plainSum T (match (wrQ p L t).2 with
    | none => []
    | some y => (atQ L r y.1).map (TQ.sc y.2)) = match (wrQ p L t).2 with
    | none => 0
    | some x => x.2 := by
      cases (wrQ p L t).2 with
      | none => rfl
      | some y =>
        simp only [plain_sc, ih y.1]
        grind
    have e1 : plainSum T ((wrQ p L t).1.map fun x => TQ.mk p.name x.1 x.2).toList = if p.mode = "trim" then 0 else match (wrQ p L t).1 with
    | none => 0
    | some x => x.2 := by
      cases (wrQ p L t).1 with
      | none => simp only [Option.map_none, Option.toList_none]; split <;> rfl
      | some y =>
        simp only [Option.map_some, Option.toList_some]
        unfold plainSum
        by_cases q : p.mode = "trim"
        · rw [if_pos q, List.filter_cons_of_neg (by show ¬ (!T.contains p.name) = true; rw [hp, decide_eq_true q]; decide)]
          rfl
        · rw [if_neg q, List.filter_cons_of_pos (by show (!T.contains p.name) = true; rw [hp, decide_eq_false q]; rfl)]
          simp only [List.filter_nil, List.map_cons, List.map_nil, sumQ]
          grind
    exact (congr (congrArg HAdd.hAdd e1) e2).trans f
end My
set_option exponentiation.threshold 20000
namespace My
open PySem PySem.Spec PyProof.Rows L2 DL
/-- what is known of each term of a form -/
structure TF (ps : List Ps) (k : Int) (t : Tm) : Prop where
  q : ∃ q : Rat, t.wt = ofQ q ∧ 0 < q
  sh : TmSh t
  wk : WtOk 9 t.wt
  a0 : 0 ≤ t.at'
  a1 : t.at' ≤ k
  src : t.name = "old" ∨ ∃ p ∈ ps, p.name = t.name ∧ ∃ q ∈ p.touches, q.1 ≤ t.at' ∧ t.at' < q.2
structure FF (L : Int) (ps : List Ps) (k : Int) (ts : List Tm) : Prop where
  f : formD L ps k = .tup (ts.map encTm)
  l : ts.length ≤ 9
  t : ∀ t ∈ ts, TF ps k t
  pw : ts.Pairwise fun a b => a.name.cps.toList < b.name.cps.toList
  sm : ∀ T : List Str, T.contains "old" = false → (∀ p ∈ ps, T.contains p.name = decide (p.mode = "trim")) → sumQ ((ts.filter fun t => !T.contains t.name).map fun t => toQ t.wt) = 1
theorem form_facts {L k : Int} {ps : List Ps} (h : PssOk L ps) (h0 : 0 ≤ k) (h1 : k ≤ 1000000000000) : ∃ ts : List Tm, FF L ps k ts := by
  have hb : ∀ p ∈ ps.reverse, BodyOk L p := fun p hp => (b_of_pass (h.rev.ok p hp)).1
  have nd : (((atL L ps.reverse k).map TQ.tm).map Tm.name).Nodup := by
    rw [List.map_map]
    exact atL_nodup h.rev k
  have hp := byName_perm ((atL L ps.reverse k).map TQ.tm)
  have mem : ∀ t ∈ byName ((atL L ps.reverse k).map TQ.tm), ∃ x ∈ atQ L ps.reverse k, t = x.tm := fun t ht => by
    obtain ⟨x, hx, rfl⟩ := List.mem_map.mp (hp.mem_iff.mp ht)
    exact ⟨x, (atL_perm L ps.reverse k).mem_iff.mp hx, rfl⟩
  refine ⟨byName ((atL L ps.reverse k).map TQ.tm), ⟨?_, ?_, fun t ht => ?_, ?_, fun T ho hT => ?_⟩⟩
  · unfold formD
    rw [form_atL h, byName_sort nd]
  · rw [hp.length_eq, List.length_map]
    have := atL_len (L := L) (ps := ps.reverse) k
    rw [List.length_reverse] at this
    have := h.len
    omega
  · obtain ⟨x, hx, rfl⟩ := mem t ht
    have hxl := (atL_perm L ps.reverse k).mem_iff.mpr hx
    have ha := atL_at ps.reverse k hb h0 x hxl
    refine ⟨⟨x.q, rfl, atQ_pos ps.reverse k hb x hx⟩, atL_sh h.rev h0 h1 x hxl, (atL_wt ps.reverse k (fun p hp => (hb p hp).gl) x hxl).mono (by rw [List.length_reverse]; have := h.len; omega), ha.1, ha.2, ?_⟩
    rcases atQ_touched ps.reverse k hb x hx with q | ⟨p, hp, h2⟩
    · exact .inl q
    · exact .inr ⟨p, List.mem_reverse.mp hp, h2⟩
  · have nd2 : ((byName ((atL L ps.reverse k).map TQ.tm)).map Tm.name).Nodup := (hp.map _).nodup_iff.mpr nd
    have h1 : ((byName ((atL L ps.reverse k).map TQ.tm)).map fun t => D.str t.name).Pairwise fun a b => leD a b = true := by
      rw [← byName_names]
      exact PySem.W.sort_pairwise leD_total _
    rw [List.pairwise_map] at h1
    have h2 : (byName ((atL L ps.reverse k).map TQ.tm)).Pairwise fun a b => a.name ≠ b.name := List.pairwise_map.mp nd2
    refine (h1.and h2).imp fun {a b} h => ?_
    have h3 := h.1
    rw [leD_str] at h3
    have h3 : ¬ b.name.cps.toList < a.name.cps.toList := by simpa using h3
    have h4 := List.not_lt.mp h3
    rcases List.le_iff_lt_or_eq.mp h4 with h5 | h5
    · exact h5
    · exact (h.2 (PySem.W.str_of_cps h5)).elim
  · have e : ∀ xs : List TQ, ((xs.map TQ.tm).filter fun t => !T.contains t.name).map (fun t => toQ t.wt) = (xs.filter fun x => !T.contains x.name).map TQ.q := fun xs => by
      rw [List.filter_map, List.map_map]
      refine List.map_congr_left fun x _ => ?_
      exact toQ_ofQ x.q
    have p1 := ((hp.filter fun t => !T.contains t.name).map fun t => toQ t.wt)
    rw [sumQ_perm p1, e]
    have := plain_one ho ps.reverse k hb (fun p hp => hT p (List.mem_reverse.mp hp))
    rw [← plain_perm T (atL_perm L ps.reverse k)] at this
    exact this
theorem TF.le {ps : List Ps} {k : Int} {t : Tm} (h : TF ps k t) : 1 ≤ t.wt.1 ∧ t.wt.1 ≤ t.wt.2 ∧ t.wt.2 ≤ 1093685272684360901 := by
  obtain ⟨q, e, hq⟩ := h.q
  have := ofQ_num_pos hq
  rw [← e] at this
  have b1 : (101 : Int) ^ 9 = 1093685272684360901 := by decide +kernel
  have := h.wk.le
  rw [b1] at this
  exact ⟨by omega, h.wk.lt, this⟩
theorem ne_w (v w : Wt) : dNe (encW v) (encW w) = some (.bl (!decide (v = w))) := by
  have h := eqs_w v w
  have h : (eqs (encW v) (encW w)).map D.bl = some (.bl (decide (v = w))) := h
  show (eqs (encW v) (encW w)).map (fun b => D.bl (!b)) = _
  obtain ⟨b, h1, h2⟩ := map_some h
  rw [h1]
  cases h2
  rfl
theorem ne_nilL {n : Nat} {d : D} {ds : List D} (h : Gd n (.lst (d :: ds))) (h1 : 1 ≤ n) (hn : n ≤ 64) : dNe (.lst (d :: ds)) (.lst []) = some (.bl true) := by
  have h0 : Gd n (.lst []) := (gd_lst (n := 0) (ds := []) fun d hd => by cases hd).up h1
  show (eqs _ _).map _ = _
  rw [eqs_of h h0 hn]
  simp [toP, toPs, PyData.eqv, PyData.eqvAll]
theorem ne_nil0 : dNe (.lst []) (.lst []) = some (.bl false) := ne_lst (gd_lst (n := 0) (ds := []) fun d hd => by cases hd) (by decide)
end My
set_option exponentiation.threshold 20000
namespace My
open PySem PySem.Spec PyProof.Rows L2 DL
structure Pt where
  name : Str
  pl : Option Int
  wt : Wt
def Pt.put (t : Int) (x : Pt) : Tm := ⟨x.name, x.pl.getD t, x.wt⟩
/-- the row ts tells all ticks from a to b; a single tick has no place None -/
structure Rep (F : Int → List Tm) (a b : Int) (ts : List Pt) : Prop where
  lt : a < b
  mv : ∀ t, a ≤ t → t < b → F t = ts.map (Pt.put t)
  one : b = a + 1 → ∀ x ∈ ts, x.pl ≠ none
abbrev Pc := Int × Int × List Pt
inductive PcsTo (F : Int → List Tm) : Int → List Pc → Int → Prop
  | nil (a : Int) : PcsTo F a [] a
  | cons {a b c : Int} {ts : List Pt} {r : List Pc} : Rep F a b ts → (∀ us, ¬ Rep F a (b + 1) us) → PcsTo F b r c → PcsTo F a ((a, b, ts) :: r) c
theorem PcsTo.le {F : Int → List Tm} {a c : Int} {l : List Pc} (h : PcsTo F a l c) : a ≤ c := by
  induction h with
  | nil => exact Int.le_refl _
  | cons h _ _ ih => have := h.lt; omega
theorem PcsTo.snoc {F : Int → List Tm} {a b c : Int} {l : List Pc} {ts : List Pt} (h : PcsTo F a l b) (r : Rep F b c ts) (n : ∀ us, ¬ Rep F b (c + 1) us) : PcsTo F a (l ++ [(b, c, ts)]) c := by
  induction h with
  | nil a => exact .cons r n (.nil c)
  | cons h1 h2 _ ih => exact .cons h1 h2 (ih r n)
/-- the pieces from a to L -/
def Whole (F : Int → List Tm) (a L : Int) (l : List Pc) : Prop := ∃ i b ts, PcsTo F a i b ∧ Rep F b L ts ∧ l = i ++ [(b, L, ts)]
/-- what is done of them up to s -/
def Upto (F : Int → List Tm) (l : List Pc) (s : Int) : Prop := (s = 0 ∧ l = []) ∨ Whole F 0 s l
theorem Upto.new {F : Int → List Tm} {i : List Pc} {a s e : Int} {ts us : List Pt} (h : PcsTo F 0 i a) (r : Rep F a s ts) (k : Rep F s e us) (n : ∀ us, ¬ Rep F a (s + 1) us) : Upto F (i ++ [(a, s, ts)] ++ [(s, e, us)]) e := .inr ⟨i ++ [(a, s, ts)], s, us, h.snoc r n, k, rfl⟩
end My
set_option exponentiation.threshold 20000
set_option exponentiation.threshold 20000
namespace My
open PySem PySem.Spec PyProof.Rows L2 DL
theorem Rep.len {F : Int → List Tm} {a b : Int} {ts : List Pt} (h : Rep F a b ts) : ts.length = (F a).length := by rw [h.mv a (Int.le_refl _) h.lt, List.length_map]
end My
set_option exponentiation.threshold 20000
set_option exponentiation.threshold 20000
namespace My
open PySem PySem.Spec PyProof.Rows L2 DL
theorem formT_names {L : Int} {ps : List Ps} (h : PssOk L ps) (t : Int) : ((formT L ps t).map Tm.name).Nodup := by
  unfold formT
  exact ((byName_perm _).map Tm.name).nodup_iff.mpr (formT_nd h t)
end My
set_option exponentiation.threshold 20000
namespace My
open PySem PySem.Spec PyProof.Rows L2 DL
theorem add_frac {a b c d : Int} (hb : 0 < b) (hd : 0 < d) : ((a * d + c * b : Int) : Rat) / ((b * d : Int) : Rat) = (a : Rat) / (b : Rat) + (c : Rat) / (d : Rat) := by
  have h1 : (b : Rat) ≠ 0 := by exact_mod_cast Int.ne_of_gt hb
  have h2 : (d : Rat) ≠ 0 := by exact_mod_cast Int.ne_of_gt hd
  rw [Rat.intCast_add, Rat.intCast_mul, Rat.intCast_mul, Rat.intCast_mul]
  grind
/-- what a form is, as steps look at it -/
structure WF (ts : List Tm) : Prop where
  nd : (ts.map Tm.name).Nodup
  wt : ∀ t ∈ ts, WtOk 9 t.wt
  l : ts.length ≤ 9
theorem encTm_inj {x y : Tm} (h : encTm x = encTm y) : x = y := by
  obtain ⟨n, a, w1, w2⟩ := x
  obtain ⟨m, b, v1, v2⟩ := y
  unfold encTm encW at h
  simp only [D.tup.injEq, List.cons.injEq, D.str.injEq, D.int.injEq, and_true] at h
  obtain ⟨h1, h2, h3, h4⟩ := h
  rw [h1, h2, h3, h4]
theorem formT_FF {L k : Int} {ps : List Ps} (h : PssOk L ps) (h0 : 0 ≤ k) (h1 : k ≤ 1000000000000) : FF L ps k (formT L ps k) := by
  obtain ⟨ts, hf⟩ := form_facts h h0 h1
  have e := hf.f
  rw [formD_T h] at e
  injection e with e
  have : formT L ps k = ts := (List.map_inj_right (fun x y z => encTm_inj z)).mp e
  rw [this]
  exact hf
theorem formT_WF {L k : Int} {ps : List Ps} (h : PssOk L ps) (h0 : 0 ≤ k) (h1 : k ≤ 1000000000000) : WF (formT L ps k) := by
  have f := formT_FF h h0 h1
  exact ⟨formT_names h k, fun t ht => (f.t t ht).wk, f.l⟩
end My
set_option exponentiation.threshold 20000
namespace My
open PySem PySem.Spec PyProof.Rows L2 DL
structure Fr (i : Nat) (w : Wt) : Prop where
  pos : 0 < w.2
  le : w.2.natAbs ≤ 2 ^ (60 * i)
  n : w.1.natAbs ≤ i * 2 ^ 130 * w.2.natAbs
theorem Fr.nat {i : Nat} {w : Wt} (h : Fr i w) (hi : i ≤ 11) : w.1.natAbs ≤ 2 ^ 800 ∧ w.2.natAbs ≤ 2 ^ 800 := by
  have h1 : (2 : Nat) ^ (60 * i) ≤ 2 ^ 660 := Nat.pow_le_pow_right (by decide) (by omega)
  have h2 := Nat.le_trans h.le h1
  have h3 : i * 2 ^ 130 * w.2.natAbs ≤ 11 * 2 ^ 130 * 2 ^ 660 := Nat.mul_le_mul (Nat.mul_le_mul hi (Nat.le_refl _)) h2
  exact ⟨Nat.le_trans h.n (Nat.le_trans h3 (by decide +kernel)), Nat.le_trans h2 (by decide +kernel)⟩
theorem Fr.big {i : Nat} {w : Wt} (h : Fr i w) (hi : i ≤ 11) : w.1.natAbs ≤ 2 ^ 1000 ∧ w.2.natAbs ≤ 2 ^ 1000 := by
  have h1 : (2 : Nat) ^ 800 ≤ 2 ^ 1000 := by decide +kernel
  have := h.nat hi
  exact ⟨Nat.le_trans this.1 h1, Nat.le_trans this.2 h1⟩
theorem Fr.low {i : Nat} {a b : Int} (h : Fr i (a, b)) : Fr i (lowM a b) := by
  have hb : 0 < b := h.pos
  have hp := gI_pos (a := a) hb
  obtain ⟨⟨c, hc⟩, ⟨d, hd⟩⟩ := gI_dvd a b
  have hn : a.natAbs ≤ i * 2 ^ 130 * b.natAbs := h.n
  have hl : b.natAbs ≤ 2 ^ (60 * i) := h.le
  have e1 : a / gI a b = c := by
    have := Int.mul_ediv_cancel_left (a := gI a b) c (by omega)
    rw [← hc] at this
    exact this
  have e2 : b / gI a b = d := by
    have := Int.mul_ediv_cancel_left (a := gI a b) d (by omega)
    rw [← hd] at this
    exact this
  unfold lowM
  rw [e1, e2]
  have ea : a.natAbs = (gI a b).natAbs * c.natAbs := by
    have := congrArg Int.natAbs hc
    rwa [Int.natAbs_mul] at this
  have eb : b.natAbs = (gI a b).natAbs * d.natAbs := by
    have := congrArg Int.natAbs hd
    rwa [Int.natAbs_mul] at this
  have hg : 0 < (gI a b).natAbs := by omega
  generalize (gI a b).natAbs = g at ea eb hg
  refine ⟨?_, ?_, ?_⟩
  · show 0 < d
    rw [← e2]
    exact Int.ediv_pos_of_pos_of_dvd hb (by omega) (gI_dvd a b).2
  · show d.natAbs ≤ 2 ^ (60 * i)
    have : d.natAbs ≤ g * d.natAbs := Nat.le_mul_of_pos_left _ hg
    omega
  · show c.natAbs ≤ i * 2 ^ 130 * d.natAbs
    rw [ea, eb] at hn
    have e : i * 2 ^ 130 * (g * d.natAbs) = g * (i * 2 ^ 130 * d.natAbs) := by rw [Nat.mul_left_comm]
    rw [e] at hn
    exact Nat.le_of_mul_le_mul_left hn hg
theorem Fr.add {i : Nat} {v w : Wt} (h : Fr i v) (h' : Fr 1 w) : Fr (i + 1) (v.1 * w.2 + w.1 * v.2, v.2 * w.2) := by
  refine ⟨Int.mul_pos h.pos h'.pos, ?_, ?_⟩
  · show (v.2 * w.2).natAbs ≤ _
    rw [Int.natAbs_mul, Nat.mul_add, Nat.pow_add]
    exact Nat.mul_le_mul h.le h'.le
  · show (v.1 * w.2 + w.1 * v.2).natAbs ≤ (i + 1) * 2 ^ 130 * (v.2 * w.2).natAbs
    refine Nat.le_trans (Int.natAbs_add_le _ _) ?_
    rw [Int.natAbs_mul, Int.natAbs_mul, Int.natAbs_mul]
    have h1 := Nat.mul_le_mul_right w.2.natAbs h.n
    have h2 := Nat.mul_le_mul_right v.2.natAbs h'.n
    generalize (2 : Nat) ^ 130 = K at *
    generalize v.1.natAbs = A at *
    generalize v.2.natAbs = B at *
    generalize w.1.natAbs = A' at *
    generalize w.2.natAbs = B' at *
    have e : (i + 1) * K * (B * B') = i * K * B * B' + 1 * K * B' * B := by
      grind
    omega
theorem Fr.term {v : Wt} {e : Int} (h : WtOk 9 v) (he : e.natAbs ≤ 2 ^ 130) : Fr 1 (v.1 * e, v.2) := by
  have h2 : (101 : Int) ^ 9 ≤ 2 ^ 60 := by decide +kernel
  have := h.le; have := h.num; have := h.lt; have := h.pos
  refine ⟨h.pos, ?_, ?_⟩
  · show v.2.natAbs ≤ 2 ^ 60
    have e : ((2 : Nat) ^ 60 : Nat) = ((2 : Int) ^ 60).natAbs := by decide +kernel
    rw [e]; omega
  · show (v.1 * e).natAbs ≤ 1 * 2 ^ 130 * v.2.natAbs
    rw [Int.natAbs_mul, Nat.one_mul, Nat.mul_comm]
    exact Nat.mul_le_mul he (by omega)
theorem toQ_term {v : Wt} (e : Int) : toQ (v.1 * e, v.2) = toQ v * (e : Rat) := by
  unfold toQ
  simp only
  rw [Rat.div_def, Rat.div_def]
  have : ((v.1 * e : Int) : Rat) = (v.1 : Rat) * (e : Rat) := by exact_mod_cast rfl
  rw [this]
  grind
theorem toQ_plus {v w : Wt} (hv : 0 < v.2) (hw : 0 < w.2) : toQ (v.1 * w.2 + w.1 * v.2, v.2 * w.2) = toQ v + toQ w := add_frac (a := v.1) (c := w.1) hv hw
theorem toQ_low {a b : Int} (h : 0 < b) : toQ (lowM a b) = toQ (a, b) := by
  rw [lowM_toQ (w := (a, b)) h, toQ_ofQ]
/-- the number of a form, these numbers of its sources put in -/
def sgQ (e : Str → Int) (ts : List Tm) : Rat := ts.foldl (fun q t => q + toQ t.wt * (e t.name : Rat)) 0
theorem sgQ_snoc (e : Str → Int) (ts : List Tm) (t : Tm) : sgQ e (ts ++ [t]) = sgQ e ts + toQ t.wt * (e t.name : Rat) := by
  unfold sgQ
  rw [List.foldl_append]
  rfl
section
variable (C : Addr)
theorem v_lowestG {a b : Int} (hb : 0 < b) (hn : b.natAbs ≤ 2 ^ 1000) : F_lowest C [.int a, .int b] = some (encW (lowM a b)) := by
  have hp := gI_pos (a := a) hb
  have hle := gI_le (a := a) hb
  have hs : (gI a b).natAbs ≤ 2 ^ 8000 := Nat.le_trans (by omega) (Nat.le_trans hn (Nat.pow_le_pow_right (by omega) (by omega)))
  have d1 := div_ok (i := a) hp hs
  have d2 := div_ok (i := b) hp hs
  have g : dGcd [.int a, .int b] = some (.int (gI a b)) := rfl
  refine retF ?_
  unfold B_lowest
  refine_lift' st [g]
  refine_lift' st [d1, d2]
  exact rq_rt rfl
theorem v_law_lowG {a b : Int} (hb : 0 < b) (hn : b.natAbs ≤ 2 ^ 1000) : F_law_low C [.int a, .int b] = some (encW (lowM a b)) := by
  have hp := gI_pos (a := a) hb
  have hle := gI_le (a := a) hb
  have hs : (gI a b).natAbs ≤ 2 ^ 8000 := Nat.le_trans (by omega) (Nat.le_trans hn (Nat.pow_le_pow_right (by omega) (by omega)))
  have d1 := div_ok (i := a) hp hs
  have d2 := div_ok (i := b) hp hs
  have habs : dAbs [.int a] = some (.int (a.natAbs : Int)) := by
    show some (D.int (if a < 0 then -a else a)) = _
    congr 2
    split <;> omega
  refine retF ?_
  unfold B_law_low
  refine_lift' st [habs]
  refine st_while (fun n ρ => ∃ hh : Nat, ρ = [.dat (.int a), .dat (.int b), .dat (.int hh), .dat (.int n)] ∧ Nat.gcd hh n = Nat.gcd a.natAbs b.natAbs) b.natAbs ?_ ⟨a.natAbs, ?_, rfl⟩ ?_
  · show b.natAbs < b.natAbs + 1
    omega
  · rw [show ((b.natAbs : Nat) : Int) = b by omega]
    rfl
  · rintro n ρ ⟨hh, rfl, e⟩
    refine ⟨decide (0 < (n : Int)), _, by refine_lift' ev, ?_, ?_⟩
    · intro q
      have : n = 0 := by simp at q; exact q
      subst this
      rw [Nat.gcd_zero_right] at e
      have e' : (hh : Int) = gI a b := by unfold gI; rw [e]
      rw [e']
      refine_lift' st [d1, d2]
      exact rq_rt rfl
    · intro q
      have q : 0 < n := by simp at q; exact q
      have hm : dMod (.int hh) (.int n) = some (.int ((hh % n : Nat) : Int)) := by
        have : dMod (.int hh) (.int n) = some (.int ((hh : Int) % n)) := if_pos (by omega)
        rw [this]; rfl
      have hi : dInt [.int hh] = some (.int hh) := rfl
      have : ∃ ρ1, sPar [2, 3] [false, false] (aCons (mVar 3) (aCons (mOp dMod (mFn dInt (aCons (mVar 2) aNil)) (mVar 3)) aNil)) [.dat (.int a), .dat (.int b), .dat (.int hh), .dat (.int n)] = some (.nx, ρ1) ∧ ρ1 = [.dat (.int a), .dat (.int b), .dat (.int n), .dat (.int ((hh % n : Nat) : Int))] := by
        refine ⟨_, e_bd (v := [.int n, .int ((hh % n : Nat) : Int)]) (ρ1 := [.dat (.int a), .dat (.int b), .dat (.int hh), .dat (.int n)]) (by refine_lift' ev [hm, hi]) rfl, rfl⟩
      obtain ⟨ρ1, e1, e2⟩ := this
      rw [e1]
      exact ⟨hh % n, Nat.mod_lt _ q, n, e2, by rw [gcd_step hh n q]; exact e⟩
theorem v_timesG {v w : Wt} (n1 : v.1.natAbs ≤ 2 ^ 1000 ∧ v.2.natAbs ≤ 2 ^ 1000) (n2 : w.1.natAbs ≤ 2 ^ 1000 ∧ w.2.natAbs ≤ 2 ^ 1000) (hp : 0 < v.2 * w.2) (hn : (v.2 * w.2).natAbs ≤ 2 ^ 1000) : F_times C [encW v, encW w] = some (encW (lowM (v.1 * w.1) (v.2 * w.2))) := by
  have m1 := mul_ok n1.1 n2.1
  have m2 := mul_ok n1.2 n2.2
  have hl := v_lowestG C (a := v.1 * w.1) hp hn
  refine retF ?_
  unfold B_times encW
  refine_lift' st [m1, m2, hl]
  exact rq_rt rfl
theorem v_plusG {v w : Wt} (n1 : v.1.natAbs ≤ 2 ^ 1000 ∧ v.2.natAbs ≤ 2 ^ 1000) (n2 : w.1.natAbs ≤ 2 ^ 1000 ∧ w.2.natAbs ≤ 2 ^ 1000) (hp : 0 < v.2 * w.2) (hn : (v.2 * w.2).natAbs ≤ 2 ^ 1000) : F_plus C [encW v, encW w] = some (encW (lowM (v.1 * w.2 + w.1 * v.2) (v.2 * w.2))) := by
  have m1 := mul_ok n1.1 n2.2
  have m2 := mul_ok n2.1 n1.2
  have m3 := mul_ok n1.2 n2.2
  have hl := v_lowestG C (a := v.1 * w.2 + w.1 * v.2) hp hn
  have ad : dAdd (.int (v.1 * w.2)) (.int (w.1 * v.2)) = some (.int (v.1 * w.2 + w.1 * v.2)) := rfl
  refine retF ?_
  unfold B_plus encW
  refine_lift' st [m1, m2, m3, ad, hl]
  exact rq_rt rfl
theorem Fr.q {i : Nat} {w : Wt} (h : Fr i w) : Fr i (ofQ (toQ w)) := by
  rw [← lowM_toQ h.pos]
  exact h.low
end
end My
set_option exponentiation.threshold 20000
namespace My
open PySem PySem.Spec PyProof.Rows L2 DL
structure ShB (n k : Nat) (d : PyData) : Prop where
  nd : d.hasDict = false
  sh : d.showable = true
  lv : d.leavesShort 300 = true
  bk : d.bulk ≤ n
  dp : d.depth ≤ k
structure ShBA (n k : Nat) (ds : List PyData) : Prop where
  nd : PyData.hasDictAll ds = false
  sh : PyData.showableAll ds = true
  lv : PyData.leavesShortAll 300 ds = true
  bk : PyData.bulkAll ds ≤ n
  dp : PyData.depthAll ds ≤ k
theorem ShB.int {i : Int} (h : i.natAbs < 10 ^ 250) : ShB 0 0 (.int i) := by
  refine ⟨by simp [PyData.hasDict], ?_, ?_, by simp [PyData.bulk], by simp [PyData.depth]⟩
  · simp only [PyData.showable]
    refine decide_eq_true ?_
    by_cases z : i.natAbs = 0
    · rw [z]; decide
    · have : i.natAbs < 2 ^ 840 := Nat.lt_trans h (by decide)
      have := (Nat.log2_lt z).mpr this
      omega
  · simp only [PyData.leavesShort]
    refine decide_eq_true ?_
    show (Str.ofString (toString i)).length ≤ 300
    rw [PySem.ofString_length]
    exact Nat.le_trans (int_text_length_le10 (k := 250) (by decide) h) (by decide)
theorem ShBA.nil : ShBA 0 0 [] := ⟨by simp [PyData.hasDictAll], by simp [PyData.showableAll], by simp [PyData.leavesShortAll], by simp [PyData.bulkAll], by simp [PyData.depthAll]⟩
theorem ShBA.cons {n m k l : Nat} {d : PyData} {ds : List PyData} (h : ShB n k d) (t : ShBA m l ds) : ShBA (n + 1 + m) (max k l) (d :: ds) := by
  refine ⟨?_, ?_, ?_, ?_, ?_⟩
  · simp only [PyData.hasDictAll, h.nd, t.nd]; rfl
  · simp only [PyData.showableAll, h.sh, t.sh]; rfl
  · simp only [PyData.leavesShortAll, h.lv, t.lv]; rfl
  · simp only [PyData.bulkAll]; have := h.bk; have := t.bk; omega
  · simp only [PyData.depthAll]; have := h.dp; have := t.dp; omega
theorem ShBA.tup {n k : Nat} {ds : List PyData} (h : ShBA n k ds) : ShB n (k + 1) (.tuple ds) := ⟨by simp only [PyData.hasDict]; exact h.nd, by simp only [PyData.showable]; exact h.sh, by simp only [PyData.leavesShort]; exact h.lv, by simp only [PyData.bulk]; exact h.bk, by simp only [PyData.depth]; have := h.dp; omega⟩
theorem ShBA.lst {n k : Nat} {ds : List PyData} (h : ShBA n k ds) : ShB n (k + 1) (.list ds) := ⟨by simp only [PyData.hasDict]; exact h.nd, by simp only [PyData.showable]; exact h.sh, by simp only [PyData.leavesShort]; exact h.lv, by simp only [PyData.bulk]; exact h.bk, by simp only [PyData.depth]; have := h.dp; omega⟩
theorem ShB.mono {n m k l : Nat} {d : PyData} (h : ShB n k d) (a : n ≤ m) (b : k ≤ l) : ShB m l d := ⟨h.nd, h.sh, h.lv, Nat.le_trans h.bk a, Nat.le_trans h.dp b⟩
theorem ShBA.mono {n m k l : Nat} {ds : List PyData} (h : ShBA n k ds) (a : n ≤ m) (b : k ≤ l) : ShBA m l ds := ⟨h.nd, h.sh, h.lv, Nat.le_trans h.bk a, Nat.le_trans h.dp b⟩
theorem ShBA.all {n k : Nat} : ∀ {ds : List PyData}, (∀ d ∈ ds, ShB n k d) → ShBA (ds.length * (n + 1)) k ds
  | [], _ => ShBA.nil.mono (Nat.zero_le _) (Nat.zero_le _)
  | d :: r, h => by
    have a := ShBA.cons (h d List.mem_cons_self) (ShBA.all (ds := r) fun e he => h e (List.mem_cons_of_mem _ he))
    refine a.mono ?_ (by omega)
    rw [List.length_cons, Nat.succ_mul]
    omega
theorem ShB.shown {n k : Nat} {d : PyData} (h : ShB n k d) (hn : n ≤ 50000) : d.shown.length ≤ sizeLine := by
  have a := PyData.shown_le_bulk 300 (by decide) d h.lv
  have b := h.bk
  rw [sizeLine_eq]
  omega
theorem reprB {n k m : Nat} {ds : List D} (g : Gd m (.lst ds)) (s : ShB n k (toP (.lst ds))) (hn : n ≤ 50000) (hk : k ≤ 60) : dRepr [.lst ds] = some (.str (toP (.lst ds)).shown) := by
  have h := s.shown hn
  have hs := s.sh
  have hp := g.p
  refine if_pos ⟨by simpa [DL.plain] using hp, by simpa [toP, PyData.showable] using hs, Nat.le_trans s.dp hk, h⟩
/-- the first of the greatest -/
def pkS (g : Int × Int → Rat) (b : Option (Int × Int)) (s : Int × Int) : Option (Int × Int) := match b with
  | none => some s
  | some j => if g j < g s then some s else some j
def pk (g : Int × Int → Rat) (l : List (Int × Int)) : Option (Int × Int) := l.foldl (pkS g) none
theorem Fr.sm {i : Nat} {w : Wt} (h : Fr i w) (hi : i ≤ 11) : w.1.natAbs < 10 ^ 250 ∧ w.2.natAbs < 10 ^ 250 := by
  have h1 : (2 : Nat) ^ 800 < 10 ^ 250 := by decide +kernel
  have := h.nat hi
  exact ⟨Nat.lt_of_le_of_lt this.1 h1, Nat.lt_of_le_of_lt this.2 h1⟩
theorem sgQ_fr {e : Str → Int} : ∀ {ts : List Tm}, (∀ t ∈ ts, WtOk 9 t.wt) → (∀ t ∈ ts, (e t.name).natAbs ≤ 2 ^ 130) → Fr ts.length (ofQ (sgQ e ts)) := by
  intro ts
  induction hn : ts.length generalizing ts with
  | zero =>
    intro _ _
    rw [List.length_eq_zero_iff.mp hn]
    show Fr 0 (ofQ 0)
    rw [ofQ_zero]
    exact ⟨by decide, by decide, by decide⟩
  | succ n ih =>
    intro hw he
    rcases snoc_of ts with rfl | ⟨r, t, rfl⟩
    · cases hn
    have hr : r.length = n := by simpa using hn
    have h1 := @ih r hr (fun x hx => hw x (List.mem_append_left _ hx)) (fun x hx => he x (List.mem_append_left _ hx))
    have w9 := hw t (List.mem_append_right _ List.mem_cons_self)
    have ft := Fr.term w9 (he t (List.mem_append_right _ List.mem_cons_self))
    have fa := h1.add ft
    have q := fa.q
    rw [toQ_plus h1.pos ft.pos, toQ_ofQ, toQ_term, ← sgQ_snoc] at q
    exact q
end My
set_option exponentiation.threshold 20000
namespace My
open PySem PySem.Spec PyProof.Rows L2 DL
structure Kn where
  name : Str
  at' : Int
  n : Int
def encKn (k : Kn) : D := .tup [.str k.name, .int k.at', .int k.n]
def keyKn (k : Kn) : List Key := [.inr k.name, .inl k.at']
def knD (ks : List Kn) : D := .dit (ks.map keyKn) (ks.map fun k => .int k.n)
theorem hasT_no {ks : List (List Key)} {k : List Key} (h : k ∉ ks) : hasT ks k = false := by
  unfold hasT
  rw [List.any_eq_false]
  intro x hx z
  exact h (by rw [← of_decide_eq_true z]; exact hx)
theorem put_kn {ks : List Kn} {k : Kn} (h : keyKn k ∉ ks.map keyKn) : D.dit (putTs (ks.map keyKn) (keyKn k)) (putTd (ks.map keyKn) (ks.map fun k => .int k.n) (keyKn k) (.int k.n)) = knD (ks ++ [k]) := by
  unfold putTs putTd knD
  rw [hasT_no h, if_neg Bool.false_ne_true, if_neg Bool.false_ne_true, List.map_append, List.map_append]
  rfl
theorem look_kn_no {k : List Key} : ∀ {ks : List Kn}, k ∉ ks.map keyKn → lookT (ks.map keyKn) (ks.map fun k => .int k.n) k = none
  | [], _ => rfl
  | x :: ks, h => by
    rw [List.map_cons, List.mem_cons] at h
    rw [List.map_cons, List.map_cons, lookT, if_neg (fun z => h (.inl z.symm))]
    exact look_kn_no fun z => h (.inr z)
theorem look_kn {k : Kn} : ∀ {ks : List Kn}, (ks.map keyKn).Nodup → k ∈ ks → lookT (ks.map keyKn) (ks.map fun k => .int k.n) (keyKn k) = some (.int k.n)
  | x :: ks, nd, h => by
    rw [List.map_cons, List.nodup_cons] at nd
    rw [List.map_cons, List.map_cons, lookT]
    rcases List.mem_cons.mp h with e | h
    · rw [e, if_pos rfl]
    · rw [if_neg (fun z => nd.1 (by rw [z]; exact List.mem_map.mpr ⟨k, h, rfl⟩))]
      exact look_kn nd.2 h
section
variable {ρ ρ1 ρ2 : Cs} {mk mv : Mo D} {i : Nat} {p q : Bool} {k m : Mo Fl} {P : Option (Fl × Cs) → Prop} {ks ks0 : List (List Key)} {ds ds0 : List D} {v kd d z : D} {kk : List Key}
theorem st_dputT (h0 : ρ[i]? = some (.own p (.dit ks0 ds0))) (hv : mv ρ = some (v, ρ1)) (hk : mk ρ1 = some (kd, ρ2)) (h2 : ρ2[i]? = some (.own q (.dit ks ds))) (hkk : keyT? kd = some kk) (hl : ks.length < sizeLine) (hK : P (k (ρ2.set i (.own q (.dit (putTs ks kk) (putTd ks ds kk v)))))) : P (sSeq (sDPutT i mk mv) k ρ) := by
  refine st_run ?_ hK
  unfold sDPutT
  rw [if_pos (by unfold ownsDt; rw [h0])]
  refine e_bd hv (e_bd hk ?_)
  simp only [h2, hkk]
  exact if_pos hl
theorem e_dtkO {g : D → D → Option D} (hk : mk ρ = some (kd, ρ1)) (h1 : ρ1[i]? = some (.own q d)) (hg : g d kd = some z) : mDTk g i mk ρ = some (z, ρ1) := by
  refine e_bd hk ?_
  simp only [h1, hg]
  rfl
theorem e_dtk {g : D → D → Option D} (hk : mk ρ = some (kd, ρ1)) (h1 : ρ1[i]? = some (.dat d)) (hg : g d kd = some z) : mDTk g i mk ρ = some (z, ρ1) := by
  refine e_bd hk ?_
  simp only [h1, hg]
  rfl
theorem e_dt {g : D → D → Option D} (h0 : ρ[i]? = some (.dat (.dit ks ds))) (hk : mk ρ = some (kd, ρ1)) (h1 : ρ1[i]? = some (.dat d)) (hg : g d kd = some z) : mDT g i mk ρ = some (z, ρ1) := by
  unfold mDT
  rw [if_pos (by unfold isDt; rw [h0])]
  refine e_bd hk ?_
  simp only [h1, hg]
  rfl
theorem e_dtO {g : D → D → Option D} (h0 : ρ[i]? = some (.own p (.dit ks ds))) (hk : mk ρ = some (kd, ρ1)) (h1 : ρ1[i]? = some (.own q d)) (hg : g d kd = some z) : mDT g i mk ρ = some (z, ρ1) := by
  unfold mDT
  rw [if_pos (by unfold isDt; rw [h0])]
  refine e_bd hk ?_
  simp only [h1, hg]
  rfl
end
section
variable (C : Addr)
theorem v_is_known {k : Kn} (h : 0 ≤ k.at') : F_is_known C [encKn k] = some (.bl true) := by
  have it : dIsT [encKn k, .ty "tuple"] = some (.bl true) := rfl
  have ln : dLen [encKn k] = some (.int 3) := rfl
  have n3 : dNe (.int 3) (.int 3) = some (.bl false) := rfl
  have i1 : dIsT [.str k.name, .ty "str"] = some (.bl true) := rfl
  have i2 := v_is_integer C k.at'
  have i3 := v_is_integer C k.n
  have ge : dGe (.int k.at') (.int 0) = some (.bl true) := by show some (D.bl (decide _)) = _; rw [decide_eq_true (by omega)]
  have e3 : gTp 3 (gsCons (gNm 1) (gsCons (gNm 2) (gsCons (gNm 3) gsNil))) (encKn k) [.dat (encKn k), .no, .no, .no] = some ((), [.dat (encKn k), .dat (.str k.name), .dat (.int k.at'), .dat (.int k.n)]) := rfl
  generalize encKn k = V at *
  refine retF ?_
  unfold B_is_known
  refine st_if (p := !true || false) (ρ1 := [.dat V, .no, .no, .no]) (e_or (e_not (e_tst (e_fn (e_acons (e_var rfl) (e_acons e_c e_anil)) it))) (e_tst (e_op (e_fn (e_acons (e_var rfl) e_anil) ln) e_c n3))) (fun z => by cases z) fun _ => ?_
  refine st_nx ?_
  refine st_asg (d := V) (ρ1 := [.dat V, .no, .no, .no]) (e_var rfl) e3 ?_
  refine sw_ret ?_
  refine st_ret (d := .bl (true && (true && (true && true)))) (ρ1 := [.dat V, .dat (.str k.name), .dat (.int k.at'), .dat (.int k.n)]) (e_andV (e_fn (e_acons (e_var rfl) (e_acons e_c e_anil)) i1) (e_andV (e_fn (e_acons (e_var rfl) e_anil) i2) (e_andV (e_op (e_var rfl) e_c ge) (e_fn (e_acons (e_var rfl) e_anil) i3)))) ?_
  exact rq_rt rfl
theorem kn_key (k : Kn) : dSlK (encKn k) none (some 2) = some (.tup [.str k.name, .int k.at']) := rfl
theorem v_numbers_in {ks : List Kn} (h : ∀ k ∈ ks, 0 ≤ k.at') (nd : (ks.map keyKn).Nodup) (hl : ks.length < sizeLine) : F_numbers_in C [.tup (ks.map encKn)] = some (knD ks) := by
  have it : dIsT [.tup (ks.map encKn), .ty "tuple"] = some (.bl true) := rfl
  have en : enumT? [.tup (ks.map encKn)] = some (ks.zipIdx.map fun p => .tup [.int p.2, encKn p.1]) := by rw [← enumD_map]; rfl
  generalize D.tup (ks.map encKn) = A at it en
  refine retF ?_
  unfold B_numbers_in
  refine st_if (p := !true) (ρ1 := [.dat A, .no, .no, .no]) (e_not (e_tst (e_fn (e_acons (e_var rfl) (e_acons e_c e_anil)) it))) (fun z => by cases z) fun _ => ?_
  refine st_nx ?_
  refine st_setN (d := knD []) (ρ1 := [.dat A, .no, .no, .no]) rfl ?_
  refine st_for (α := Kn × Nat) (enc := fun p => .tup [.int p.2, encKn p.1]) (xs := ks.zipIdx) (ρ1 := [.dat A, .own false (knD []), .no, .no]) (e_bd (v := [A]) rfl (e_l en)) (fun ys ρ => ∃ x y, ρ = [.dat A, .own false (knD (ys.map (·.1))), x, y]) ⟨_, _, rfl⟩ ?_ ?_
  · rintro ys ⟨k, j⟩ zs ρ e ⟨x, y, rfl⟩
    have e1 : ks = ys.map (·.1) ++ k :: zs.map (·.1) := by
      have : ks = (ys ++ (k, j) :: zs).map (·.1) := by rw [← e, List.zipIdx_map_fst]
      rwa [List.map_append, List.map_cons] at this
    have hk : k ∈ ks := by rw [e1]; exact List.mem_append_right _ List.mem_cons_self
    have fr : keyKn k ∉ (ys.map (·.1)).map keyKn := fun z => by
      rw [e1, List.map_append, List.map_cons] at nd
      exact (List.nodup_append.mp nd).2.2 _ z _ List.mem_cons_self rfl
    have hlen : ((ys.map (·.1)).map keyKn).length < sizeLine := by
      have := congrArg List.length e1
      rw [List.length_append, List.length_cons] at this
      rw [List.length_map]
      omega
    have ik := v_is_known C (k := k) (h k hk)
    have ky := kn_key k
    have vl : dIx (encKn k) (.int 2) = some (.int k.n) := rfl
    have hin : dInT (knD (ys.map (·.1))) (.tup [.str k.name, .int k.at']) = some (.bl false) := by
      show some (D.bl (lookT _ _ (keyKn k)).isSome) = _
      rw [look_kn_no fr]; rfl
    have pk := put_kn fr
    rw [List.map_append, List.map_cons, List.map_nil]
    generalize encKn k = V at ik ky vl
    generalize hY : ys.map (·.1) = Y at *
    refine ⟨(), [.dat A, .own false (knD Y), .dat (.int j), .dat V], rfl, ?_⟩
    refine st_if (p := !true || false) (ρ1 := [.dat A, .own false (knD Y), .dat (.int j), .dat V]) (e_or (e_not (e_tst (e_fn (e_acons (e_var rfl) e_anil) ik))) (e_tst (e_dtkO (q := false) (d := knD Y) (e_sl (e_var rfl) e_no (e_part e_c) ky) rfl hin))) (fun z => by cases z) fun _ => ?_
    refine st_nx ?_
    refine st_one ?_
    refine st_dputT (p := false) (q := false) (kk := keyKn k) (ks0 := Y.map keyKn) (ds0 := Y.map fun k => .int k.n) (ks := Y.map keyKn) (ds := Y.map fun k => .int k.n) (v := .int k.n) (kd := .tup [.str k.name, .int k.at']) (ρ1 := [.dat A, .own false (knD Y), .dat (.int j), .dat V]) (ρ2 := [.dat A, .own false (knD Y), .dat (.int j), .dat V]) rfl (e_op (e_var rfl) e_c vl) (e_sl (e_var rfl) e_no (e_part e_c) ky) rfl rfl hlen ?_
    rw [pk]
    exact ⟨_, _, rfl⟩
  · rintro ρ ⟨x, y, rfl⟩
    rw [List.zipIdx_map_fst]
    refine sw_ret ?_
    refine st_ret (d := knD ks) (ρ1 := [.dat A, .dat (knD ks), x, y]) (e_varO rfl) ?_
    exact rq_rt rfl
/-- the number at a tick, of numbers known by name -/
theorem v_number_at {L t : Int} {ps : List Ps} {ks : List Kn} {e : Str → Int} (h : PssOk L ps) (h0 : 0 ≤ t) (h1 : t < L) (hL : L ≤ 1000000000000) (hk : ∀ k ∈ ks, 0 ≤ k.at') (nd : (ks.map keyKn).Nodup) (hl : ks.length < sizeLine) (he : ∀ x ∈ formT L ps t, (e x.name).natAbs ≤ 2 ^ 130)
    (hE : ∀ x ∈ formT L ps t, (⟨x.name, x.at', e x.name⟩ : Kn) ∈ ks) : F_number_at C [encTr C L ps, .int t, .tup (ks.map encKn)] = some (encW (ofQ (sgQ e (formT L ps t)))) := by
  have fm := v_form C h h0 h1
  rw [formD_T h] at fm
  have wf := formT_WF h h0 (by omega : t ≤ 1000000000000)
  have ni := v_numbers_in C hk nd hl
  generalize formT L ps t = ts at *
  have hw := wf.wt
  have hl9 := wf.l
  have hgt : ∀ x ∈ ts, dGetT (knD ks) (.tup [.str x.name, .int x.at']) = some (.int (e x.name)) := fun x hx => by
    show lookT _ _ (keyKn ⟨x.name, x.at', e x.name⟩) = _
    exact look_kn nd (hE x hx)
  have hnn : ∀ x ∈ ts, dNinT (knD ks) (.tup [.str x.name, .int x.at']) = some (.bl false) := fun x hx => by
    have : dInT (knD ks) (.tup [.str x.name, .int x.at']) = some (.bl true) := by
      show some (D.bl (lookT _ _ (keyKn ⟨x.name, x.at', e x.name⟩)).isSome) = _
      rw [look_kn nd (hE x hx)]; rfl
    unfold dNinT
    rw [this]; rfl
  obtain ⟨kk, kd, hkd⟩ : ∃ kk kd, knD ks = .dit kk kd := ⟨_, _, rfl⟩
  rw [hkd] at ni hgt hnn
  generalize D.tup (ks.map encKn) = KD at ni
  generalize hA : D.tup (ts.map encTm) = A at fm
  generalize encTr C L ps = TR at fm
  refine retF ?_
  unfold B_number_at
  refine st_set (d := A) (ρ1 := [.dat TR, .dat (.int t), .dat KD, .no, .no, .no, .no, .no, .no]) (e_fn (e_acons (e_var rfl) (e_acons (e_var rfl) e_anil)) fm) ?_
  refine st_set (d := .dit kk kd) (ρ1 := [.dat TR, .dat (.int t), .dat KD, .dat A, .no, .no, .no, .no, .no]) (e_fn (e_acons (e_var rfl) e_anil) ni) ?_
  refine st_set (d := encW (ofQ 0)) (ρ1 := [.dat TR, .dat (.int t), .dat KD, .dat A, .dat (.dit kk kd), .no, .no, .no, .no]) (by rw [ofQ_zero]; exact e_c) ?_
  refine st_for (α := Tm) (enc := encTm) (xs := ts) (ρ1 := [.dat TR, .dat (.int t), .dat KD, .dat A, .dat (.dit kk kd), .dat (encW (ofQ 0)), .no, .no, .no]) (e_bd (v := A) (ρ1 := [.dat TR, .dat (.int t), .dat KD, .dat A, .dat (.dit kk kd), .dat (encW (ofQ 0)), .no, .no, .no]) (e_var rfl) (e_l (by rw [← hA]; rfl))) (fun ys ρ => ∃ x y z, ρ = [.dat TR, .dat (.int t), .dat KD, .dat A, .dat (.dit kk kd), .dat (encW (ofQ (sgQ e ys))), x, y, z] ∧ Fr ys.length (ofQ (sgQ e ys))) ⟨_, _, _, rfl, ?_⟩ ?_ ?_
  · show Fr 0 (ofQ 0)
    rw [ofQ_zero]
    exact ⟨by decide, by decide, by decide⟩
  · rintro ys x zs ρ ee ⟨a, b, c, rfl, hf⟩
    have ht : x ∈ ts := by rw [ee]; exact List.mem_append_right _ List.mem_cons_self
    have hyl : ys.length + 1 ≤ 9 := by
      have := congrArg List.length ee
      rw [List.length_append, List.length_cons] at this
      omega
    have w9 := hw x ht
    have ft := Fr.term w9 (he x ht)
    have n1 := w9.nat (by decide)
    have c130 : (2 : Nat) ^ 130 ≤ 2 ^ 1000 := by decide +kernel
    have tm := v_timesG C (v := x.wt) (w := (e x.name, 1)) n1 ⟨Nat.le_trans (he x ht) c130, by show (1 : Int).natAbs ≤ 2 ^ 1000; decide +kernel⟩ (by show 0 < x.wt.2 * 1; have := w9.pos; omega) (by show (x.wt.2 * 1).natAbs ≤ 2 ^ 1000; rw [Int.mul_one]; exact n1.2)
    simp only [Int.mul_one] at tm
    have fl := ft.low
    have fa := hf.add fl
    have pl := v_plusG C (hf.big (by omega)) (fl.big (by decide)) fa.pos (fa.big (by omega)).2
    have eq : lowM ((ofQ (sgQ e ys)).1 * (lowM (x.wt.1 * e x.name) x.wt.2).2 + (lowM (x.wt.1 * e x.name) x.wt.2).1 * (ofQ (sgQ e ys)).2) ((ofQ (sgQ e ys)).2 * (lowM (x.wt.1 * e x.name) x.wt.2).2) = ofQ (sgQ e (ys ++ [x])) := by
      rw [lowM_toQ (w := ((ofQ (sgQ e ys)).1 * (lowM (x.wt.1 * e x.name) x.wt.2).2 + (lowM (x.wt.1 * e x.name) x.wt.2).1 * (ofQ (sgQ e ys)).2, (ofQ (sgQ e ys)).2 * (lowM (x.wt.1 * e x.name) x.wt.2).2)) fa.pos, toQ_plus hf.pos fl.pos, toQ_ofQ, toQ_low w9.pos, toQ_term, sgQ_snoc]
    have fr : Fr (ys ++ [x]).length (ofQ (sgQ e (ys ++ [x]))) := by
      rw [← eq, List.length_append]
      exact fa.low
    rw [eq] at pl
    generalize encW (lowM (x.wt.1 * e x.name) x.wt.2) = T at tm pl
    have ew : encW (e x.name, 1) = .tup [.int (e x.name), .int 1] := rfl
    rw [ew] at tm
    have g1 := hgt x ht
    have g2 := hnn x ht
    have hkey : ∀ ρ : Cs, ρ[6]? = some (.dat (.str x.name)) → ρ[7]? = some (.dat (.int x.at')) → mTup (aCons (mVar 6) (aCons (mVar 7) aNil)) ρ = some (.tup [.str x.name, .int x.at'], ρ) := fun ρ a b => e_tup (e_acons (e_var a) (e_acons (e_var b) e_anil)) (len_le (by simp))
    have hk0 := hkey [.dat TR, .dat (.int t), .dat KD, .dat A, .dat (.dit kk kd), .dat (encW (ofQ (sgQ e ys))), .dat (.str x.name), .dat (.int x.at'), .dat (encW x.wt)] rfl rfl
    refine ⟨(), [.dat TR, .dat (.int t), .dat KD, .dat A, .dat (.dit kk kd), .dat (encW (ofQ (sgQ e ys))), .dat (.str x.name), .dat (.int x.at'), .dat (encW x.wt)], rfl, ?_⟩
    refine st_if (p := false) (ρ1 := [.dat TR, .dat (.int t), .dat KD, .dat A, .dat (.dit kk kd), .dat (encW (ofQ (sgQ e ys))), .dat (.str x.name), .dat (.int x.at'), .dat (encW x.wt)]) (e_tst (e_dtk hk0 rfl g2)) (fun z => by cases z) fun _ => ?_
    refine st_nx ?_
    refine sw_set (st_set (d := encW (ofQ (sgQ e (ys ++ [x])))) (ρ1 := [.dat TR, .dat (.int t), .dat KD, .dat A, .dat (.dit kk kd), .dat (encW (ofQ (sgQ e ys))), .dat (.str x.name), .dat (.int x.at'), .dat (encW x.wt)]) (e_fn (e_acons (e_var rfl) (e_acons (e_fn (e_acons (e_var rfl) (e_acons (e_tup (e_acons (e_dt rfl hk0 rfl g1) (e_acons e_c e_anil)) (len_le (by simp))) e_anil)) tm) e_anil)) pl) ?_)
    exact ⟨.dat (.str x.name), .dat (.int x.at'), .dat (encW x.wt), rfl, fr⟩
  · rintro ρ ⟨x, y, z, rfl, hf⟩
    refine sw_ret ?_
    refine st_ret (d := encW (ofQ (sgQ e ts))) (ρ1 := [.dat TR, .dat (.int t), .dat KD, .dat A, .dat (.dit kk kd), .dat (encW (ofQ (sgQ e ts))), x, y, z]) (e_var rfl) ?_
    exact rq_rt rfl
end
end My
set_option exponentiation.threshold 20000
namespace My
open PySem PySem.Spec PyProof.Rows L2 DL
def atG {α β : Type} (ts : List α) (g : α → β) (d : β) (j : Nat) : β := match ts[j]? with
  | some t => g t
  | none => d
theorem atG_some {α β : Type} {ts : List α} {g : α → β} {d : β} {j : Nat} (h : j < ts.length) : atG ts g d j = g ts[j] := by
  unfold atG
  rw [List.getElem?_eq_getElem h]
theorem range_get {α β : Type} (ts : List α) (g : α → β) (d : β) : (List.range ts.length).map (atG ts g d) = ts.map g := by
  refine List.ext_getElem (by simp) fun i h1 h2 => ?_
  rw [List.getElem_map, List.getElem_range, List.getElem_map, atG_some (by simpa using h2)]
theorem sgQ_sum (e : Str → Int) (ts : List Tm) : sgQ e ts = sumQ (ts.map fun t => toQ t.wt * (e t.name : Rat)) := by
  have : ∀ (ts : List Tm) (q : Rat), ts.foldl (fun q t => q + toQ t.wt * (e t.name : Rat)) q = q + sumQ (ts.map fun t => toQ t.wt * (e t.name : Rat)) := by
    intro ts
    induction ts with
    | nil => intro q; show q = q + 0; rw [Rat.add_zero]
    | cons t ts ih =>
      intro q
      rw [List.foldl_cons, ih, List.map_cons, sumQ, Rat.add_assoc]
  unfold sgQ
  rw [this, Rat.zero_add]
theorem ofQ_int (i : Int) : ofQ (i : Rat) = (i, 1) := by
  unfold ofQ
  rw [Rat.num_intCast, Rat.den_intCast]; rfl
end My
set_option exponentiation.threshold 20000
namespace My
open PySem PySem.Spec PyProof.Rows L2 DL
theorem lastT_skip {t : Int} : ∀ (ts : List (Int × Int)) (f : Option Int), (∀ q ∈ ts, t < q.1) → lastT t ts f = f
  | [], _, _ => rfl
  | q :: r, f, h => by
    rw [lastT, if_neg (by have := h q List.mem_cons_self; omega)]
    exact lastT_skip r f fun x hx => h x (List.mem_cons_of_mem _ hx)
theorem touch_lo {hi : Int} : ∀ (ts : List (Int × Int)) (lo : Int), touchesOk hi ts lo = true → ∀ q ∈ ts, lo ≤ q.1
  | [], _, _, q, hq => by cases hq
  | p :: r, lo, h, q, hq => by
    rw [touchesOk] at h
    simp only [Bool.and_eq_true, decide_eq_true_eq] at h
    obtain ⟨⟨⟨c1, c2⟩, c3, c4⟩, h⟩ := h
    rcases List.mem_cons.mp hq with rfl | hq
    · exact c1
    · have := touch_lo r _ h q hq
      omega
def cov (k : Int) (ts : List (Int × Int)) : Bool := ts.any fun q => decide (q.1 ≤ k) && decide (k < q.2)
theorem lastT_next {hi k : Int} : ∀ (ts : List (Int × Int)) (lo : Int) (f : Option Int), touchesOk hi ts lo = true → lastT k ts f = if cov k ts = true then some k else lastT (k - 1) ts f
  | [], _, f, _ => by
    rw [if_neg (by unfold cov; simp)]
    rfl
  | p :: r, lo, f, h => by
    have h' := h
    rw [touchesOk] at h
    simp only [Bool.and_eq_true, decide_eq_true_eq] at h
    obtain ⟨⟨⟨c1, c2⟩, c3, c4⟩, h⟩ := h
    have ih := fun g => lastT_next (k := k) r _ g h
    have lo2 := touch_lo r _ h
    have ec : cov k (p :: r) = ((decide (p.1 ≤ k) && decide (k < p.2)) || cov k r) := rfl
    rw [lastT, lastT, ih, ec]
    by_cases cr : cov k r = true
    · rw [if_pos cr, cr, Bool.or_true, if_pos rfl]
    · rw [if_neg cr]
      have cr : cov k r = false := by simpa using cr
      rw [cr, Bool.or_false]
      by_cases cp : p.1 ≤ k ∧ k < p.2
      · rw [if_pos cp.1, decide_eq_true cp.1, decide_eq_true cp.2, if_neg (show ¬ p.2 - 1 < k by omega), if_pos (show (true && true) = true from rfl)]
        exact lastT_skip r _ fun q hq => by have := lo2 q hq; omega
      · have eb : (decide (p.1 ≤ k) && decide (k < p.2)) = false := by
          rw [Bool.eq_false_iff]
          intro z
          simp only [Bool.and_eq_true, decide_eq_true_eq] at z
          exact cp z
        rw [eb, if_neg Bool.false_ne_true]
        congr 1
        by_cases c : p.1 ≤ k
        · rw [if_pos c, if_pos (by omega), if_pos (by omega)]
          by_cases c2 : p.2 - 1 < k - 1
          · rw [if_pos c2]
          · rw [if_neg c2]
            congr 1
            omega
        · rw [if_neg c, if_neg (by omega)]
end My
set_option exponentiation.threshold 20000
namespace My
open PySem PySem.Spec PyProof.Rows L2 DL
theorem tail_or {n : Int} {p : Ps} (hb : BodyOk n p) : p.tail = "stop" ∨ p.tail = "on" := by
  have h := List.contains_iff_mem.mp hb.tail
  simpa only [tails, List.mem_cons, List.not_mem_nil, or_false] using h
theorem endM_le {n : Int} {p : Ps} (hb : BodyOk n p) : p.last ≤ endM p n ∧ endM p n ≤ n := by
  have := hb.rng
  unfold endM
  split <;> omega
def RanTo (S : Cs → Prop) (r : Option (Fl × Cs)) : Prop := ∃ ρ', r = some (.nx, ρ') ∧ S ρ'
theorem st_ifJ {t : Mo Bool} {m k : Mo Fl} {p : Bool} {ρ ρ1 : Cs} {P : Option (Fl × Cs) → Prop} (S : Cs → Prop) (ht : t ρ = some (p, ρ1)) (h1 : p = true → RanTo S (m ρ1)) (h2 : p = false → S ρ1) (hk : ∀ ρ, S ρ → P (k ρ)) : P (sSeq (sIf t m sNx) k ρ) := by
  refine st_if ht (fun e => ?_) fun e => ?_
  · obtain ⟨ρ', q, s⟩ := h1 e
    exact st_run q (hk ρ' s)
  · exact st_nx (hk _ (h2 e))
theorem mix_same {f : Int} {j n : Nat} {X A : Int → D} (h : X (f + (j : Int)) = A (f + (j : Int))) : AL (mixF f j X A) n = AL (mixF f (j + 1) X A) n := AL_congr fun k _ _ => by
  unfold mixF
  by_cases e : k = f + (j : Int)
  · rw [if_neg (by omega), if_pos ⟨by omega, by omega⟩, e, h]
  · by_cases q : f ≤ k ∧ k < f + (j : Int)
    · rw [if_pos q, if_pos ⟨q.1, by omega⟩]
    · rw [if_neg q, if_neg (by omega)]
theorem atL_left {n : Int} {p : Ps} {r : List Ps} {t s : Int} (hw : wrQ p n t = (none, some (s, 1))) : atL n (p :: r) t = atL n r s := by
  rw [atL, hw]
  simp only [Option.map_none, Option.toList_none, List.append_nil, sc_ones]
end My
set_option exponentiation.threshold 20000
namespace My
open PySem PySem.Spec PyProof.Rows L2 DL
def numT (e : Str → Int → Int) (xs : List TQ) : Rat := sumQ (xs.map fun x => x.q * (e x.name x.at' : Rat))
def numQ (e : Str → Int → Int) (L : Int) (r : List Ps) (t : Int) : Rat := numT e (atL L r t)
theorem numT_sc (e : Str → Int → Int) (q : Rat) (xs : List TQ) : numT e (xs.map (TQ.sc q)) = q * numT e xs := by
  unfold numT
  rw [List.map_map, ← sumQ_mul, List.map_map]
  congr 1
  refine List.map_congr_left fun x _ => ?_
  show q * x.q * (e x.name x.at' : Rat) = q * (x.q * (e x.name x.at' : Rat))
  rw [Rat.mul_assoc]
theorem numT_app (e : Str → Int → Int) (xs ys : List TQ) : numT e (xs ++ ys) = numT e xs + numT e ys := by unfold numT; rw [List.map_append, sumQ_app]
theorem numT_one (e : Str → Int → Int) (s : Str) (a : Int) (q : Rat) : numT e [⟨s, a, q⟩] = q * (e s a : Rat) := by
  show q * (e s a : Rat) + 0 = _
  rw [Rat.add_zero]
theorem numQ_nil (e : Str → Int → Int) (L t : Int) : numQ e L [] t = (e "old" t : Rat) := by
  show numT e [⟨"old", t, 1⟩] = _
  rw [numT_one, Rat.one_mul]
theorem numQ_left {e : Str → Int → Int} {L t s : Int} {p : Ps} {r : List Ps} (hw : wrQ p L t = (none, some (s, 1))) : numQ e L (p :: r) t = numQ e L r s := by
  unfold numQ
  rw [atL_left hw]
theorem num_none {e : Str → Int → Int} {L t : Int} {p : Ps} {r : List Ps} (h1 : p.first ≤ t ∧ t < endM p L) (e0 : lastT t p.touches none = none) : numQ e L (p :: r) t = if p.mode = "write" then numQ e L r p.first else numQ e L r t := by
  rw [numQ_left (s := if p.mode = "write" then p.first else t) (by unfold wrQ; rw [if_pos h1, e0])]
  split <;> rfl
def moveQ (p : Ps) (k h x : Int) (q : Rat) : Rat := if p.mode = "write" ∨ p.mode = "latch" then (x : Rat) else if p.glide < k - h then q else if p.mode = "trim" then ((x * (p.glide + 1 - (k - h)) : Int) : Rat) / ((p.glide + 1 : Int) : Rat) + q else ((x * (p.glide + 1 - (k - h)) : Int) : Rat) / ((p.glide + 1 : Int) : Rat) + ((k - h : Int) : Rat) / ((p.glide + 1 : Int) : Rat) * q
theorem div_mul_q (a b c : Int) : (a : Rat) / (b : Rat) * (c : Rat) = ((c * a : Int) : Rat) / (b : Rat) := by
  rw [Rat.intCast_mul]
  grind
theorem num_some {e : Str → Int → Int} {L k h : Int} {p : Ps} {r : List Ps} (h1 : p.first ≤ k ∧ k < endM p L) (e0 : lastT k p.touches none = some h) (hmo : modes.contains p.mode = true) : numQ e L (p :: r) k = moveQ p k h (e p.name h) (numQ e L r k) := by
  unfold moveQ
  by_cases hm : p.mode = "write" ∨ p.mode = "latch"
  · have hw : wrQ p L k = (some (h, 1), none) := by
      unfold wrQ
      rw [if_pos h1, e0]
      simp only
      rw [if_pos hm]
    rw [if_pos hm]
    unfold numQ
    rw [atL, hw]
    show numT e ([] ++ [⟨p.name, h, 1⟩]) = _
    rw [List.nil_append, numT_one, Rat.one_mul]
  rw [if_neg hm]
  by_cases hg : p.glide < k - h
  · rw [if_pos hg, numQ_left (s := k) (by unfold wrQ; rw [if_pos h1, e0]; simp only; rw [if_neg hm, if_pos hg])]
  rw [if_neg hg]
  by_cases ht : p.mode = "trim"
  · have hw : wrQ p L k = (some (h, ((p.glide + 1 - (k - h) : Int) : Rat) / ((p.glide + 1 : Int) : Rat)), some (k, 1)) := by
      unfold wrQ
      rw [if_pos h1, e0]
      simp only
      rw [if_neg hm, if_neg hg, if_pos ht]
    rw [if_pos ht]
    unfold numQ
    rw [atL, hw]
    show numT e ((atL L r k).map (TQ.sc 1) ++ [⟨p.name, h, _⟩]) = _
    rw [numT_app, numT_one, numT_sc, Rat.one_mul, div_mul_q, Rat.add_comm]
  rw [if_neg ht]
  by_cases hk : k = h
  · have hw : wrQ p L k = (some (h, ((p.glide + 1 - (k - h) : Int) : Rat) / ((p.glide + 1 : Int) : Rat)), none) := by
      unfold wrQ
      rw [if_pos h1, e0]
      simp only
      rw [if_neg hm, if_neg hg, if_neg ht, if_pos hk]
    have z : ((k - h : Int) : Rat) = 0 := by rw [hk, Int.sub_self]; rfl
    rw [z]
    unfold numQ
    rw [atL, hw]
    show numT e ([] ++ [⟨p.name, h, _⟩]) = _
    rw [List.nil_append, numT_one, div_mul_q]
    grind
  · have hw : wrQ p L k = (some (h, ((p.glide + 1 - (k - h) : Int) : Rat) / ((p.glide + 1 : Int) : Rat)), some (k, ((k - h : Int) : Rat) / ((p.glide + 1 : Int) : Rat))) := by
      unfold wrQ
      rw [if_pos h1, e0]
      simp only
      rw [if_neg hm, if_neg hg, if_neg ht, if_neg hk]
    unfold numQ
    rw [atL, hw]
    show numT e ((atL L r k).map (TQ.sc _) ++ [⟨p.name, h, _⟩]) = _
    rw [numT_app, numT_one, numT_sc, div_mul_q, Rat.add_comm]
/-- numbers of names and ticks are numbers of names, tick by tick -/
def eOf (e : Str → Int → Int) (xs : List TQ) (s : Str) : Int := match xs.find? fun x => decide (x.name = s) with
  | some x => e s x.at'
  | none => 0
theorem eOf_mem {e : Str → Int → Int} : ∀ {xs : List TQ} {x : TQ}, (xs.map TQ.name).Nodup → x ∈ xs → eOf e xs x.name = e x.name x.at'
  | y :: xs, x, nd, hx => by
    rw [List.map_cons, List.nodup_cons] at nd
    unfold eOf
    rw [List.find?_cons]
    rcases List.mem_cons.mp hx with rfl | hx
    · rw [decide_eq_true rfl]
    · rw [decide_eq_false fun z => nd.1 (by rw [z]; exact List.mem_map.mpr ⟨x, hx, rfl⟩)]
      exact eOf_mem nd.2 hx
theorem sgQ_num {e : Str → Int → Int} {xs : List TQ} (nd : (xs.map TQ.name).Nodup) : sgQ (eOf e xs) (xs.map TQ.tm) = numT e xs := by
  rw [sgQ_sum, List.map_map]
  unfold numT
  congr 1
  refine List.map_congr_left fun x hx => ?_
  show toQ (ofQ x.q) * (eOf e xs x.name : Rat) = _
  rw [toQ_ofQ, eOf_mem nd hx]
theorem num_fr {e : Str → Int → Int} {L t : Int} {r : List Ps} (h : PssOk L r) (he : ∀ x ∈ atL L r t, (e x.name x.at').natAbs ≤ 2 ^ 130) : Fr (r.length + 1) (ofQ (numQ e L r t)) := by
  have nd := atL_nodup h t
  have f := sgQ_fr (e := eOf e (atL L r t)) (ts := (atL L r t).map TQ.tm) (fun x hx => by
    obtain ⟨y, hy, rfl⟩ := List.mem_map.mp hx
    exact (atL_wt r t (fun q hq => (b_of_pass (h.ok q hq)).1.gl) y hy).mono (by have := h.len; omega)) (fun x hx => by
    obtain ⟨y, hy, rfl⟩ := List.mem_map.mp hx
    show (eOf e (atL L r t) y.name).natAbs ≤ _
    rw [eOf_mem nd hy]
    exact he y hy)
  rw [sgQ_num nd, List.length_map] at f
  have hl := atL_len (L := L) (ps := r) t
  refine ⟨f.pos, Nat.le_trans f.le (Nat.pow_le_pow_right (by decide) (by omega)), Nat.le_trans f.n (Nat.mul_le_mul (Nat.mul_le_mul hl (Nat.le_refl _)) (Nat.le_refl _))⟩
theorem mv_alg {a T c S B : Int} (hS : 0 < S) (hB : 0 < B) : toQ (a * B + T * c, S * B) = (a : Rat) / (S : Rat) + (c : Rat) / (S : Rat) * toQ (T, B) := by
  have h1 : (S : Rat) ≠ 0 := by exact_mod_cast Int.ne_of_gt hS
  have h2 : (B : Rat) ≠ 0 := by exact_mod_cast Int.ne_of_gt hB
  show ((a * B + T * c : Int) : Rat) / ((S * B : Int) : Rat) = (a : Rat) / (S : Rat) + (c : Rat) / (S : Rat) * ((T : Rat) / (B : Rat))
  rw [Rat.intCast_add, Rat.intCast_mul, Rat.intCast_mul, Rat.intCast_mul]
  grind
def Nk (e : Str → Int → Int) (L : Int) (r : List Ps) (k : Int) : D := encW (ofQ (numQ e L r k))
section
variable (C : Addr)
theorem v_law_move {q : Rat} {L k h x : Int} {p : Ps} (hb : BodyOk L p) (hq : (ofQ q).1.natAbs ≤ 2 ^ 900 ∧ (ofQ q).2.natAbs ≤ 2 ^ 900) (hk : 0 ≤ h ∧ h ≤ k ∧ k ≤ 10 ^ 12) (hx : x.natAbs ≤ 2 ^ 130) : F_law_move C [encW (ofQ q), .int k, .int h, .int x, encP p] = some (encW (ofQ (moveQ p k h x q))) := by
  have oe : modes.contains p.mode = true := hb.mode
  have gl := hb.gl
  have ins := in_strL (modes_strOk oe) [("write" : Str), "latch"] (by decide +kernel)
  have dm : dEq (.str p.mode) (.str "trim") = some (.bl (decide (p.mode = "trim"))) := rfl
  have i1 : dIx (encP p) (.int 1) = some (.str p.mode) := rfl
  have i5 : dIx (encP p) (.int 5) = some (.int p.glide) := rfl
  have hs : 0 < p.glide + 1 := by omega
  have hB := ofQ_pos q
  have hSB : 0 < (p.glide + 1) * (ofQ q).2 := Int.mul_pos hs hB
  have hn : ((p.glide + 1) * (ofQ q).2).natAbs ≤ 2 ^ 1000 := by
    rw [Int.natAbs_mul]
    refine Nat.le_trans (Nat.mul_le_mul (show (p.glide + 1).natAbs ≤ 128 by omega) hq.2) (by decide +kernel)
  have l1 := v_law_lowG C (a := x * (p.glide + 1 - k + h) * (ofQ q).2 + (ofQ q).1 * (p.glide + 1)) hSB hn
  have l2 := v_law_lowG C (a := x * (p.glide + 1 - k + h) * (ofQ q).2 + (ofQ q).1 * (k - h)) hSB hn
  have e1 : lowM (x * (p.glide + 1 - k + h) * (ofQ q).2 + (ofQ q).1 * (p.glide + 1)) ((p.glide + 1) * (ofQ q).2) = ofQ (((x * (p.glide + 1 - (k - h)) : Int) : Rat) / ((p.glide + 1 : Int) : Rat) + q) := by
    have := mv_alg (a := x * (p.glide + 1 - k + h)) (T := (ofQ q).1) (c := p.glide + 1) hs hB
    rw [lowM_toQ (w := (x * (p.glide + 1 - k + h) * (ofQ q).2 + (ofQ q).1 * (p.glide + 1), (p.glide + 1) * (ofQ q).2)) hSB, this, show toQ ((ofQ q).1, (ofQ q).2) = q from toQ_ofQ q, div_self_q hs, Rat.one_mul, show p.glide + 1 - k + h = p.glide + 1 - (k - h) by omega]
  have e2 : lowM (x * (p.glide + 1 - k + h) * (ofQ q).2 + (ofQ q).1 * (k - h)) ((p.glide + 1) * (ofQ q).2) = ofQ (((x * (p.glide + 1 - (k - h)) : Int) : Rat) / ((p.glide + 1 : Int) : Rat) + ((k - h : Int) : Rat) / ((p.glide + 1 : Int) : Rat) * q) := by
    have := mv_alg (a := x * (p.glide + 1 - k + h)) (T := (ofQ q).1) (c := k - h) hs hB
    rw [lowM_toQ (w := (x * (p.glide + 1 - k + h) * (ofQ q).2 + (ofQ q).1 * (k - h), (p.glide + 1) * (ofQ q).2)) hSB, this, show toQ ((ofQ q).1, (ofQ q).2) = q from toQ_ofQ q, show p.glide + 1 - k + h = p.glide + 1 - (k - h) by omega]
  rw [e1] at l1
  rw [e2] at l2
  have up : (2 : Nat) ^ 900 ≤ 2 ^ 1000 := by decide +kernel
  have s7 : (p.glide + 1).natAbs ≤ 2 ^ 1000 := Nat.le_trans (show (p.glide + 1).natAbs ≤ 2 ^ 10 by omega) (by decide +kernel)
  have s8 : (p.glide + 1 - k + h).natAbs ≤ 2 ^ 50 := by omega
  have up5 : (2 : Nat) ^ 50 ≤ 2 ^ 1000 := by decide +kernel
  have m1 := mul_ok (Nat.le_trans hx (by decide +kernel : (2 : Nat) ^ 130 ≤ 2 ^ 1000)) (Nat.le_trans s8 up5)
  have s9 : (x * (p.glide + 1 - k + h)).natAbs ≤ 2 ^ 1000 := by
    rw [Int.natAbs_mul]
    exact Nat.le_trans (Nat.mul_le_mul hx s8) (by decide +kernel)
  have m2 := mul_ok s9 (Nat.le_trans hq.2 up)
  have m3 := mul_ok s7 (Nat.le_trans hq.2 up)
  have m4 := mul_ok (Nat.le_trans hq.1 up) s7
  have m5 := mul_ok (Nat.le_trans hq.1 up) (Nat.le_trans (show (k - h).natAbs ≤ 2 ^ 50 by omega) up5)
  have ew : encW (ofQ q) = .tup [.int (ofQ q).1, .int (ofQ q).2] := rfl
  unfold moveQ
  generalize (ofQ q).1 = T at *
  generalize (ofQ q).2 = B at *
  rw [ew]
  generalize encP p = V at i1 i5
  refine retF ?_
  unfold B_law_move
  refine st_par (ds := [.str p.mode, .int (p.glide + 1)]) (ρ1 := [.dat (.tup [.int T, .int B]), .dat (.int k), .dat (.int h), .dat (.int x), .dat V, .no, .no, .no, .no, .no]) (ρ2 := [.dat (.tup [.int T, .int B]), .dat (.int k), .dat (.int h), .dat (.int x), .dat V, .dat (.str p.mode), .dat (.int (p.glide + 1)), .no, .no, .no]) (e_acons (e_op (e_var rfl) e_c i1) (e_acons (e_op (e_op (e_var rfl) e_c i5) e_c rfl) e_anil)) rfl ?_
  refine st_asg (d := .tup [.int T, .int B]) (ρ1 := [.dat (.tup [.int T, .int B]), .dat (.int k), .dat (.int h), .dat (.int x), .dat V, .dat (.str p.mode), .dat (.int (p.glide + 1)), .no, .no, .no]) (ρ2 := [.dat (.tup [.int T, .int B]), .dat (.int k), .dat (.int h), .dat (.int x), .dat V, .dat (.str p.mode), .dat (.int (p.glide + 1)), .dat (.int T), .dat (.int B), .no]) (e_var rfl) rfl ?_
  have hiff : (([("write" : Str), "latch"].contains p.mode)) = decide (p.mode = "write" ∨ p.mode = "latch") := by
    rw [Bool.eq_iff_iff]
    simp [List.contains_iff_mem]
  rw [hiff] at ins
  refine st_if (p := decide (p.mode = "write" ∨ p.mode = "latch")) (ρ1 := [.dat (.tup [.int T, .int B]), .dat (.int k), .dat (.int h), .dat (.int x), .dat V, .dat (.str p.mode), .dat (.int (p.glide + 1)), .dat (.int T), .dat (.int B), .no]) (by refine_lift' eva [ins]) (fun c => ?_) (fun c => ?_)
  · have c := of_decide_eq_true c
    rw [if_pos c, ofQ_int]
    refine st_ret (ρ1 := [.dat (.tup [.int T, .int B]), .dat (.int k), .dat (.int h), .dat (.int x), .dat V, .dat (.str p.mode), .dat (.int (p.glide + 1)), .dat (.int T), .dat (.int B), .no]) (e_tup (e_acons (e_var rfl) (e_acons e_c e_anil)) (len_le (by simp))) ?_
    exact rq_rt rfl
  have c := of_decide_eq_false c
  rw [if_neg c]
  refine st_nx ?_
  have ge : dGe (.int (k - h)) (.int (p.glide + 1)) = some (.bl (decide (p.glide < k - h))) := by
    show some (D.bl (decide (p.glide + 1 ≤ k - h))) = _
    rw [show decide (p.glide + 1 ≤ k - h) = decide (p.glide < k - h) from decide_eq_decide.mpr (by omega)]
  refine st_if (p := decide (p.glide < k - h)) (ρ1 := [.dat (.tup [.int T, .int B]), .dat (.int k), .dat (.int h), .dat (.int x), .dat V, .dat (.str p.mode), .dat (.int (p.glide + 1)), .dat (.int T), .dat (.int B), .no]) (by refine_lift' eva [ge]) (fun c2 => ?_) (fun c2 => ?_)
  · have c2 := of_decide_eq_true c2
    rw [if_pos c2, ew]
    refine st_ret (ρ1 := [.dat (.tup [.int T, .int B]), .dat (.int k), .dat (.int h), .dat (.int x), .dat V, .dat (.str p.mode), .dat (.int (p.glide + 1)), .dat (.int T), .dat (.int B), .no]) (e_var rfl) ?_
    exact rq_rt rfl
  have c2 := of_decide_eq_false c2
  rw [if_neg c2]
  refine st_nx ?_
  refine st_set (d := .int (x * (p.glide + 1 - k + h) * B)) (ρ1 := [.dat (.tup [.int T, .int B]), .dat (.int k), .dat (.int h), .dat (.int x), .dat V, .dat (.str p.mode), .dat (.int (p.glide + 1)), .dat (.int T), .dat (.int B), .no]) (by refine_lift' ev [m1, m2]) ?_
  refine st_if (p := decide (p.mode = "trim")) (ρ1 := [.dat (.tup [.int T, .int B]), .dat (.int k), .dat (.int h), .dat (.int x), .dat V, .dat (.str p.mode), .dat (.int (p.glide + 1)), .dat (.int T), .dat (.int B), .dat (.int (x * (p.glide + 1 - k + h) * B))]) (by refine_lift' eva [dm]) (fun c3 => ?_) (fun c3 => ?_)
  · have c3 := of_decide_eq_true c3
    rw [if_pos c3]
    refine st_ret (ρ1 := [.dat (.tup [.int T, .int B]), .dat (.int k), .dat (.int h), .dat (.int x), .dat V, .dat (.str p.mode), .dat (.int (p.glide + 1)), .dat (.int T), .dat (.int B), .dat (.int (x * (p.glide + 1 - k + h) * B))]) (e_fn (e_acons (e_op (e_var rfl) (e_op (e_var rfl) (e_var rfl) m4) rfl) (e_acons (e_op (e_var rfl) (e_var rfl) m3) e_anil)) l1) ?_
    exact rq_rt rfl
  have c3 := of_decide_eq_false c3
  rw [if_neg c3]
  refine st_nx (sw_ret (st_ret (ρ1 := [.dat (.tup [.int T, .int B]), .dat (.int k), .dat (.int h), .dat (.int x), .dat V, .dat (.str p.mode), .dat (.int (p.glide + 1)), .dat (.int T), .dat (.int B), .dat (.int (x * (p.glide + 1 - k + h) * B))]) (e_fn (e_acons (e_op (e_var rfl) (e_op (e_var rfl) (e_op (e_var rfl) (e_var rfl) rfl) m5) rfl) (e_acons (e_op (e_var rfl) (e_var rfl) m3) e_anil)) l2) ?_))
  exact rq_rt rfl
set_option maxHeartbeats 1500000 in
theorem v_played_in {e : Str → Int → Int} {n : Nat} {p : Ps} {r : List Ps} {OL SM : D} {kk : List (List Key)} {kd : List D} {x15 : Cell} (hr : PssOk n (p :: r)) (hn : n ≤ 100) (ho : dLen [OL] = some (.int (n : Int)))
    (hg : ∀ h, (∃ q ∈ p.touches, q.1 ≤ h ∧ h < q.2) → dGetT (.dit kk kd) (.tup [.str p.name, .int h]) = some (.int (e p.name h)))
    (hq : ∀ k : Int, 0 ≤ k → k < n → (ofQ (numQ e n r k)).1.natAbs ≤ 2 ^ 900 ∧ (ofQ (numQ e n r k)).2.natAbs ≤ 2 ^ 900) (hx : ∀ s h, (e s h).natAbs ≤ 2 ^ 130) :
    RanTo (fun ρ' => ∃ sp k, ρ' = [.dat OL, .dat (.dit kk kd), .dat SM, .dat (.lst (AL (Nk e n r) n)), .no, .dat (encP p), .dat (.str p.name), .dat (.str p.mode), .dat (.int p.first), .dat (.int p.last), .dat (.tup (p.touches.map encT)), .dat (.int p.glide), .dat (.str p.tail), .own false (.lst (AL (Nk e n (p :: r)) n)), sp, k, .no, .no]) (sFor (iFn rng2? (aCons (mVar 8) (aCons (mIf (mTst (mOp dEq (mVar 12) (mC (.str "stop")))) (mVar 9) (mFn dLen (aCons (mVar 0) aNil))) aNil))) (gNm 15) (sSeq (sIf (mTst (mOp dNe (mLc [16, 17] (iSeq seqT (mVar 10)) (gTp 2 (gsCons (gNm 16) (gsCons (gNm 17) gsNil))) (mTst (mChain dLe dLt (mVar 16) (mVar 15) (mVar 17))) (mVar 16)) (mLst aNil))) (sSet 14 (mVar 15)) sNx)
    (sIf (mTst (mOp dIsNot (mVar 14) (mC .non))) (sAsg (mFn (F_law_move C) (aCons (mOp dIx (mVar 3) (mVar 15)) (aCons (mVar 15) (aCons (mVar 14) (aCons (mDT dGetT 1 (mTup (aCons (mVar 6) (aCons (mVar 14) aNil)))) (aCons (mVar 5) aNil)))))) (gPut 13 (mVar 15))) (sIf (mTst (mOp dEq (mVar 7) (mC (.str "write")))) (sAsg (mOp dIx (mVar 3) (mVar 8)) (gPut 13 (mVar 15))) sNx))) [.dat OL, .dat (.dit kk kd), .dat SM, .dat (.lst (AL (Nk e n r) n)), .no, .dat (encP p), .dat (.str p.name), .dat (.str p.mode), .dat (.int p.first), .dat (.int p.last), .dat (.tup (p.touches.map encT)), .dat (.int p.glide), .dat (.str p.tail), .own false (.lst (AL (Nk e n r) n)), .dat .non, x15, .no, .no]) := by
  obtain ⟨hb, hnm, hno⟩ := b_of_pass (hr.ok p List.mem_cons_self)
  have rg := hb.rng
  have he := endM_le hb
  have gl := hb.gl
  have hr0 : PssOk n r := hr.sub (List.sublist_cons_self _ _)
  have mi : mIf (mTst (mOp dEq (mVar 12) (mC (.str "stop")))) (mVar 9) (mFn dLen (aCons (mVar 0) aNil)) [.dat OL, .dat (.dit kk kd), .dat SM, .dat (.lst (AL (Nk e n r) n)), .no, .dat (encP p), .dat (.str p.name), .dat (.str p.mode), .dat (.int p.first), .dat (.int p.last), .dat (.tup (p.touches.map encT)), .dat (.int p.glide), .dat (.str p.tail), .own false (.lst (AL (Nk e n r) n)), .dat .non, x15, .no, .no] = some (.int (endM p n), [.dat OL, .dat (.dit kk kd), .dat SM, .dat (.lst (AL (Nk e n r) n)), .no, .dat (encP p), .dat (.str p.name), .dat (.str p.mode), .dat (.int p.first), .dat (.int p.last), .dat (.tup (p.touches.map encT)), .dat (.int p.glide), .dat (.str p.tail), .own false (.lst (AL (Nk e n r) n)), .dat .non, x15, .no, .no]) := by
    have dq : dEq (.str p.tail) (.str "stop") = some (.bl (decide (p.tail = "stop"))) := rfl
    rcases tail_or hb with q | q
    · rw [decide_eq_true q] at dq
      have e' : endM p n = p.last := by unfold endM; rw [q, if_neg (by decide +kernel)]
      rw [e']
      exact e_if1 (ρ1 := [.dat OL, .dat (.dit kk kd), .dat SM, .dat (.lst (AL (Nk e n r) n)), .no, .dat (encP p), .dat (.str p.name), .dat (.str p.mode), .dat (.int p.first), .dat (.int p.last), .dat (.tup (p.touches.map encT)), .dat (.int p.glide), .dat (.str p.tail), .own false (.lst (AL (Nk e n r) n)), .dat .non, x15, .no, .no]) (by refine_lift' ev [dq]) (by refine_lift' ev)
    · rw [decide_eq_false (by rw [q]; decide +kernel)] at dq
      have e' : endM p n = n := by unfold endM; rw [if_pos q]
      rw [e']
      exact e_if0 (ρ1 := [.dat OL, .dat (.dit kk kd), .dat SM, .dat (.lst (AL (Nk e n r) n)), .no, .dat (encP p), .dat (.str p.name), .dat (.str p.mode), .dat (.int p.first), .dat (.int p.last), .dat (.tup (p.touches.map encT)), .dat (.int p.glide), .dat (.str p.tail), .own false (.lst (AL (Nk e n r) n)), .dat .non, x15, .no, .no]) (by refine_lift' ev [dq]) (by refine_lift' ev [ho])
  have hrg : rng2? [.int p.first, .int (endM p n)] = some ((List.range (endM p n - p.first).toNat).map fun j : Nat => D.int (p.first + (j : Int))) := by
    simp only [rng2?]
    rw [if_pos (by omega)]
    rfl
  obtain ⟨a, ha⟩ : ∃ a : Nat, p.first = (a : Int) := ⟨p.first.toNat, by omega⟩
  refine st_one ?_
  refine st_for (α := Nat) (enc := fun j : Nat => D.int (p.first + (j : Int))) (xs := List.range (endM p n - p.first).toNat) (ρ1 := [.dat OL, .dat (.dit kk kd), .dat SM, .dat (.lst (AL (Nk e n r) n)), .no, .dat (encP p), .dat (.str p.name), .dat (.str p.mode), .dat (.int p.first), .dat (.int p.last), .dat (.tup (p.touches.map encT)), .dat (.int p.glide), .dat (.str p.tail), .own false (.lst (AL (Nk e n r) n)), .dat .non, x15, .no, .no]) ?_ (fun ys ρ => ∃ x, ρ = [.dat OL, .dat (.dit kk kd), .dat SM, .dat (.lst (AL (Nk e n r) n)), .no, .dat (encP p), .dat (.str p.name), .dat (.str p.mode), .dat (.int p.first), .dat (.int p.last), .dat (.tup (p.touches.map encT)), .dat (.int p.glide), .dat (.str p.tail), .own false (.lst (AL (mixF p.first ys.length (Nk e n (p :: r)) (Nk e n r)) n)), .dat (encOI (lastT (p.first + (ys.length : Int) - 1) p.touches none)), x, .no, .no]) ⟨x15, ?_⟩ ?_ ?_
  · refine e_bd (v := [.int p.first, .int (endM p n)]) (ρ1 := [.dat OL, .dat (.dit kk kd), .dat SM, .dat (.lst (AL (Nk e n r) n)), .no, .dat (encP p), .dat (.str p.name), .dat (.str p.mode), .dat (.int p.first), .dat (.int p.last), .dat (.tup (p.touches.map encT)), .dat (.int p.glide), .dat (.str p.tail), .own false (.lst (AL (Nk e n r) n)), .dat .non, x15, .no, .no]) (e_acons (ρ1 := [.dat OL, .dat (.dit kk kd), .dat SM, .dat (.lst (AL (Nk e n r) n)), .no, .dat (encP p), .dat (.str p.name), .dat (.str p.mode), .dat (.int p.first), .dat (.int p.last), .dat (.tup (p.touches.map encT)), .dat (.int p.glide), .dat (.str p.tail), .own false (.lst (AL (Nk e n r) n)), .dat .non, x15, .no, .no]) (e_var rfl) (e_acons (by with_unfolding_all exact mi) e_anil)) ?_
    show mL (rng2? [.int p.first, .int (endM p n)]) _ = _
    rw [hrg]
    rfl
  · have e0 : lastT (p.first + ((([] : List Nat).length : Nat) : Int) - 1) p.touches none = none := lastT_skip _ _ fun q hq => by
      have := touch_lo _ _ hb.tok q hq
      show p.first + 0 - 1 < q.1
      omega
    rw [e0, List.length_nil, mix_zero]
    rfl
  · rintro ys j zs ρ ee ⟨x, rfl⟩
    obtain ⟨rfl, hj⟩ := range_at ee
    generalize hl : ys.length = j at *
    generalize hk : p.first + (j : Int) = k
    have hk0 : p.first ≤ k ∧ k < endM p n := by omega
    have ixk := ix_AL (Nk e n r) (n := n) (k := k) (by omega) (by omega)
    have ixf := ix_AL (Nk e n r) (n := n) (k := p.first) (by omega) (by omega)
    have hix : ixN (AL (mixF p.first j (Nk e n (p :: r)) (Nk e n r)) n).length k = some (a + j) := by
      rw [AL_len, show k = ((a + j : Nat) : Int) by omega]
      exact ixN_nat (by omega)
    have ms := mix_step ha j n (Nk e n (p :: r)) (Nk e n r)
    rw [hk] at ms
    have nx := lastT_next (k := k) p.touches p.first none hb.tok
    have hti := lastT_in (t := k) p.touches none p.first p.last hb.tok
    have esp : p.first + ((j + 1 : Nat) : Int) - 1 = k := by omega
    generalize hT : lastT k p.touches none = T at nx hti
    have hcv : mTst (mOp dNe (mLc [16, 17] (iSeq seqT (mVar 10)) (gTp 2 (gsCons (gNm 16) (gsCons (gNm 17) gsNil))) (mTst (mChain dLe dLt (mVar 16) (mVar 15) (mVar 17))) (mVar 16)) (mLst aNil)) [.dat OL, .dat (.dit kk kd), .dat SM, .dat (.lst (AL (Nk e n r) n)), .no, .dat (encP p), .dat (.str p.name), .dat (.str p.mode), .dat (.int p.first), .dat (.int p.last), .dat (.tup (p.touches.map encT)), .dat (.int p.glide), .dat (.str p.tail), .own false (.lst (AL (mixF p.first j (Nk e n (p :: r)) (Nk e n r)) n)), .dat (encOI (lastT (k - 1) p.touches none)), .dat (.int k), .no, .no] = some (cov k p.touches, [.dat OL, .dat (.dit kk kd), .dat SM, .dat (.lst (AL (Nk e n r) n)), .no, .dat (encP p), .dat (.str p.name), .dat (.str p.mode), .dat (.int p.first), .dat (.int p.last), .dat (.tup (p.touches.map encT)), .dat (.int p.glide), .dat (.str p.tail), .own false (.lst (AL (mixF p.first j (Nk e n (p :: r)) (Nk e n r)) n)), .dat (encOI (lastT (k - 1) p.touches none)), .dat (.int k), .no, .no]) := by
      have hlc := e_lcf (α := Int × Int) (vs := [16, 17]) (it := iSeq seqT (mVar 10)) (g := gTp 2 (gsCons (gNm 16) (gsCons (gNm 17) gsNil))) (t := mTst (mChain dLe dLt (mVar 16) (mVar 15) (mVar 17))) (e := mVar 16) (enc := encT) (f := fun q => .int q.1) (xs := p.touches) (p := fun q => decide (q.1 ≤ k) && decide (k < q.2)) (ρ := [.dat OL, .dat (.dit kk kd), .dat SM, .dat (.lst (AL (Nk e n r) n)), .no, .dat (encP p), .dat (.str p.name), .dat (.str p.mode), .dat (.int p.first), .dat (.int p.last), .dat (.tup (p.touches.map encT)), .dat (.int p.glide), .dat (.str p.tail), .own false (.lst (AL (mixF p.first j (Nk e n (p :: r)) (Nk e n r)) n)), .dat (encOI (lastT (k - 1) p.touches none)), .dat (.int k), .no, .no]) (ρ1 := [.dat OL, .dat (.dit kk kd), .dat SM, .dat (.lst (AL (Nk e n r) n)), .no, .dat (encP p), .dat (.str p.name), .dat (.str p.mode), .dat (.int p.first), .dat (.int p.last), .dat (.tup (p.touches.map encT)), .dat (.int p.glide), .dat (.str p.tail), .own false (.lst (AL (mixF p.first j (Nk e n (p :: r)) (Nk e n r)) n)), .dat (encOI (lastT (k - 1) p.touches none)), .dat (.int k), .no, .no]) rfl rfl (len_le (by have := hb.tl; omega)) (by
        intro q _
        exact ⟨(), [.dat OL, .dat (.dit kk kd), .dat SM, .dat (.lst (AL (Nk e n r) n)), .no, .dat (encP p), .dat (.str p.name), .dat (.str p.mode), .dat (.int p.first), .dat (.int p.last), .dat (.tup (p.touches.map encT)), .dat (.int p.glide), .dat (.str p.tail), .own false (.lst (AL (mixF p.first j (Nk e n (p :: r)) (Nk e n r)) n)), .dat (encOI (lastT (k - 1) p.touches none)), .dat (.int k), .dat (.int q.1), .dat (.int q.2)], rfl, [.dat OL, .dat (.dit kk kd), .dat SM, .dat (.lst (AL (Nk e n r) n)), .no, .dat (encP p), .dat (.str p.name), .dat (.str p.mode), .dat (.int p.first), .dat (.int p.last), .dat (.tup (p.touches.map encT)), .dat (.int p.glide), .dat (.str p.tail), .own false (.lst (AL (mixF p.first j (Nk e n (p :: r)) (Nk e n r)) n)), .dat (encOI (lastT (k - 1) p.touches none)), .dat (.int k), .dat (.int q.1), .dat (.int q.2)], by refine_lift' ev, fun _ => rfl, fun _ => ⟨[.dat OL, .dat (.dit kk kd), .dat SM, .dat (.lst (AL (Nk e n r) n)), .no, .dat (encP p), .dat (.str p.name), .dat (.str p.mode), .dat (.int p.first), .dat (.int p.last), .dat (.tup (p.touches.map encT)), .dat (.int p.glide), .dat (.str p.tail), .own false (.lst (AL (mixF p.first j (Nk e n (p :: r)) (Nk e n r)) n)), .dat (encOI (lastT (k - 1) p.touches none)), .dat (.int k), .dat (.int q.1), .dat (.int q.2)], by refine_lift' ev, rfl⟩⟩) rfl
      cases hf : p.touches.filter (fun q => decide (q.1 ≤ k) && decide (k < q.2)) with
      | nil =>
        have hc : cov k p.touches = false := by
          unfold cov
          rw [List.any_eq_false]
          exact List.filter_eq_nil_iff.mp hf
        rw [hf] at hlc
        rw [hc]
        exact e_tst (e_op hlc (by refine_lift' eva) ne_nil0)
      | cons q qs =>
        have hc : cov k p.touches = true := by
          unfold cov
          rw [List.any_eq_true]
          have hm : q ∈ p.touches.filter (fun q => decide (q.1 ≤ k) && decide (k < q.2)) := by rw [hf]; exact List.mem_cons_self
          exact ⟨q, (List.mem_filter.mp hm).1, (List.mem_filter.mp hm).2⟩
        rw [hf] at hlc
        rw [hc]
        have e1 := ne_nilL (n := 1) (d := D.int q.1) (ds := qs.map fun q => D.int q.1) (gd_lst (n := 0) fun x hx => by
          rcases List.mem_cons.mp hx with rfl | hx
          · exact gd_int _ _
          · obtain ⟨a, _, rfl⟩ := List.mem_map.mp hx
            exact gd_int _ _) (by decide) (by decide)
        exact e_tst (e_op hlc (by refine_lift' eva) e1)
    refine ⟨(), [.dat OL, .dat (.dit kk kd), .dat SM, .dat (.lst (AL (Nk e n r) n)), .no, .dat (encP p), .dat (.str p.name), .dat (.str p.mode), .dat (.int p.first), .dat (.int p.last), .dat (.tup (p.touches.map encT)), .dat (.int p.glide), .dat (.str p.tail), .own false (.lst (AL (mixF p.first j (Nk e n (p :: r)) (Nk e n r)) n)), .dat (encOI (lastT (k - 1) p.touches none)), .dat (.int k), .no, .no], rfl, ?_⟩
    have gp : ∀ (d : D), ∃ ρ', gPut 13 (mVar 15) d [.dat OL, .dat (.dit kk kd), .dat SM, .dat (.lst (AL (Nk e n r) n)), .no, .dat (encP p), .dat (.str p.name), .dat (.str p.mode), .dat (.int p.first), .dat (.int p.last), .dat (.tup (p.touches.map encT)), .dat (.int p.glide), .dat (.str p.tail), .own false (.lst (AL (mixF p.first j (Nk e n (p :: r)) (Nk e n r)) n)), .dat (encOI T), .dat (.int k), .no, .no] = some ((), ρ') ∧ ρ' = ([.dat OL, .dat (.dit kk kd), .dat SM, .dat (.lst (AL (Nk e n r) n)), .no, .dat (encP p), .dat (.str p.name), .dat (.str p.mode), .dat (.int p.first), .dat (.int p.last), .dat (.tup (p.touches.map encT)), .dat (.int p.glide), .dat (.str p.tail), .own false (.lst (AL (mixF p.first j (Nk e n (p :: r)) (Nk e n r)) n)), .dat (encOI T), .dat (.int k), .no, .no] : Cs).set 13 (.own false (.lst ((AL (mixF p.first j (Nk e n (p :: r)) (Nk e n r)) n).set (a + j) d))) := fun d =>
      ⟨_, g_putE (i := 13) (ds := []) (n := k) (j := a + j) (ρ1 := [.dat OL, .dat (.dit kk kd), .dat SM, .dat (.lst (AL (Nk e n r) n)), .no, .dat (encP p), .dat (.str p.name), .dat (.str p.mode), .dat (.int p.first), .dat (.int p.last), .dat (.tup (p.touches.map encT)), .dat (.int p.glide), .dat (.str p.tail), .own false (.lst (AL (mixF p.first j (Nk e n (p :: r)) (Nk e n r)) n)), .dat (encOI T), .dat (.int k), .no, .no]) rfl (e_var (i := 15) (d := .int k) rfl) rfl hix, rfl⟩
    have fin : ([.dat OL, .dat (.dit kk kd), .dat SM, .dat (.lst (AL (Nk e n r) n)), .no, .dat (encP p), .dat (.str p.name), .dat (.str p.mode), .dat (.int p.first), .dat (.int p.last), .dat (.tup (p.touches.map encT)), .dat (.int p.glide), .dat (.str p.tail), .own false (.lst (AL (mixF p.first j (Nk e n (p :: r)) (Nk e n r)) n)), .dat (encOI T), .dat (.int k), .no, .no] : Cs).set 13 (.own false (.lst ((AL (mixF p.first j (Nk e n (p :: r)) (Nk e n r)) n).set (a + j) (Nk e n (p :: r) k)))) = ([.dat OL, .dat (.dit kk kd), .dat SM, .dat (.lst (AL (Nk e n r) n)), .no, .dat (encP p), .dat (.str p.name), .dat (.str p.mode), .dat (.int p.first), .dat (.int p.last), .dat (.tup (p.touches.map encT)), .dat (.int p.glide), .dat (.str p.tail), .own false (.lst (AL (mixF p.first (j + 1) (Nk e n (p :: r)) (Nk e n r)) n)), .dat (encOI (lastT k p.touches none)), .dat (.int k), .no, .no] : Cs) := by
      rw [ms, hT]
      rfl
    with_reducible refine st_ifJ (fun ρ => ρ = [.dat OL, .dat (.dit kk kd), .dat SM, .dat (.lst (AL (Nk e n r) n)), .no, .dat (encP p), .dat (.str p.name), .dat (.str p.mode), .dat (.int p.first), .dat (.int p.last), .dat (.tup (p.touches.map encT)), .dat (.int p.glide), .dat (.str p.tail), .own false (.lst (AL (mixF p.first j (Nk e n (p :: r)) (Nk e n r)) n)), .dat (encOI T), .dat (.int k), .no, .no]) hcv ?_ ?_ ?_
    · intro c
      rw [c, if_pos rfl] at nx
      refine ⟨_, rfl, ?_⟩
      rw [nx]
      rfl
    · intro c
      rw [c, if_neg Bool.false_ne_true] at nx
      rw [nx]
    · rintro ρ rfl
      have dq : dEq (.str p.mode) (.str "write") = some (.bl (decide (p.mode = "write"))) := rfl
      refine st_one ?_
      cases T with
      | none =>
        have tv := num_none (e := e) (r := r) hk0 hT
        have is : dIsNot .non .non = some (.bl false) := rfl
        refine st_if (p := false) (ρ1 := [.dat OL, .dat (.dit kk kd), .dat SM, .dat (.lst (AL (Nk e n r) n)), .no, .dat (encP p), .dat (.str p.name), .dat (.str p.mode), .dat (.int p.first), .dat (.int p.last), .dat (.tup (p.touches.map encT)), .dat (.int p.glide), .dat (.str p.tail), .own false (.lst (AL (mixF p.first j (Nk e n (p :: r)) (Nk e n r)) n)), .dat (encOI none), .dat (.int k), .no, .no]) (e_tst (e_op (e_var rfl) e_c is)) (fun z => by cases z) fun _ => ?_
        refine st_if (p := decide (p.mode = "write")) (ρ1 := [.dat OL, .dat (.dit kk kd), .dat SM, .dat (.lst (AL (Nk e n r) n)), .no, .dat (encP p), .dat (.str p.name), .dat (.str p.mode), .dat (.int p.first), .dat (.int p.last), .dat (.tup (p.touches.map encT)), .dat (.int p.glide), .dat (.str p.tail), .own false (.lst (AL (mixF p.first j (Nk e n (p :: r)) (Nk e n r)) n)), .dat (encOI none), .dat (.int k), .no, .no]) (by refine_lift' eva [dq]) (fun c => ?_) fun c => ?_
        · have c := of_decide_eq_true c
          rw [if_pos c] at tv
          have tv : Nk e n r p.first = Nk e n (p :: r) k := by unfold Nk; rw [tv]
          obtain ⟨ρ', g1, rfl⟩ := gp (Nk e n (p :: r) k)
          refine st_asg (d := Nk e n (p :: r) k) (ρ1 := [.dat OL, .dat (.dit kk kd), .dat SM, .dat (.lst (AL (Nk e n r) n)), .no, .dat (encP p), .dat (.str p.name), .dat (.str p.mode), .dat (.int p.first), .dat (.int p.last), .dat (.tup (p.touches.map encT)), .dat (.int p.glide), .dat (.str p.tail), .own false (.lst (AL (mixF p.first j (Nk e n (p :: r)) (Nk e n r)) n)), .dat (encOI none), .dat (.int k), .no, .no]) (by rw [← tv]; exact e_op (e_var rfl) (e_var rfl) ixf) g1 ?_
          refine_lift' st
          refine ⟨.dat (.int k), ?_⟩
          have f := fin
          rw [hT] at f
          rw [List.length_append, List.length_singleton, hl, esp, hT, ← f]
        · have c := of_decide_eq_false c
          rw [if_neg c] at tv
          refine_lift' st
          refine ⟨.dat (.int k), ?_⟩
          have e := mix_same (f := p.first) (j := j) (n := n) (X := Nk e n (p :: r)) (A := Nk e n r) (by rw [hk]; unfold Nk; rw [tv])
          rw [List.length_append, List.length_singleton, hl, esp, hT, ← e]
      | some h =>
        have tv := num_some (e := e) (r := r) hk0 hT hb.mode
        have is : dIsNot (.int h) .non = some (.bl true) := rfl
        have hh0 : 0 ≤ h := lastT_ge p.touches none p.first p.last hb.tok (by omega) (fun _ z => by cases z) h hT
        have hgh := hg h (by
          rcases hti h rfl with ⟨q, hq, hh⟩ | z
          · exact ⟨q, hq, hh⟩
          · cases z)
        have mv := v_law_move C (q := numQ e n r k) (k := k) (h := h) (x := e p.name h) hb (hq k (by omega) (by omega)) ⟨hh0, lastT_le k p.touches none (fun _ q => by cases q) h hT, by omega⟩ (hx _ _)
        rw [← tv] at mv
        obtain ⟨ρ', g1, rfl⟩ := gp (Nk e n (p :: r) k)
        have hcall : mFn (F_law_move C) (aCons (mOp dIx (mVar 3) (mVar 15)) (aCons (mVar 15) (aCons (mVar 14) (aCons (mDT dGetT 1 (mTup (aCons (mVar 6) (aCons (mVar 14) aNil)))) (aCons (mVar 5) aNil))))) [.dat OL, .dat (.dit kk kd), .dat SM, .dat (.lst (AL (Nk e n r) n)), .no, .dat (encP p), .dat (.str p.name), .dat (.str p.mode), .dat (.int p.first), .dat (.int p.last), .dat (.tup (p.touches.map encT)), .dat (.int p.glide), .dat (.str p.tail), .own false (.lst (AL (mixF p.first j (Nk e n (p :: r)) (Nk e n r)) n)), .dat (.int h), .dat (.int k), .no, .no] = some (Nk e n (p :: r) k, [.dat OL, .dat (.dit kk kd), .dat SM, .dat (.lst (AL (Nk e n r) n)), .no, .dat (encP p), .dat (.str p.name), .dat (.str p.mode), .dat (.int p.first), .dat (.int p.last), .dat (.tup (p.touches.map encT)), .dat (.int p.glide), .dat (.str p.tail), .own false (.lst (AL (mixF p.first j (Nk e n (p :: r)) (Nk e n r)) n)), .dat (.int h), .dat (.int k), .no, .no]) := e_fn (e_acons (e_op (e_var rfl) (e_var rfl) ixk) (e_acons (e_var rfl) (e_acons (e_var rfl) (e_acons (e_dt rfl (e_tup (e_acons (e_var rfl) (e_acons (e_var rfl) e_anil)) (len_le (by simp))) rfl hgh) (e_acons (e_var rfl) e_anil))))) mv
        refine st_if (p := true) (ρ1 := [.dat OL, .dat (.dit kk kd), .dat SM, .dat (.lst (AL (Nk e n r) n)), .no, .dat (encP p), .dat (.str p.name), .dat (.str p.mode), .dat (.int p.first), .dat (.int p.last), .dat (.tup (p.touches.map encT)), .dat (.int p.glide), .dat (.str p.tail), .own false (.lst (AL (mixF p.first j (Nk e n (p :: r)) (Nk e n r)) n)), .dat (.int h), .dat (.int k), .no, .no]) (e_tst (e_op (e_var rfl) e_c is)) (fun _ => ?_) fun z => by cases z
        refine st_asg hcall g1 ?_
        refine_lift' st
        refine ⟨.dat (.int k), ?_⟩
        have f := fin
        rw [hT] at f
        rw [List.length_append, List.length_singleton, hl, esp, hT, ← f]
  · rintro ρ ⟨x, rfl⟩
    have hd : AL (mixF p.first (List.range (endM p n - p.first).toNat).length (Nk e n (p :: r)) (Nk e n r)) n = AL (Nk e n (p :: r)) n := AL_congr fun k _ _ => by
      unfold mixF
      rw [List.length_range]
      by_cases q : p.first ≤ k ∧ k < endM p n
      · rw [if_pos ⟨q.1, by omega⟩]
      · rw [if_neg (by omega)]
        unfold Nk
        rw [numQ_left (p := p) (s := k) (by unfold wrQ; rw [if_neg q])]
    rw [hd]
    exact ⟨_, rfl, _, _, rfl⟩
end
end My
set_option exponentiation.threshold 20000
namespace My
open PySem PySem.Spec PyProof.Rows L2 DL
section
variable (C : Addr)
set_option maxHeartbeats 1000000 in
theorem v_law_played {e : Str → Int → Int} {n : Nat} {ps : List Ps} {kk : List (List Key)} {kd : List D} (h : PssOk n ps) (hn : n ≤ 100)
    (hg : ∀ p ∈ ps, ∀ h, (∃ q ∈ p.touches, q.1 ≤ h ∧ h < q.2) → dGetT (.dit kk kd) (.tup [.str p.name, .int h]) = some (.int (e p.name h)))
    (hx : ∀ s h, (e s h).natAbs ≤ 2 ^ 130) :
    F_law_played C [.lst (AL (fun k => .int (e "old" k)) n), .dit kk kd, .tup (ps.map encP)] = some (.lst (AL (Nk e n ps.reverse) n)) := by
  have ln : dLen [.lst (AL (fun k => D.int (e "old" k)) n)] = some (.int (n : Int)) := by
    show some (D.int ((AL (fun k => D.int (e "old" k)) n).length : Nat)) = _
    rw [AL_len]
  have hel : ∀ k : Int, D.tup [.int (e "old" k), .int 1] = Nk e n [] k := fun k => by
    unfold Nk
    rw [numQ_nil, ofQ_int]
    rfl
  generalize hOL : D.lst (AL (fun k => D.int (e "old" k)) n) = OL at ln
  generalize hSM : D.tup (ps.map encP) = SM
  have hl0 := e_lcm (α := Nat) (vs := [4]) (it := iSeq seqL (mVar 0)) (g := gNm 4) (e := mTup (aCons (mVar 4) (aCons (mC (.int 1)) aNil))) (enc := fun k : Nat => D.int (e "old" (k : Int))) (f := fun k : Nat => Nk e n [] (k : Int)) (xs := List.range n) (ρ := [.dat OL, .dat (.dit kk kd), .dat SM, .no, .no, .no, .no, .no, .no, .no, .no, .no, .no, .no, .no, .no, .no, .no]) (ρ1 := [.dat OL, .dat (.dit kk kd), .dat SM, .no, .no, .no, .no, .no, .no, .no, .no, .no, .no, .no, .no, .no, .no, .no])
    (e_bd (v := OL) (ρ1 := [.dat OL, .dat (.dit kk kd), .dat SM, .no, .no, .no, .no, .no, .no, .no, .no, .no, .no, .no, .no, .no, .no, .no]) (e_var rfl) (e_l (by rw [← hOL]; rfl))) rfl (len_le (by rw [List.length_range]; omega)) (fun k _ => ⟨(), [.dat OL, .dat (.dit kk kd), .dat SM, .no, .dat (.int (e "old" (k : Int))), .no, .no, .no, .no, .no, .no, .no, .no, .no, .no, .no, .no, .no], rfl, [.dat OL, .dat (.dit kk kd), .dat SM, .no, .dat (.int (e "old" (k : Int))), .no, .no, .no, .no, .no, .no, .no, .no, .no, .no, .no, .no, .no], by rw [← hel]; refine_lift' ev, rfl⟩) rfl
  refine retF ?_
  unfold B_law_played
  refine st_set (d := .lst (AL (Nk e n []) n)) (ρ1 := [.dat OL, .dat (.dit kk kd), .dat SM, .no, .no, .no, .no, .no, .no, .no, .no, .no, .no, .no, .no, .no, .no, .no]) hl0 ?_
  refine st_for (α := Ps) (enc := encP) (xs := ps) (ρ1 := [.dat OL, .dat (.dit kk kd), .dat SM, .dat (.lst (AL (Nk e n []) n)), .no, .no, .no, .no, .no, .no, .no, .no, .no, .no, .no, .no, .no, .no]) (e_bd (v := SM) (ρ1 := [.dat OL, .dat (.dit kk kd), .dat SM, .dat (.lst (AL (Nk e n []) n)), .no, .no, .no, .no, .no, .no, .no, .no, .no, .no, .no, .no, .no, .no]) (e_var rfl) (e_l (by rw [← hSM]; rfl))) (fun ys ρ => ∃ x5 x6 x7 x8 x9 x10 x11 x12 x13 x14 x15 : Cell, ρ = [.dat OL, .dat (.dit kk kd), .dat SM, .dat (.lst (AL (Nk e n ys.reverse) n)), .no, x5, x6, x7, x8, x9, x10, x11, x12, x13, x14, x15, .no, .no]) ⟨_, _, _, _, _, _, _, _, _, _, _, rfl⟩ ?_ ?_
  · rintro ys p zs ρ ee ⟨x5, x6, x7, x8, x9, x10, x11, x12, x13, x14, x15, rfl⟩
    have hp : PssOk n (p :: ys.reverse) := by
      have h1 : PssOk n (ys ++ [p]) := h.sub (by rw [ee]; exact (List.Sublist.refl _).append (by simp))
      have h2 := h1.rev
      rw [List.reverse_append] at h2
      exact h2
    have hpm : p ∈ ps := by rw [ee]; exact List.mem_append_right _ List.mem_cons_self
    have hr0 : PssOk n ys.reverse := hp.sub (List.sublist_cons_self _ _)
    have dl : ∀ ds : List D, dList [.lst ds] = some (.lst ds) := fun ds => rfl
    obtain ⟨ρ', e1, sp, k, rfl⟩ := v_played_in C (e := e) (p := p) (r := ys.reverse) (OL := OL) (SM := SM) (kk := kk) (kd := kd) hp hn ln (hg p hpm) (fun k h0 h1 => by
      have f := num_fr (e := e) (t := k) hr0 fun x _ => hx _ _
      have b := f.nat (by have := hr0.len; omega)
      have up : (2 : Nat) ^ 800 ≤ 2 ^ 900 := by decide +kernel
      exact ⟨Nat.le_trans b.1 up, Nat.le_trans b.2 up⟩) hx
    refine ⟨(), [.dat OL, .dat (.dit kk kd), .dat SM, .dat (.lst (AL (Nk e n ys.reverse) n)), .no, .dat (encP p), x6, x7, x8, x9, x10, x11, x12, x13, x14, x15, .no, .no], rfl, ?_⟩
    refine st_asg (d := encP p) (ρ1 := [.dat OL, .dat (.dit kk kd), .dat SM, .dat (.lst (AL (Nk e n ys.reverse) n)), .no, .dat (encP p), x6, x7, x8, x9, x10, x11, x12, x13, x14, x15, .no, .no]) (ρ2 := [.dat OL, .dat (.dit kk kd), .dat SM, .dat (.lst (AL (Nk e n ys.reverse) n)), .no, .dat (encP p), .dat (.str p.name), .dat (.str p.mode), .dat (.int p.first), .dat (.int p.last), .dat (.tup (p.touches.map encT)), .dat (.int p.glide), .dat (.str p.tail), x13, x14, x15, .no, .no]) (e_var rfl) rfl ?_
    refine st_par (ds := [.lst (AL (Nk e n ys.reverse) n), .non]) (ρ1 := [.dat OL, .dat (.dit kk kd), .dat SM, .dat (.lst (AL (Nk e n ys.reverse) n)), .no, .dat (encP p), .dat (.str p.name), .dat (.str p.mode), .dat (.int p.first), .dat (.int p.last), .dat (.tup (p.touches.map encT)), .dat (.int p.glide), .dat (.str p.tail), x13, x14, x15, .no, .no]) (ρ2 := [.dat OL, .dat (.dit kk kd), .dat SM, .dat (.lst (AL (Nk e n ys.reverse) n)), .no, .dat (encP p), .dat (.str p.name), .dat (.str p.mode), .dat (.int p.first), .dat (.int p.last), .dat (.tup (p.touches.map encT)), .dat (.int p.glide), .dat (.str p.tail), .own false (.lst (AL (Nk e n ys.reverse) n)), .dat .non, x15, .no, .no]) (e_acons (e_fn (e_acons (e_var rfl) e_anil) (dl _)) (e_acons e_c e_anil)) rfl ?_
    refine st_run e1 ?_
    refine sw_set (st_set (d := .lst (AL (Nk e n (p :: ys.reverse)) n)) (ρ1 := [.dat OL, .dat (.dit kk kd), .dat SM, .dat (.lst (AL (Nk e n ys.reverse) n)), .no, .dat (encP p), .dat (.str p.name), .dat (.str p.mode), .dat (.int p.first), .dat (.int p.last), .dat (.tup (p.touches.map encT)), .dat (.int p.glide), .dat (.str p.tail), .dat (.lst (AL (Nk e n (p :: ys.reverse)) n)), sp, k, .no, .no]) (e_varO rfl) ?_)
    rw [List.reverse_append]
    exact ⟨_, _, _, _, _, _, _, _, _, _, _, rfl⟩
  · rintro ρ ⟨x5, x6, x7, x8, x9, x10, x11, x12, x13, x14, x15, rfl⟩
    refine sw_ret (st_ret (d := .lst (AL (Nk e n ps.reverse) n)) (ρ1 := [.dat OL, .dat (.dit kk kd), .dat SM, .dat (.lst (AL (Nk e n ps.reverse) n)), .no, x5, x6, x7, x8, x9, x10, x11, x12, x13, x14, x15, .no, .no]) (e_var rfl) ?_)
    exact rq_rt rfl
end
end My
set_option exponentiation.threshold 20000
namespace My
open PySem PySem.Spec PyProof.Rows L2 DL
theorem touch_hi {hi : Int} : ∀ (ts : List (Int × Int)) (lo : Int), touchesOk hi ts lo = true → ∀ q ∈ ts, q.1 < q.2 ∧ q.2 ≤ hi
  | [], _, _, q, hq => by cases hq
  | p :: r, lo, h, q, hq => by
    rw [touchesOk] at h
    simp only [Bool.and_eq_true, decide_eq_true_eq] at h
    obtain ⟨⟨⟨c1, c2⟩, c3, c4⟩, h⟩ := h
    rcases List.mem_cons.mp hq with rfl | hq
    · omega
    · exact touch_hi r _ h q hq
theorem rng2_some {a b : Int} (h : (b - a).toNat ≤ 1000000) (h0 : 0 ≤ a) (h2 : a ≤ b) (h1 : b ≤ 1000) : rng2? [.int a, .int b] = some ((List.range (b - a).toNat).map fun j : Nat => D.int (a + (j : Int))) := by
  simp only [rng2?]
  rw [if_pos (by omega)]
  rfl
def nk (k : Kn) : Str × Int := (k.name, k.at')
theorem key_nk {x y : Kn} (h : keyKn x = keyKn y) : nk x = nk y := by
  unfold keyKn at h
  simp only [List.cons.injEq, Sum.inr.injEq, Sum.inl.injEq, and_true] at h
  exact Prod.ext h.1 h.2
theorem keys_nd {ks : List Kn} (h : (ks.map nk).Nodup) : (ks.map keyKn).Nodup := by
  unfold List.Nodup at h ⊢
  rw [List.pairwise_map] at h ⊢
  exact h.imp fun hne z => hne (key_nk z)
def eKn (ks : List Kn) (s : Str) (t : Int) : Int := match ks.find? fun x => decide (x.name = s) && decide (x.at' = t) with
  | some x => x.n
  | none => 0
theorem eKn_mem : ∀ {ks : List Kn} {x : Kn}, (ks.map nk).Nodup → x ∈ ks → eKn ks x.name x.at' = x.n
  | y :: ks, x, nd, hx => by
    rw [List.map_cons, List.nodup_cons] at nd
    unfold eKn
    rw [List.find?_cons]
    rcases List.mem_cons.mp hx with rfl | hx
    · rw [decide_eq_true rfl, decide_eq_true rfl]; rfl
    · have : (decide (y.name = x.name) && decide (y.at' = x.at')) = false := by
        rw [Bool.eq_false_iff]
        intro z
        simp only [Bool.and_eq_true, decide_eq_true_eq] at z
        exact nd.1 (List.mem_map.mpr ⟨x, hx, (Prod.ext z.1.symm z.2.symm : nk x = nk y)⟩)
      rw [this]
      exact eKn_mem nd.2 hx
theorem eKn_bd {B : Nat} {ks : List Kn} (h : ∀ x ∈ ks, x.n.natAbs ≤ B) (s : Str) (t : Int) : (eKn ks s t).natAbs ≤ B := by
  unfold eKn
  split
  · rename_i x e
    exact h x (List.mem_of_find?_eq_some e)
  · exact Nat.zero_le _
def tkQ (s : Str) (q : Int × Int) : List (Str × Int) := (List.range (q.2 - q.1).toNat).map fun j : Nat => (s, q.1 + (j : Int))
def tkP (p : Ps) : List (Str × Int) := p.touches.flatMap (tkQ p.name)
def tks (ps : List Ps) : List (Str × Int) := ps.flatMap tkP
theorem tkQ_mem {s : Str} {q : Int × Int} {x : Str × Int} : x ∈ tkQ s q ↔ x.1 = s ∧ q.1 ≤ x.2 ∧ x.2 < q.2 := by
  unfold tkQ
  rw [List.mem_map]
  constructor
  · rintro ⟨j, hj, rfl⟩
    have := List.mem_range.mp hj
    refine ⟨rfl, ?_, ?_⟩
    · show q.1 ≤ q.1 + (j : Int); omega
    · show q.1 + (j : Int) < q.2; omega
  · rintro ⟨rfl, h1, h2⟩
    refine ⟨(x.2 - q.1).toNat, List.mem_range.mpr (by omega), Prod.ext rfl ?_⟩
    show q.1 + ((x.2 - q.1).toNat : Int) = x.2
    omega
theorem tk_nd {s : Str} {hi : Int} : ∀ (ts : List (Int × Int)) (lo : Int), touchesOk hi ts lo = true → (ts.flatMap (tkQ s)).Nodup ∧ (lo ≤ hi + 1 → ((ts.flatMap (tkQ s)).length : Int) ≤ hi + 1 - lo)
  | [], lo, _ => ⟨List.nodup_nil, fun h => by simp; omega⟩
  | p :: r, lo, h => by
    rw [touchesOk] at h
    simp only [Bool.and_eq_true, decide_eq_true_eq] at h
    obtain ⟨⟨⟨c1, c2⟩, c3, c4⟩, h⟩ := h
    obtain ⟨n1, l1⟩ := tk_nd (s := s) r _ h
    have lo2 := touch_lo r _ h
    rw [List.flatMap_cons]
    refine ⟨List.nodup_append.mpr ⟨?_, n1, ?_⟩, fun _ => ?_⟩
    · unfold tkQ
      unfold List.Nodup
      rw [List.pairwise_map]
      refine List.Pairwise.imp ?_ (List.nodup_range (n := (p.2 - p.1).toNat))
      intro a b hne z
      have := congrArg Prod.snd z
      simp only at this
      exact hne (by omega)
    · intro a ha b hb z
      subst z
      have a1 := tkQ_mem.mp ha
      obtain ⟨q, hq, hb⟩ := List.mem_flatMap.mp hb
      have b1 := tkQ_mem.mp hb
      have := lo2 q hq
      omega
    · rw [List.length_append]
      have := l1 (by omega)
      have e : (tkQ s p).length = (p.2 - p.1).toNat := by unfold tkQ; rw [List.length_map, List.length_range]
      rw [e]
      omega
theorem tkP_mem {p : Ps} {x : Str × Int} : x ∈ tkP p ↔ x.1 = p.name ∧ ∃ q ∈ p.touches, q.1 ≤ x.2 ∧ x.2 < q.2 := by
  unfold tkP
  rw [List.mem_flatMap]
  constructor
  · rintro ⟨q, hq, h⟩
    have h := tkQ_mem.mp h
    exact ⟨h.1, q, hq, h.2⟩
  · rintro ⟨h1, q, hq, h2⟩
    exact ⟨q, hq, tkQ_mem.mpr ⟨h1, h2⟩⟩
theorem tks_mem {ps : List Ps} {x : Str × Int} : x ∈ tks ps ↔ ∃ p ∈ ps, x.1 = p.name ∧ ∃ q ∈ p.touches, q.1 ≤ x.2 ∧ x.2 < q.2 := by
  unfold tks
  rw [List.mem_flatMap]
  constructor
  · rintro ⟨p, hp, h⟩
    exact ⟨p, hp, tkP_mem.mp h⟩
  · rintro ⟨p, hp, h⟩
    exact ⟨p, hp, tkP_mem.mpr h⟩
theorem tks_nd {L : Int} : ∀ {ps : List Ps}, (∀ p ∈ ps, BodyOk L p) → (ps.map Ps.name).Nodup → (tks ps).Nodup ∧ ((tks ps).length : Int) ≤ (L + 1) * (ps.length : Int)
  | [], _, _ => ⟨List.nodup_nil, by simp [tks]⟩
  | p :: r, hb, nd => by
    rw [List.map_cons, List.nodup_cons] at nd
    obtain ⟨n1, l1⟩ := tks_nd (fun q hq => hb q (List.mem_cons_of_mem _ hq)) nd.2
    have b := hb p List.mem_cons_self
    have rg := b.rng
    obtain ⟨n2, l2⟩ := tk_nd (s := p.name) p.touches p.first b.tok
    have l2 := l2 (by omega)
    have e : tks (p :: r) = tkP p ++ tks r := List.flatMap_cons
    rw [e]
    refine ⟨List.nodup_append.mpr ⟨n2, n1, ?_⟩, ?_⟩
    · intro a ha c hc z
      subst z
      have a1 := (tkP_mem.mp ha).1
      obtain ⟨q, hq, c1, _⟩ := tks_mem.mp hc
      exact nd.1 (by rw [← a1, c1]; exact List.mem_map.mpr ⟨q, hq, rfl⟩)
    · rw [List.length_append, List.length_cons]
      have l2 : ((tkP p).length : Int) ≤ p.last + 1 - p.first := l2
      have em : (L + 1) * ((r.length + 1 : Nat) : Int) = (L + 1) * (r.length : Int) + (L + 1) := by
        rw [Int.natCast_add, Int.mul_add]
        omega
      rw [em]
      omega
theorem dGet_kn {ks : List Kn} {x : Kn} (nd : (ks.map keyKn).Nodup) (h : x ∈ ks) : dGetT (knD ks) (.tup [.str x.name, .int x.at']) = some (.int x.n) := by
  show lookT _ _ (keyKn x) = _
  exact look_kn nd h
/-- the state within the loops over the hands -/
def HsSt (LG OL : D) (size : Int) (ps : List Ps) (base : List Kn) (m N : Nat) (x8 x9 x10 : Cell) (done : List (Str × Int)) (ρ : Cs) : Prop :=
  ∃ (hs : List Kn) (v : Pur) (x6 : Cell), ρ = [.own true (encPu v), .dat LG, .dat (.tup (ps.map encP)), .dat (.int size), .dat OL, .own false (knD hs), x6, .own false (.lst ((base ++ hs).map encKn)), x8, x9, x10, .no, .no, .no] ∧ (x6 = .no ∨ ∃ d, x6 = .dat d) ∧ hs.map nk = done ∧ (∀ x ∈ hs, x.n.natAbs ≤ 2 ^ 129) ∧ PurOk (m + (N - done.length)) v
section
variable (C : Addr)
set_option maxHeartbeats 2000000 in
theorem v_hands {m : Nat} {u : Pur} {L size : Int} {ps : List Ps} {LG OL : D} {base : List Kn} (hu : PurOk (m + (tks ps).length) u) (hps : ∀ p ∈ ps, BodyOk L p) (hL : L ≤ 1000) (nd : (tks ps).Nodup) (hN : (tks ps).length ≤ 500) (hbase : base.length ≤ 100) (hsz : 0 ≤ size ∧ size ≤ 10 ^ 30 + 57) :
    RanTo (fun ρ => ∃ x8 x9 x10, HsSt LG OL size ps base m (tks ps).length x8 x9 x10 (tks ps) ρ) (sFor (iSeq seqT (mVar 2)) (gNm 8) (sFor (iSeq seqT (mOp dIx (mVar 8) (mC (.int 4)))) (gTp 2 (gsCons (gNm 9) (gsCons (gNm 10) gsNil))) (sFor (iFn rng2? (aCons (mVar 9) (aCons (mVar 10) aNil))) (gNm 6) (sSeq (sDPutT 5 (mTup (aCons (mOp dIx (mVar 8) (mC (.int 0))) (aCons (mVar 6) aNil))) (mOp dAdd (mOp dMul (mOp dSub (mCallO (F_law_draw C) 0 (aCons (mC (.int 101)) aNil)) (mC (.int 50))) (mVar 3)) (mVar 6)))
    (sAppV 7 (mTup (aCons (mOp dIx (mVar 8) (mC (.int 0))) (aCons (mVar 6) (aCons (mDT dGetT 5 (mTup (aCons (mOp dIx (mVar 8) (mC (.int 0))) (aCons (mVar 6) aNil)))) aNil))))))))
    [.own true (encPu u), .dat LG, .dat (.tup (ps.map encP)), .dat (.int size), .dat OL, .own false (knD ([] : List Kn)), .no, .own false (.lst ((base ++ ([] : List Kn)).map encKn)), .no, .no, .no, .no, .no, .no]) := by
  refine st_one ?_
  refine st_for (α := Ps) (enc := encP) (xs := ps) (ρ1 := [.own true (encPu u), .dat LG, .dat (.tup (ps.map encP)), .dat (.int size), .dat OL, .own false (knD ([] : List Kn)), .no, .own false (.lst ((base ++ ([] : List Kn)).map encKn)), .no, .no, .no, .no, .no, .no]) (e_bd (v := .tup (ps.map encP)) (ρ1 := [.own true (encPu u), .dat LG, .dat (.tup (ps.map encP)), .dat (.int size), .dat OL, .own false (knD ([] : List Kn)), .no, .own false (.lst ((base ++ ([] : List Kn)).map encKn)), .no, .no, .no, .no, .no, .no]) (e_var rfl) (e_l rfl)) (fun ys ρ => ∃ x8 x9 x10, HsSt LG OL size ps base m (tks ps).length x8 x9 x10 (tks ys) ρ) ⟨.no, .no, .no, [], u, .no, rfl, .inl rfl, rfl, (fun x hx => by cases hx), hu⟩ ?_ ?_
  · rintro ys p zs ρ e1 ⟨x8, x9, x10, hs, v, x6, rfl, hx6, hm, hb, hv⟩
    have hpm : p ∈ ps := by rw [e1]; exact List.mem_append_right _ List.mem_cons_self
    have bp := hps p hpm
    have rg := bp.rng
    have t1 : tks ps = tks ys ++ (tkP p ++ tks zs) := by
      rw [e1]
      unfold tks
      rw [List.flatMap_append, List.flatMap_cons]
    have i4 : dIx (encP p) (.int 4) = some (.tup (p.touches.map encT)) := rfl
    have i0 : dIx (encP p) (.int 0) = some (.str p.name) := rfl
    refine ⟨(), [.own true (encPu v), .dat LG, .dat (.tup (ps.map encP)), .dat (.int size), .dat OL, .own false (knD hs), x6, .own false (.lst ((base ++ hs).map encKn)), .dat (encP p), x9, x10, .no, .no, .no], rfl, ?_⟩
    refine st_one ?_
    refine st_for (α := Int × Int) (enc := encT) (xs := p.touches) (ρ1 := [.own true (encPu v), .dat LG, .dat (.tup (ps.map encP)), .dat (.int size), .dat OL, .own false (knD hs), x6, .own false (.lst ((base ++ hs).map encKn)), .dat (encP p), x9, x10, .no, .no, .no]) (e_bd (v := .tup (p.touches.map encT)) (ρ1 := [.own true (encPu v), .dat LG, .dat (.tup (ps.map encP)), .dat (.int size), .dat OL, .own false (knD hs), x6, .own false (.lst ((base ++ hs).map encKn)), .dat (encP p), x9, x10, .no, .no, .no]) (e_op (e_var rfl) e_c i4) (e_l rfl)) (fun ys' ρ => ∃ x9 x10, HsSt LG OL size ps base m (tks ps).length (.dat (encP p)) x9 x10 (tks ys ++ ys'.flatMap (tkQ p.name)) ρ) ⟨x9, x10, hs, v, x6, rfl, hx6, by rw [hm]; simp, hb, by simpa using hv⟩ ?_ ?_
    · rintro ys' q zs' ρ e2 ⟨x9, x10, hs, v, x6, rfl, hx6, hm, hb, hv⟩
      have hq : q ∈ p.touches := by rw [e2]; exact List.mem_append_right _ List.mem_cons_self
      have q0 : 0 ≤ q.1 ∧ q.1 < q.2 ∧ q.2 ≤ L := by
        have := touch_lo _ _ bp.tok q hq
        have := touch_hi _ _ bp.tok q hq
        omega
      have t2 : tkP p = ys'.flatMap (tkQ p.name) ++ (tkQ p.name q ++ zs'.flatMap (tkQ p.name)) := by
        unfold tkP
        rw [e2, List.flatMap_append, List.flatMap_cons]
      refine ⟨(), [.own true (encPu v), .dat LG, .dat (.tup (ps.map encP)), .dat (.int size), .dat OL, .own false (knD hs), x6, .own false (.lst ((base ++ hs).map encKn)), .dat (encP p), .dat (.int q.1), .dat (.int q.2), .no, .no, .no], rfl, ?_⟩
      refine st_one ?_
      refine st_for (α := Nat) (enc := fun j : Nat => D.int (q.1 + (j : Int))) (xs := List.range (q.2 - q.1).toNat) (ρ1 := [.own true (encPu v), .dat LG, .dat (.tup (ps.map encP)), .dat (.int size), .dat OL, .own false (knD hs), x6, .own false (.lst ((base ++ hs).map encKn)), .dat (encP p), .dat (.int q.1), .dat (.int q.2), .no, .no, .no]) (e_bd (v := [.int q.1, .int q.2]) (ρ1 := [.own true (encPu v), .dat LG, .dat (.tup (ps.map encP)), .dat (.int size), .dat OL, .own false (knD hs), x6, .own false (.lst ((base ++ hs).map encKn)), .dat (encP p), .dat (.int q.1), .dat (.int q.2), .no, .no, .no]) (e_acons (e_var rfl) (e_acons (e_var rfl) e_anil)) (e_l (rng2_some (by omega) q0.1 (by omega) (by omega)))) (fun js ρ => HsSt LG OL size ps base m (tks ps).length (.dat (encP p)) (.dat (.int q.1)) (.dat (.int q.2)) (tks ys ++ ys'.flatMap (tkQ p.name) ++ js.map fun j : Nat => (p.name, q.1 + (j : Int))) ρ) ⟨hs, v, x6, rfl, hx6, by rw [hm]; simp, hb, by simpa using hv⟩ ?_ ?_
      · rintro js j zj ρ e3 ⟨hs, v, x6, rfl, hx6, hm, hb, hv⟩
        have hj : j < (q.2 - q.1).toNat := List.mem_range.mp (by rw [e3]; exact List.mem_append_right _ List.mem_cons_self)
        have t3 : tkQ p.name q = (js.map fun j : Nat => (p.name, q.1 + (j : Int))) ++ (p.name, q.1 + (j : Int)) :: zj.map fun j : Nat => (p.name, q.1 + (j : Int)) := by
          unfold tkQ
          rw [e3, List.map_append, List.map_cons]
        generalize hdn : tks ys ++ ys'.flatMap (tkQ p.name) ++ js.map (fun j : Nat => (p.name, q.1 + (j : Int))) = done at *
        have tot : tks ps = done ++ (p.name, q.1 + (j : Int)) :: ((zj.map fun j : Nat => (p.name, q.1 + (j : Int))) ++ (zs'.flatMap (tkQ p.name) ++ tks zs)) := by
          rw [t1, t2, t3, ← hdn]
          simp only [List.append_assoc, List.cons_append]
        have hlen : done.length + 1 ≤ (tks ps).length := by
          have := congrArg List.length tot
          rw [List.length_append, List.length_cons] at this
          omega
        have hhl : hs.length = done.length := by rw [← hm, List.length_map]
        have fr : (p.name, q.1 + (j : Int)) ∉ done := fun z => by
          have nd := nd
          rw [tot] at nd
          exact (List.nodup_append.mp nd).2.2 _ z _ List.mem_cons_self rfl
        obtain ⟨i, v2, ed, i0', i1', hv2⟩ := v_law_draw C (m := m + ((tks ps).length - (done.length + 1))) (hv.mono (by omega)) (n := 101) (by decide) (by decide)
        obtain ⟨x, hx⟩ : ∃ x : Kn, x = ⟨p.name, q.1 + (j : Int), (i - 50) * size + (q.1 + (j : Int))⟩ := ⟨_, rfl⟩
        have xk : keyKn x = [.inr p.name, .inl (q.1 + (j : Int))] := by rw [hx]; rfl
        have xn : nk x = (p.name, q.1 + (j : Int)) := by rw [hx]; rfl
        have xv : x.n = (i - 50) * size + (q.1 + (j : Int)) := by rw [hx]
        have xe : encKn x = .tup [.str p.name, .int (q.1 + (j : Int)), .int x.n] := by rw [hx]; rfl
        have fk : keyKn x ∉ hs.map keyKn := fun z => by
          obtain ⟨y, hy, e⟩ := List.mem_map.mp z
          refine fr ?_
          rw [← hm, ← xn, ← key_nk e]
          exact List.mem_map.mpr ⟨y, hy, rfl⟩
        have ndk : ((hs ++ [x]).map nk).Nodup := by
          rw [List.map_append, hm, List.map_cons, List.map_nil, xn]
          have nd := nd
          rw [tot] at nd
          exact nd.sublist ((List.Sublist.refl _).append (by simp))
        have gk : dGetT (knD (hs ++ [x])) (.tup [.str p.name, .int (q.1 + (j : Int))]) = some (.int x.n) := by
          have := dGet_kn (keys_nd ndk) (x := x) (List.mem_append_right _ List.mem_cons_self)
          rw [hx] at this ⊢
          exact this
        have pk := put_kn fk
        have s1 : (i - 50).natAbs ≤ 50 := by omega
        have mm : dMul (.int (i - 50)) (.int size) = some (.int ((i - 50) * size)) := mul_ok (Nat.le_trans s1 (by decide +kernel)) (Nat.le_trans (show size.natAbs ≤ 10 ^ 30 + 57 by omega) (by decide +kernel))
        have xb : x.n.natAbs ≤ 2 ^ 129 := by
          rw [xv]
          have h1 : ((i - 50) * size).natAbs ≤ 50 * (10 ^ 30 + 57) := by
            rw [Int.natAbs_mul]
            exact Nat.mul_le_mul s1 (by omega)
          have h2 : (50 : Nat) * (10 ^ 30 + 57) + 1000 ≤ 2 ^ 129 := by decide +kernel
          have h3 : (q.1 + (j : Int)).natAbs ≤ 1000 := by omega
          exact Nat.le_trans (Int.natAbs_add_le _ _) (by omega)
        have am : dAdd (.int ((i - 50) * size)) (.int (q.1 + (j : Int))) = some (.int x.n) := by rw [xv]; rfl
        have hlk : (hs.map keyKn).length < sizeLine := Nat.lt_of_lt_of_le (by rw [List.length_map]; omega : _ < 1000) (len_le (by decide))
        have hlf : ((base ++ hs).map encKn).length < sizeLine := Nat.lt_of_lt_of_le (by rw [List.length_map, List.length_append]; omega : _ < 1000) (len_le (by decide))
        have ef : (base ++ hs).map encKn ++ [encKn x] = (base ++ (hs ++ [x])).map encKn := by
          rw [← List.append_assoc, List.map_append (l₁ := base ++ hs)]
          rfl
        refine ⟨(), [.own true (encPu v), .dat LG, .dat (.tup (ps.map encP)), .dat (.int size), .dat OL, .own false (knD hs), .dat (.int (q.1 + (j : Int))), .own false (.lst ((base ++ hs).map encKn)), .dat (encP p), .dat (.int q.1), .dat (.int q.2), .no, .no, .no], rfl, ?_⟩
        refine st_dputT (p := false) (q := false) (kk := keyKn x) (ks0 := hs.map keyKn) (ds0 := hs.map fun k => .int k.n) (ks := hs.map keyKn) (ds := hs.map fun k => .int k.n) (v := .int x.n) (kd := .tup [.str p.name, .int (q.1 + (j : Int))]) (ρ1 := [.own true (encPu v2), .dat LG, .dat (.tup (ps.map encP)), .dat (.int size), .dat OL, .own false (knD hs), .dat (.int (q.1 + (j : Int))), .own false (.lst ((base ++ hs).map encKn)), .dat (encP p), .dat (.int q.1), .dat (.int q.2), .no, .no, .no]) (ρ2 := [.own true (encPu v2), .dat LG, .dat (.tup (ps.map encP)), .dat (.int size), .dat OL, .own false (knD hs), .dat (.int (q.1 + (j : Int))), .own false (.lst ((base ++ hs).map encKn)), .dat (encP p), .dat (.int q.1), .dat (.int q.2), .no, .no, .no]) rfl (e_op (e_op (e_op (e_callO (ρ1 := [.own true (encPu v), .dat LG, .dat (.tup (ps.map encP)), .dat (.int size), .dat OL, .own false (knD hs), .dat (.int (q.1 + (j : Int))), .own false (.lst ((base ++ hs).map encKn)), .dat (encP p), .dat (.int q.1), .dat (.int q.2), .no, .no, .no]) (d1 := encPu v) (p := true) (q := true) rfl (e_acons e_c e_anil) rfl ed) e_c (sub_int _ _)) (e_var rfl) mm) (e_var rfl) am) (e_tup (e_acons (e_op (e_var rfl) e_c i0) (e_acons (e_var rfl) e_anil)) (len_le (by simp))) rfl (by rw [xk]; rfl) hlk ?_
        rw [pk]
        refine sw_app (st_app (p := false) (q := false) (ds := (base ++ hs).map encKn) (es := (base ++ hs).map encKn) (d := encKn x) (ρ1 := [.own true (encPu v2), .dat LG, .dat (.tup (ps.map encP)), .dat (.int size), .dat OL, .own false (knD (hs ++ [x])), .dat (.int (q.1 + (j : Int))), .own false (.lst ((base ++ hs).map encKn)), .dat (encP p), .dat (.int q.1), .dat (.int q.2), .no, .no, .no]) rfl (by
          rw [xe]
          exact e_tup (e_acons (e_op (e_var rfl) e_c i0) (e_acons (e_var rfl) (e_acons (e_dtO (p := false) (q := false) (ks := (hs ++ [x]).map keyKn) (ds := (hs ++ [x]).map fun k => .int k.n) rfl (e_tup (e_acons (e_op (e_var rfl) e_c i0) (e_acons (e_var rfl) e_anil)) (len_le (by simp))) rfl gk) e_anil))) (len_le (by simp))) rfl hlf ?_)
        rw [ef]
        refine ⟨hs ++ [x], v2, _, rfl, .inr ⟨_, rfl⟩, ?_, fun y hy => ?_, ?_⟩
        · rw [List.map_append, List.map_append, hm, List.map_cons, List.map_nil, xn, ← List.append_assoc, hdn]
          rfl
        · rcases List.mem_append.mp hy with hy | hy
          · exact hb y hy
          · rw [List.mem_singleton.mp hy]
            exact xb
        · rw [List.map_append, ← List.append_assoc, hdn, List.length_append, List.length_map]
          exact hv2
      · rintro ρ ⟨hs, v, x6, rfl, hx6, hm, hb, hv⟩
        have e : tks ys ++ (ys' ++ [q]).flatMap (tkQ p.name) = tks ys ++ ys'.flatMap (tkQ p.name) ++ (List.range (q.2 - q.1).toNat).map fun j : Nat => (p.name, q.1 + (j : Int)) := by
          rw [List.flatMap_append, ← List.append_assoc]
          congr 1
          simp [tkQ]
        refine ⟨_, _, hs, v, x6, rfl, hx6, ?_, hb, ?_⟩
        · rw [e]; exact hm
        · rw [e]; exact hv
    · rintro ρ ⟨x9, x10, hs, v, x6, rfl, hx6, hm, hb, hv⟩
      have e : tks (ys ++ [p]) = tks ys ++ p.touches.flatMap (tkQ p.name) := by
        unfold tks
        rw [List.flatMap_append]
        congr 1
        simp [tkP]
      refine ⟨_, _, _, hs, v, x6, rfl, hx6, ?_, hb, ?_⟩
      · rw [e]; exact hm
      · rw [e]; exact hv
  · rintro ρ ⟨x8, x9, x10, h⟩
    exact ⟨_, rfl, _, _, _, h⟩
end
end My
set_option exponentiation.threshold 20000
namespace My
open PySem PySem.Spec PyProof.Rows L2 DL
def baseK (n : Nat) (os : List Int) : List Kn := ((List.range n).map fun k : Nat => ⟨"old", (k : Int), atG os id 0 k⟩) ++ [⟨"zz", 0, 9⟩, ⟨"old", (n : Int), 9⟩, ⟨"", 10 ^ 12, 0⟩]
theorem baseK_len (n : Nat) (os : List Int) : (baseK n os).length = n + 3 := by unfold baseK; simp
theorem sgQ_perm (e : Str → Int) {ts us : List Tm} (h : ts.Perm us) : sgQ e ts = sgQ e us := by
  rw [sgQ_sum, sgQ_sum]
  exact sumQ_perm (h.map _)
theorem ne_str2 (x : Str) : dNe (.str x) (.str x) = some (.bl false) := by
  show some (D.bl (!decide (x = x))) = _
  rw [decide_eq_true rfl]; rfl
theorem eq_str2 (x : Str) : dEq (.str x) (.str x) = some (.bl true) := by
  show some (D.bl (decide (x = x))) = _
  rw [decide_eq_true rfl]
theorem reprBT {n k m : Nat} {ds : List D} (g : Gd m (.tup ds)) (s : ShB n k (toP (.tup ds))) (hn : n ≤ 50000) (hk : k ≤ 60) : dRepr [.tup ds] = some (.str (toP (.tup ds)).shown) := by
  have h := s.shown hn
  have hs := s.sh
  have hp := g.p
  refine if_pos ⟨by simpa [DL.plain] using hp, by simpa [toP, PyData.showable] using hs, Nat.le_trans s.dp hk, h⟩
theorem Fr.shB {i : Nat} {w : Wt} (h : Fr i w) (hi : i ≤ 11) : ShB 4 1 (toP (encW w)) := by
  obtain ⟨a1, a2⟩ := h.sm hi
  exact ((ShBA.cons (ShB.int a1) (ShBA.cons (ShB.int a2) .nil)).tup).mono (by decide) (by decide)
theorem repr_fr {i : Nat} {w : Wt} (h : Fr i w) (hi : i ≤ 11) : dRepr [encW w] = some (.str (toP (encW w)).shown) := reprBT (ds := [.int w.1, .int w.2]) (gd_w w) (h.shB hi) (by decide) (by decide)
theorem base_mem {n : Nat} {os : List Int} {x : Kn} : x ∈ baseK n os → (x.name = "old" ∧ (∃ k : Nat, k < n ∧ x = ⟨"old", (k : Int), atG os id 0 k⟩)) ∨ x = ⟨"zz", 0, 9⟩ ∨ x = ⟨"old", (n : Int), 9⟩ ∨ x = ⟨"", 10 ^ 12, 0⟩ := fun h => by
  unfold baseK at h
  rcases List.mem_append.mp h with h | h
  · obtain ⟨k, hk, rfl⟩ := List.mem_map.mp h
    exact .inl ⟨rfl, k, List.mem_range.mp hk, rfl⟩
  · simp only [List.mem_cons, List.not_mem_nil, or_false] at h
    exact .inr h
theorem base_nd (n : Nat) (os : List Int) (hn : n ≤ 1000) : ((baseK n os).map nk).Nodup := by
  unfold baseK
  rw [List.map_append, List.map_map]
  refine List.nodup_append.mpr ⟨?_, ?_, fun a ha b hb z => ?_⟩
  · unfold List.Nodup
    rw [List.pairwise_map]
    refine List.Pairwise.imp ?_ (List.nodup_range (n := n))
    intro a b hne z
    have := congrArg Prod.snd z
    simp only [Function.comp_apply, nk] at this
    exact hne (by omega)
  · refine List.nodup_cons.mpr ⟨fun z => ?_, List.nodup_cons.mpr ⟨fun z => ?_, List.nodup_cons.mpr ⟨fun z => (by cases z), List.nodup_nil⟩⟩⟩
    · simp only [List.map_cons, List.map_nil, List.mem_cons, List.not_mem_nil, or_false, nk, Prod.mk.injEq] at z
      rcases z with z | z
      · exact absurd z.1 (by decide)
      · exact absurd z.1 (by decide)
    · simp only [List.map_cons, List.map_nil, List.mem_cons, List.not_mem_nil, or_false, nk, Prod.mk.injEq] at z
      exact absurd z.1 (by decide)
  · subst z
    obtain ⟨k, hk, rfl⟩ := List.mem_map.mp ha
    have hk := List.mem_range.mp hk
    simp only [List.map_cons, List.map_nil, List.mem_cons, List.not_mem_nil, or_false, nk, Function.comp_apply, Prod.mk.injEq] at hb
    rcases hb with hb | hb | hb
    · exact absurd hb.1 (by decide)
    · omega
    · exact absurd hb.1 (by decide)
/-- all that is known, and what it gives -/
structure AllK (n : Nat) (ps : List Ps) (ks : List Kn) : Prop where
  nd : (ks.map nk).Nodup
  at0 : ∀ x ∈ ks, 0 ≤ x.at'
  bd : ∀ x ∈ ks, x.n.natAbs ≤ 2 ^ 130
  old : ∀ k : Int, 0 ≤ k → k < n → ∃ x ∈ ks, x.name = "old" ∧ x.at' = k
  hand : ∀ p ∈ ps, ∀ h, (∃ q ∈ p.touches, q.1 ≤ h ∧ h < q.2) → ∃ x ∈ ks, x.name = p.name ∧ x.at' = h
theorem AllK.perm {n : Nat} {ps : List Ps} {ks ls : List Kn} (h : AllK n ps ks) (p : ls.Perm ks) : AllK n ps ls :=
  ⟨(p.map nk).nodup_iff.mpr h.nd, fun x hx => h.at0 x (p.mem_iff.mp hx), fun x hx => h.bd x (p.mem_iff.mp hx), fun k h0 h1 => by
    obtain ⟨x, hx, r⟩ := h.old k h0 h1
    exact ⟨x, p.mem_iff.mpr hx, r⟩, fun q hq t ht => by
    obtain ⟨x, hx, r⟩ := h.hand q hq t ht
    exact ⟨x, p.mem_iff.mpr hx, r⟩⟩
section
variable (C : Addr)
theorem v_number_all {n : Nat} {ps : List Ps} {ks ls : List Kn} (h : PssOk n ps) (hn : n ≤ 1000) (hK : AllK n ps ks) (p : ls.Perm ks) (hl : ks.length ≤ 900) {k : Int} (h0 : 0 ≤ k) (h1 : k < n) :
    F_number_at C [encTr C (n : Int) ps, .int k, .tup (ls.map encKn)] = some (Nk (eKn ks) n ps.reverse k) := by
  have hKl := hK.perm p
  have hb : ∀ q ∈ ps.reverse, BodyOk (n : Int) q := fun q hq => (b_of_pass (h.ok q (List.mem_reverse.mp hq))).1
  have nd : ((atQ (n : Int) ps.reverse k).map TQ.name).Nodup := atQ_nodup h.rev k
  have key : ∀ y ∈ atQ (n : Int) ps.reverse k, ∃ x ∈ ks, x.name = y.name ∧ x.at' = y.at' := fun y hy => by
    have lo := atL_at ps.reverse k hb h0 y ((atL_perm (n : Int) ps.reverse k).mem_iff.mpr hy)
    rcases atQ_touched ps.reverse k hb y hy with e | ⟨q, hq, e, ht⟩
    · obtain ⟨x, hx, a, b⟩ := hK.old y.at' lo.1 (by omega)
      exact ⟨x, hx, by rw [a, e], b⟩
    · obtain ⟨x, hx, a, b⟩ := hK.hand q (List.mem_reverse.mp hq) y.at' ht
      exact ⟨x, hx, by rw [a, e], b⟩
  have num := v_number_at C (t := k) (ks := ls) (e := eOf (eKn ks) (atQ (n : Int) ps.reverse k)) h h0 h1 (by omega) hKl.at0 (keys_nd hKl.nd) (Nat.lt_of_lt_of_le (by have := p.length_eq; omega : _ < 1000) (len_le (by decide))) (fun t ht => by
    obtain ⟨y, hy, rfl⟩ := List.mem_map.mp ((byName_perm _).mem_iff.mp ht)
    show (eOf (eKn ks) _ y.name).natAbs ≤ _
    rw [eOf_mem nd hy]
    exact eKn_bd hK.bd _ _) (fun t ht => by
    obtain ⟨y, hy, rfl⟩ := List.mem_map.mp ((byName_perm _).mem_iff.mp ht)
    show (⟨y.name, y.at', eOf (eKn ks) _ y.name⟩ : Kn) ∈ ls
    rw [eOf_mem nd hy]
    obtain ⟨x, hx, a, b⟩ := key y hy
    rw [← a, ← b, eKn_mem hK.nd hx]
    exact p.mem_iff.mpr hx)
  rw [num]
  unfold Nk numQ formT
  rw [sgQ_perm _ (byName_perm _), sgQ_num nd]
  congr 3
  unfold numT
  exact sumQ_perm ((atL_perm (n : Int) ps.reverse k).symm.map _)
end
end My
set_option exponentiation.threshold 20000
namespace My
open PySem PySem.Spec PyProof.Rows L2 DL
section
variable (C : Addr)
set_option maxHeartbeats 4000000 in
theorem v_law_right {m : Nat} {u : Pur} (hu : PurOk (m + 1000) u) : ∃ u' : Pur, F_law_right C (encPu u) [] = some (.bl true, encPu u') ∧ PurOk m u' := by
  have : ∃ r e, runO 1 13 (B_law_right C) (encPu u) [] = some (r, e) ∧ ∃ u' : Pur, r = .bl true ∧ e = encPu u' ∧ PurOk m u' := by
    refine retOE ?_
    unfold B_law_right
    obtain ⟨i1, u1, e1, i10, i11, hu1⟩ := v_law_draw C (m := m + 900) (hu.mono (by omega)) (n := 12) (by decide) (by decide)
    obtain ⟨n, hn⟩ : ∃ n : Nat, 1 + i1 = (n : Int) := ⟨(1 + i1).toNat, by omega⟩
    have hn1 : 1 ≤ n := by omega
    have hn2 : n ≤ 12 := by omega
    have a1 : dAdd (.int 1) (.int i1) = some (.int (n : Int)) := by rw [← hn]; rfl
    obtain ⟨psA, u2, e2, ⟨nA, rA⟩, lA, hu2⟩ := v_law_faders C (m := m + 560) (many := 6) (L := (n : Int)) (u := u1) (hu1.mono (by omega)) (by decide) (by omega) (by omega)
    obtain ⟨psB, u3, e3, ⟨nB, rB⟩, lB, _, hu3⟩ := v_law_row C (m := m + 401) (many := 6) (L := (n : Int)) (wide := 1) (u := u2) (hu2.mono (by omega)) (by decide) (by omega) (by omega) (by decide) (by decide)
    obtain ⟨d, u4, e4, hd, hu4⟩ := v_law_pick C (m := m + 400) hu3 (ds := [.tup (psA.map encP), .tup (psB.map encP)]) (by simp) (by simp)
    have e2 : F_law_faders C (encPu u1) [.int (n : Int), .int 6] = some (.tup (psA.map encP), encPu u2) := e2
    have e3 : F_law_row C (encPu u2) [.int (n : Int), .int 6, .int 1] = some (.tup (psB.map encP), encPu u3) := e3
    have nmA : ∀ p ∈ psA, p.name ∈ allWords := fun p hp => (rot_perm allWords nA).mem_iff.mp (List.mem_of_mem_take (List.mem_of_mem_take (by rw [← rA.names]; exact List.mem_map.mpr ⟨p, hp, rfl⟩)))
    have nmB : ∀ p ∈ psB, p.name ∈ allWords := fun p hp => by
      have := (rot_perm rowNames nB).mem_iff.mp (List.mem_of_mem_take (by rw [← rB.names]; exact List.mem_map.mpr ⟨p, hp, rfl⟩))
      exact (show ∀ x ∈ rowNames, x ∈ allWords by decide) _ this
    obtain ⟨ps, rfl, hps, h6, hnm⟩ : ∃ ps : List Ps, d = .tup (ps.map encP) ∧ PssOk (n : Int) ps ∧ ps.length ≤ 6 ∧ ∀ p ∈ ps, p.name ∈ allWords := by
      simp only [List.mem_cons, List.not_mem_nil, or_false] at hd
      rcases hd with rfl | rfl
      · exact ⟨psA, rfl, rA.pss ((allWords_ok.perm (rot_perm _ _)).take 8) (by omega), lA, nmA⟩
      · exact ⟨psB, rfl, rB.pss (rowNames_ok.perm (rot_perm _ _)) (by omega), lB, nmB⟩
    clear nmA nmB rA rB lA lB hd
    have hb : ∀ p ∈ ps, BodyOk (n : Int) p := fun p hp => (b_of_pass (hps.ok p hp)).1
    obtain ⟨tnd, tln⟩ := tks_nd hb hps.nd
    have tl : (tks ps).length ≤ 100 := by
      have : ((n : Int) + 1) * (ps.length : Int) ≤ 13 * 6 := Int.mul_le_mul (by omega) (by omega) (by omega) (by omega)
      omega
    have mk := v_Track_init C (n : Int) ps hps (by omega) (by omega)
    refine st_set (d := .int (n : Int)) (ρ1 := [.own true (encPu u1), .no, .no, .no, .no, .no, .no, .no, .no, .no, .no, .no, .no, .no]) (e_op e_c (e_callO (ρ1 := [.own true (encPu u), .no, .no, .no, .no, .no, .no, .no, .no, .no, .no, .no, .no, .no]) (d1 := encPu u) (p := true) (q := true) rfl (e_acons e_c e_anil) rfl e1) a1) ?_
    refine st_set (d := .tup (ps.map encP)) (ρ1 := [.own true (encPu u4), .dat (.int (n : Int)), .no, .no, .no, .no, .no, .no, .no, .no, .no, .no, .no, .no]) (e_callO (ρ1 := [.own true (encPu u3), .dat (.int (n : Int)), .no, .no, .no, .no, .no, .no, .no, .no, .no, .no, .no, .no]) (d1 := encPu u3) (p := true) (q := true) rfl (e_acons (e_lst (e_acons (e_callO (ρ1 := [.own true (encPu u1), .dat (.int (n : Int)), .no, .no, .no, .no, .no, .no, .no, .no, .no, .no, .no, .no]) (d1 := encPu u1) (p := true) (q := true) rfl (e_acons (e_var rfl) (e_acons e_c e_anil)) rfl e2) (e_acons (e_callO (ρ1 := [.own true (encPu u2), .dat (.int (n : Int)), .no, .no, .no, .no, .no, .no, .no, .no, .no, .no, .no, .no]) (d1 := encPu u2) (p := true) (q := true) rfl (e_acons (e_var rfl) (e_acons e_c (e_acons e_c e_anil))) rfl e3) e_anil)) (len_le (by simp))) e_anil) rfl e4) ?_
    have pow30 : dPow (.int 10) (.int 30) = some (.int (10 ^ 30)) := pow_ok (j := 30) (by decide)
    have pow12 : dPow (.int 10) (.int 12) = some (.int (10 ^ 12)) := pow_ok (j := 12) (by decide)
    have a30 : dAdd (.int (10 ^ 30)) (.int 57) = some (.int (10 ^ 30 + 57)) := rfl
    obtain ⟨size, u5, e5, hsz, hu5⟩ := v_law_pickI C (m := m + 399) hu4 [1, 1, 10 ^ 30 + 57]
    have hs0 : 0 ≤ size ∧ size ≤ 10 ^ 30 + 57 := by
      simp only [List.mem_cons, List.not_mem_nil, or_false] at hsz
      rcases hsz with rfl | rfl | rfl <;> exact ⟨by decide, by decide⟩
    refine st_set (d := .int size) (ρ1 := [.own true (encPu u5), .dat (.int (n : Int)), .dat (.tup (ps.map encP)), .no, .no, .no, .no, .no, .no, .no, .no, .no, .no, .no]) (e_callO (ρ1 := [.own true (encPu u4), .dat (.int (n : Int)), .dat (.tup (ps.map encP)), .no, .no, .no, .no, .no, .no, .no, .no, .no, .no, .no]) (d1 := encPu u4) (p := true) (q := true) rfl (e_acons (e_lst (e_acons e_c (e_acons e_c (e_acons (e_op (e_op e_c e_c pow30) e_c a30) e_anil))) (len_le (by simp))) e_anil) rfl e5) ?_
    obtain ⟨accO, ρO, hlcO, u6, os, xO, rfl, rfl, hlO, hbO, hu6⟩ := e_lc (α := Nat) (vs := [6]) (it := iFn rng1? (aCons (mVar 1) aNil)) (g := gNm 6) (t := mC true) (e := mOp dMul (mOp dSub (mCallO (F_law_draw C) 0 (aCons (mC (.int 101)) aNil)) (mC (.int 50))) (mVar 3)) (enc := fun k : Nat => D.int (0 + (k : Int))) (xs := List.range n) (ρ := [.own true (encPu u5), .dat (.int (n : Int)), .dat (.tup (ps.map encP)), .dat (.int size), .no, .no, .no, .no, .no, .no, .no, .no, .no, .no]) (ρ1 := [.own true (encPu u5), .dat (.int (n : Int)), .dat (.tup (ps.map encP)), .dat (.int size), .no, .no, .no, .no, .no, .no, .no, .no, .no, .no])
      (it_rng1 (n := n) (e_acons (e_var rfl) e_anil) (by omega)) rfl
      (fun ys acc ρ => ∃ (v : Pur) (is : List Int) (x : Cell), ρ = [.own true (encPu v), .dat (.int (n : Int)), .dat (.tup (ps.map encP)), .dat (.int size), .no, .no, x, .no, .no, .no, .no, .no, .no, .no] ∧ acc = is.map .int ∧ is.length = ys.length ∧ (∀ i ∈ is, i.natAbs ≤ 2 ^ 129) ∧ PurOk (m + 300 + (12 - ys.length)) v)
      ⟨u5, [], .no, rfl, rfl, rfl, (fun n h => by cases h), hu5.mono (by simp; try omega)⟩
      (fun ys acc ρ ⟨_, is, _, _, h, h1, _⟩ => by rw [h, List.length_map, h1]; exact Nat.le_refl _) (len_le (by rw [List.length_range]; omega))
      (by
        rintro ys t zs acc ρ ee ⟨v, is, x, rfl, rfl, h1, h2, h3⟩
        have hyl : ys.length + 1 ≤ 12 := by
          have := congrArg List.length ee
          rw [List.length_append, List.length_cons, List.length_range] at this
          omega
        obtain ⟨i, v2, ed, i0, i1, hv2⟩ := v_law_draw C (m := m + 300 + (12 - (ys.length + 1))) (h3.mono (by omega)) (n := 101) (by decide) (by decide)
        have sm : (i - 50).natAbs ≤ 50 := by omega
        have mm : dMul (.int (i - 50)) (.int size) = some (.int ((i - 50) * size)) := mul_ok (Nat.le_trans sm (by decide +kernel)) (Nat.le_trans (show size.natAbs ≤ 10 ^ 30 + 57 by omega) (by decide +kernel))
        refine ⟨(), [.own true (encPu v), .dat (.int (n : Int)), .dat (.tup (ps.map encP)), .dat (.int size), .no, .no, .dat (.int (0 + (t : Int))), .no, .no, .no, .no, .no, .no, .no], true, [.own true (encPu v), .dat (.int (n : Int)), .dat (.tup (ps.map encP)), .dat (.int size), .no, .no, .dat (.int (0 + (t : Int))), .no, .no, .no, .no, .no, .no, .no], rfl, e_c, fun z => (by cases z), fun _ => ⟨.int ((i - 50) * size), [.own true (encPu v2), .dat (.int (n : Int)), .dat (.tup (ps.map encP)), .dat (.int size), .no, .no, .dat (.int (0 + (t : Int))), .no, .no, .no, .no, .no, .no, .no], e_op (e_op (e_callO (ρ1 := [.own true (encPu v), .dat (.int (n : Int)), .dat (.tup (ps.map encP)), .dat (.int size), .no, .no, .dat (.int (0 + (t : Int))), .no, .no, .no, .no, .no, .no, .no]) (d1 := encPu v) (p := true) (q := true) rfl (e_acons e_c e_anil) rfl ed) e_c (sub_int _ _)) (e_var rfl) mm, v2, is ++ [(i - 50) * size], _, rfl, by rw [List.map_append]; rfl, by rw [List.length_append, List.length_append, h1]; rfl, fun n hn => ?_, by rw [List.length_append]; exact hv2⟩⟩
        rcases List.mem_append.mp hn with hn | hn
        · exact h2 n hn
        · rw [List.mem_singleton.mp hn, Int.natAbs_mul]
          exact Nat.le_trans (Nat.mul_le_mul sm (show size.natAbs ≤ 10 ^ 30 + 57 by omega)) (by decide +kernel))
    rw [List.length_range] at hlO
    refine st_par (ds := [.lst (os.map D.int), .dit [] []]) (ρ1 := [.own true (encPu u6), .dat (.int (n : Int)), .dat (.tup (ps.map encP)), .dat (.int size), .no, .no, .no, .no, .no, .no, .no, .no, .no, .no]) (ρ2 := [.own true (encPu u6), .dat (.int (n : Int)), .dat (.tup (ps.map encP)), .dat (.int size), .dat (.lst (os.map D.int)), .own false (knD []), .no, .no, .no, .no, .no, .no, .no, .no]) (e_acons hlcO (e_acons rfl e_anil)) rfl ?_
    have ixO : ∀ k : Nat, k < n → dIx (.lst (os.map D.int)) (.int (0 + (k : Int))) = some (.int (atG os id 0 k)) := fun k hk => by
      have hk : k < os.length := by omega
      rw [atG_some hk, Int.zero_add]
      exact atI_nat (by rw [List.getElem?_map, List.getElem?_eq_getElem hk]; rfl)
    have hlB := e_lcm (α := Nat) (vs := [6]) (it := iFn rng1? (aCons (mVar 1) aNil)) (g := gNm 6) (e := mTup (aCons (mC (.str "old")) (aCons (mVar 6) (aCons (mOp dIx (mVar 4) (mVar 6)) aNil)))) (enc := fun k : Nat => D.int (0 + (k : Int))) (f := fun k : Nat => encKn ⟨"old", (k : Int), atG os id 0 k⟩) (xs := List.range n) (ρ := [.own true (encPu u6), .dat (.int (n : Int)), .dat (.tup (ps.map encP)), .dat (.int size), .dat (.lst (os.map D.int)), .own false (knD []), .no, .no, .no, .no, .no, .no, .no, .no]) (ρ1 := [.own true (encPu u6), .dat (.int (n : Int)), .dat (.tup (ps.map encP)), .dat (.int size), .dat (.lst (os.map D.int)), .own false (knD []), .no, .no, .no, .no, .no, .no, .no, .no]) (it_rng1 (n := n) (e_acons (e_var rfl) e_anil) (by omega)) rfl (len_le (by rw [List.length_range]; omega)) (fun k hk => ⟨(), [.own true (encPu u6), .dat (.int (n : Int)), .dat (.tup (ps.map encP)), .dat (.int size), .dat (.lst (os.map D.int)), .own false (knD []), .dat (.int (0 + (k : Int))), .no, .no, .no, .no, .no, .no, .no], rfl, [.own true (encPu u6), .dat (.int (n : Int)), .dat (.tup (ps.map encP)), .dat (.int size), .dat (.lst (os.map D.int)), .own false (knD []), .dat (.int (0 + (k : Int))), .no, .no, .no, .no, .no, .no, .no], e_as (e_tup (e_acons e_c (e_acons (e_var rfl) (e_acons (e_op (e_var rfl) (e_var rfl) (ixO k (List.mem_range.mp hk))) e_anil))) (len_le (by simp))) rfl (by rw [Int.zero_add]; rfl), rfl⟩) rfl
    have ecat : dCat (.lst ((List.range n).map fun k : Nat => encKn ⟨"old", (k : Int), atG os id 0 k⟩)) (.lst [.tup [.str "zz", .int 0, .int 9], .tup [.str "old", .int (n : Int), .int 9], .tup [.str "", .int (10 ^ 12), .int 0]]) = some (.lst ((baseK n os ++ []).map encKn)) := by
      have e : (baseK n os ++ []).map encKn = ((List.range n).map fun k : Nat => encKn ⟨"old", (k : Int), atG os id 0 k⟩) ++ [.tup [.str "zz", .int 0, .int 9], .tup [.str "old", .int (n : Int), .int 9], .tup [.str "", .int (10 ^ 12), .int 0]] := by
        rw [List.append_nil]
        unfold baseK
        rw [List.map_append, List.map_map]
        rfl
      rw [e]
      exact if_pos (len_le (by rw [List.length_map, List.length_range]; simp; omega))
    refine st_setN (d := .lst ((baseK n os ++ []).map encKn)) (ρ1 := [.own true (encPu u6), .dat (.int (n : Int)), .dat (.tup (ps.map encP)), .dat (.int size), .dat (.lst (os.map D.int)), .own false (knD []), .no, .no, .no, .no, .no, .no, .no, .no]) (e_op hlB (e_lst (e_acons (e_tup (e_acons e_c (e_acons e_c (e_acons e_c e_anil))) (len_le (by simp))) (e_acons (e_tup (e_acons e_c (e_acons (e_var rfl) (e_acons e_c e_anil))) (len_le (by simp))) (e_acons (e_tup (e_acons e_c (e_acons (e_op e_c e_c pow12) (e_acons e_c e_anil))) (len_le (by simp))) e_anil))) (len_le (by simp))) ecat) ?_
    obtain ⟨_, ehl, x8, x9, x10, hs, u7, x6, rfl, hx6, hhs, hhb, hu7⟩ := v_hands C (m := m + 200) (u := u6) (L := (n : Int)) (size := size) (ps := ps) (LG := .int (n : Int)) (OL := .lst (os.map D.int)) (base := baseK n os) (hu6.mono (by omega)) hb (by omega) tnd (by omega) (by rw [baseK_len]; omega) hs0
    refine st_run ehl ?_
    have hlen : (baseK n os ++ hs).length ≤ 200 := by
      have : hs.length = (tks ps).length := by rw [← hhs, List.length_map]
      rw [List.length_append, baseK_len]
      omega
    have hlen0 : 0 < (baseK n os ++ hs).length := by
      rw [List.length_append, baseK_len]
      omega
    obtain ⟨i7, u8, e7, i70, i71, hu8⟩ := v_law_draw C (m := m + 199) (u := u7) (hu7.mono (by omega)) (n := ((baseK n os ++ hs).length : Int)) (by omega) (by omega)
    obtain ⟨c, rfl⟩ : ∃ c : Nat, i7 = (c : Int) := ⟨i7.toNat, by omega⟩
    have lnF : dLen [.lst ((baseK n os ++ hs).map encKn)] = some (.int ((baseK n os ++ hs).length : Int)) := by
      show some (D.int (((baseK n os ++ hs).map encKn).length : Nat)) = _
      rw [List.length_map]
    refine st_set (d := .int (c : Int)) (ρ1 := [.own true (encPu u8), .dat (.int (n : Int)), .dat (.tup (ps.map encP)), .dat (.int size), .dat (.lst (os.map D.int)), .own false (knD hs), x6, .own false (.lst ((baseK n os ++ hs).map encKn)), x8, x9, x10, .no, .no, .no]) (e_callO (ρ1 := [.own true (encPu u7), .dat (.int (n : Int)), .dat (.tup (ps.map encP)), .dat (.int size), .dat (.lst (os.map D.int)), .own false (knD hs), x6, .own false (.lst ((baseK n os ++ hs).map encKn)), x8, x9, x10, .no, .no, .no]) (d1 := encPu u7) (p := true) (q := true) rfl (e_acons (e_fnPo (p := false) (x := .lst ((baseK n os ++ hs).map encKn)) rfl lnF rfl) e_anil) rfl e7) ?_
    have hK : AllK n ps (baseK n os ++ hs) := by
      refine ⟨?_, ?_, ?_, ?_, ?_⟩
      · rw [List.map_append, hhs]
        refine List.nodup_append.mpr ⟨base_nd n os (by omega), tnd, fun a ha b hb' z => ?_⟩
        subst z
        obtain ⟨x, hx, rfl⟩ := List.mem_map.mp ha
        obtain ⟨p, hp, e, _⟩ := tks_mem.mp hb'
        have e : x.name = p.name := e
        have h1 := hnm p hp
        rw [← e] at h1
        rcases base_mem hx with ⟨h, _⟩ | rfl | rfl | rfl
        · rw [h] at h1; revert h1; decide
        · revert h1; decide
        · have h1 : ("old" : Str) ∈ allWords := h1
          revert h1; decide
        · revert h1; decide
      · intro x hx
        rcases List.mem_append.mp hx with hx | hx
        · rcases base_mem hx with ⟨_, k, hk, rfl⟩ | rfl | rfl | rfl
          · exact Int.natCast_nonneg k
          · decide
          · exact Int.natCast_nonneg n
          · decide
        · have : nk x ∈ tks ps := by rw [← hhs]; exact List.mem_map.mpr ⟨x, hx, rfl⟩
          obtain ⟨p, hp, _, q, hq, h1, _⟩ := tks_mem.mp this
          have := touch_lo _ _ (hb p hp).tok q hq
          have := (hb p hp).rng
          have h1 : q.1 ≤ x.at' := h1
          omega
      · intro x hx
        have up : (2 : Nat) ^ 129 ≤ 2 ^ 130 := by decide +kernel
        rcases List.mem_append.mp hx with hx | hx
        · rcases base_mem hx with ⟨_, k, hk, rfl⟩ | rfl | rfl | rfl
          · have hk : k < os.length := by omega
            show (atG os id 0 k).natAbs ≤ _
            rw [atG_some hk]
            exact Nat.le_trans (hbO _ (List.getElem_mem hk)) up
          · decide +kernel
          · show (9 : Int).natAbs ≤ _; decide +kernel
          · decide +kernel
        · exact Nat.le_trans (hhb x hx) up
      · intro k h0 h1
        obtain ⟨j, rfl⟩ : ∃ j : Nat, k = (j : Int) := ⟨k.toNat, by omega⟩
        refine ⟨⟨"old", (j : Int), atG os id 0 j⟩, List.mem_append_left _ ?_, rfl, rfl⟩
        unfold baseK
        exact List.mem_append_left _ (List.mem_map.mpr ⟨j, List.mem_range.mpr (by omega), rfl⟩)
      · intro p hp t ht
        have : (p.name, t) ∈ tks ps := tks_mem.mpr ⟨p, hp, rfl, ht⟩
        rw [← hhs] at this
        obtain ⟨x, hx, e⟩ := List.mem_map.mp this
        exact ⟨x, List.mem_append_right _ hx, congrArg Prod.fst e, congrArg Prod.snd e⟩
    generalize hAK : baseK n os ++ hs = ks at *
    have hold : ∀ k : Nat, k < n → eKn ks "old" (k : Int) = atG os id 0 k := fun k hk => by
      have hm : (⟨"old", (k : Int), atG os id 0 k⟩ : Kn) ∈ ks := by
        rw [← hAK]
        refine List.mem_append_left _ ?_
        unfold baseK
        exact List.mem_append_left _ (List.mem_map.mpr ⟨k, List.mem_range.mpr hk, rfl⟩)
      exact eKn_mem hK.nd hm
    have eO : os.map D.int = AL (fun k => .int (eKn ks "old" k)) n := by
      unfold AL
      have := range_get os (fun i => D.int (id i)) .non
      rw [hlO] at this
      rw [show os.map D.int = os.map (fun i => D.int (id i)) from rfl, ← this]
      refine List.map_congr_left fun k hk => ?_
      have hk := List.mem_range.mp hk
      show atG os (fun i => D.int (id i)) .non k = .int (eKn ks "old" (k : Int))
      rw [hold k hk, atG_some (by omega), atG_some (by omega)]
    have hgH : ∀ p ∈ ps, ∀ h, (∃ q ∈ p.touches, q.1 ≤ h ∧ h < q.2) → dGetT (knD hs) (.tup [.str p.name, .int h]) = some (.int (eKn ks p.name h)) := fun p hp h ht => by
      have : (p.name, h) ∈ tks ps := tks_mem.mpr ⟨p, hp, rfl, ht⟩
      rw [← hhs] at this
      obtain ⟨x, hx, e⟩ := List.mem_map.mp this
      have e1 : x.name = p.name := congrArg Prod.fst e
      have e2 : x.at' = h := congrArg Prod.snd e
      rw [← e1, ← e2, eKn_mem hK.nd (by rw [← hAK]; exact List.mem_append_right _ hx)]
      exact dGet_kn (keys_nd (by rw [hhs]; exact tnd)) hx
    have pl := v_law_played C (e := eKn ks) (n := n) (ps := ps) (kk := hs.map keyKn) (kd := hs.map fun k : Kn => D.int k.n) hps (by omega) hgH (eKn_bd hK.bd)
    rw [← eO] at pl
    have pl : F_law_played C [.lst (os.map D.int), knD hs, .tup (ps.map encP)] = some (.lst (AL (Nk (eKn ks) n ps.reverse) n)) := pl
    have nf := fun (k : Int) (h0 : 0 ≤ k) (h1 : k < n) => v_number_all C hps (by omega) hK (rot_perm ks c) (by omega) h0 h1
    have nr := fun (k : Int) (h0 : 0 ≤ k) (h1 : k < n) => v_number_all C hps (by omega) hK ((List.reverse_perm _).trans (rot_perm ks c)) (by omega) h0 h1
    have d1 := sl_drop (ks.map encKn) c
    have d2 := sl_take (ks.map encKn) c
    have d3 : dAdd (.lst ((ks.map encKn).drop c)) (.lst ((ks.map encKn).take c)) = some (.lst ((rot ks c).map encKn)) := by
      rw [add_lst, ← rot_map]
      · rfl
      · rw [List.length_drop, List.length_take, List.length_map]
        omega
    have d4 : dTuple [.lst ((rot ks c).map encKn)] = some (.tup ((rot ks c).map encKn)) := rfl
    have rv : dRevT (.tup ((rot ks c).map encKn)) = some (.tup ((rot ks c).reverse.map encKn)) := by
      show some (D.tup ((rot ks c).map encKn).reverse) = _
      rw [List.map_reverse]
    generalize hFD : D.tup ((rot ks c).map encKn) = FD at *
    generalize hRD : D.tup ((rot ks c).reverse.map encKn) = RD at *
    generalize hM : encTr C (n : Int) ps = M at *
    have fr : ∀ k : Int, Fr 9 (ofQ (numQ (eKn ks) n ps.reverse k)) := fun k => by
      have f := num_fr (e := eKn ks) (t := k) hps.rev fun x _ => eKn_bd hK.bd _ _
      have hl : ps.reverse.length + 1 ≤ 9 := by rw [List.length_reverse]; omega
      exact ⟨f.pos, Nat.le_trans f.le (Nat.pow_le_pow_right (by decide) (by omega)), Nat.le_trans f.n (Nat.mul_le_mul (Nat.mul_le_mul hl (Nat.le_refl _)) (Nat.le_refl _))⟩
    have rpL : ∃ S : Str, dRepr [.lst (AL (Nk (eKn ks) n ps.reverse) n)] = some (.str S) := by
      refine ⟨_, reprB (m := 2) (n := 12 * 5) (k := 2) (gd_lst (n := 1) fun x hx => ?_) ?_ (by decide) (by decide)⟩
      · obtain ⟨k, _, rfl⟩ := List.mem_map.mp hx
        exact gd_w _
      · have e : toP (.lst (AL (Nk (eKn ks) n ps.reverse) n)) = .list ((AL (Nk (eKn ks) n ps.reverse) n).map toP) := by
          show PyData.list (toPs _) = _
          rw [toPs_map]
        rw [e]
        refine (ShBA.mono (ShBA.all (n := 4) (k := 1) fun d hd => ?_) ?_ (Nat.le_refl _)).lst
        · obtain ⟨z, hz, rfl⟩ := List.mem_map.mp hd
          obtain ⟨k, _, rfl⟩ := List.mem_map.mp hz
          exact (fr k).shB (by decide)
        · rw [List.length_map, AL_len]
          exact Nat.mul_le_mul hn2 (Nat.le_refl _)
    obtain ⟨SL, rpL⟩ := rpL
    have rp1 := fun k : Int => repr_fr (fr k) (by decide)
    have ixD := fun (k : Int) (h0 : 0 ≤ k) (h1 : k < n) => ix_AL (Nk (eKn ks) n ps.reverse) (n := n) h0 h1
    have hlN : AL (Nk (eKn ks) n ps.reverse) n = (List.range n).map fun k : Nat => Nk (eKn ks) n ps.reverse (k : Int) := rfl
    generalize hDU : D.lst (AL (Nk (eKn ks) n ps.reverse) n) = DU at *
    refine st_set (d := FD) (ρ1 := [.own true (encPu u8), .dat (.int (n : Int)), .dat (.tup (ps.map encP)), .dat (.int size), .dat (.lst (os.map D.int)), .own false (knD hs), x6, .dat (.lst (ks.map encKn)), x8, x9, x10, .dat (.int (c : Int)), .no, .no]) (e_fn (e_acons (e_op (e_sl (e_varO (i := 7) (d := .lst (ks.map encKn)) rfl) (e_part (e_var rfl)) e_no d1) (e_sl (e_var rfl) e_no (e_part (e_var rfl)) d2) d3) e_anil) d4) ?_
    refine st_par (ds := [M, DU]) (ρ1 := [.own true (encPu u8), .dat (.int (n : Int)), .dat (.tup (ps.map encP)), .dat (.int size), .dat (.lst (os.map D.int)), .dat (knD hs), x6, .dat FD, x8, x9, x10, .dat (.int (c : Int)), .no, .no]) (ρ2 := [.own true (encPu u8), .dat (.int (n : Int)), .dat (.tup (ps.map encP)), .dat (.int size), .dat (.lst (os.map D.int)), .dat (knD hs), x6, .dat FD, x8, x9, x10, .dat (.int (c : Int)), .dat M, .dat DU]) (e_acons (e_make (e_acons (e_var rfl) (e_acons (e_var rfl) e_anil)) mk) (e_acons (e_fn (e_acons (e_var rfl) (e_acons (e_varO (i := 5) (d := knD hs) rfl) (e_acons (e_var rfl) e_anil))) pl) e_anil)) rfl ?_
    have hlC := e_lcm (α := Nat) (vs := [6]) (it := iFn rng1? (aCons (mVar 1) aNil)) (g := gNm 6) (e := mFn (F_number_at C) (aCons (mVar 12) (aCons (mVar 6) (aCons (mVar 7) aNil)))) (enc := fun k : Nat => D.int (0 + (k : Int))) (f := fun k : Nat => Nk (eKn ks) n ps.reverse (k : Int)) (xs := List.range n) (ρ := [.own true (encPu u8), .dat (.int (n : Int)), .dat (.tup (ps.map encP)), .dat (.int size), .dat (.lst (os.map D.int)), .dat (knD hs), x6, .dat FD, x8, x9, x10, .dat (.int (c : Int)), .dat M, .dat DU]) (ρ1 := [.own true (encPu u8), .dat (.int (n : Int)), .dat (.tup (ps.map encP)), .dat (.int size), .dat (.lst (os.map D.int)), .dat (knD hs), x6, .dat FD, x8, x9, x10, .dat (.int (c : Int)), .dat M, .dat DU]) (it_rng1 (n := n) (e_acons (e_var rfl) e_anil) (by omega)) (by rcases hx6 with rfl | ⟨d6, rfl⟩ <;> rfl) (len_le (by rw [List.length_range]; omega)) (fun k hk => ⟨(), [.own true (encPu u8), .dat (.int (n : Int)), .dat (.tup (ps.map encP)), .dat (.int size), .dat (.lst (os.map D.int)), .dat (knD hs), .dat (.int (0 + (k : Int))), .dat FD, x8, x9, x10, .dat (.int (c : Int)), .dat M, .dat DU], rfl, [.own true (encPu u8), .dat (.int (n : Int)), .dat (.tup (ps.map encP)), .dat (.int size), .dat (.lst (os.map D.int)), .dat (knD hs), .dat (.int (0 + (k : Int))), .dat FD, x8, x9, x10, .dat (.int (c : Int)), .dat M, .dat DU], e_fn (e_acons (e_var rfl) (e_acons (e_var rfl) (e_acons (e_var rfl) e_anil))) (by rw [Int.zero_add]; exact nf k (by omega) (by have := List.mem_range.mp hk; omega)), rfl⟩) rfl
    rw [← hlN, hDU] at hlC
    have nsl := ne_str2 SL
    refine st_if (p := false) (ρ1 := [.own true (encPu u8), .dat (.int (n : Int)), .dat (.tup (ps.map encP)), .dat (.int size), .dat (.lst (os.map D.int)), .dat (knD hs), x6, .dat FD, x8, x9, x10, .dat (.int (c : Int)), .dat M, .dat DU]) (e_tst (e_op (e_fn (e_acons hlC e_anil) rpL) (e_fn (e_acons (e_var rfl) e_anil) rpL) nsl)) (fun z => by cases z) fun _ => ?_
    refine st_nx ?_
    obtain ⟨i9, u9, e9, i90, i91, hu9⟩ := v_law_draw C (m := m + 198) (u := u8) hu8 (n := (n : Int)) (by omega) (by omega)
    refine st_set (d := .int i9) (ρ1 := [.own true (encPu u9), .dat (.int (n : Int)), .dat (.tup (ps.map encP)), .dat (.int size), .dat (.lst (os.map D.int)), .dat (knD hs), x6, .dat FD, x8, x9, x10, .dat (.int (c : Int)), .dat M, .dat DU]) (e_callO (ρ1 := [.own true (encPu u8), .dat (.int (n : Int)), .dat (.tup (ps.map encP)), .dat (.int size), .dat (.lst (os.map D.int)), .dat (knD hs), x6, .dat FD, x8, x9, x10, .dat (.int (c : Int)), .dat M, .dat DU]) (d1 := encPu u8) (p := true) (q := true) rfl (e_acons (e_var rfl) e_anil) rfl e9) ?_
    have nr9 := nr i9 i90 i91
    have ix9 := ixD i9 i90 i91
    obtain ⟨S9, rp9⟩ : ∃ S : Str, dRepr [Nk (eKn ks) n ps.reverse i9] = some (.str S) := ⟨_, rp1 i9⟩
    have eq9 := eq_str2 S9
    refine sw_ret (st_ret (d := .bl true) (ρ1 := [.own true (encPu u9), .dat (.int (n : Int)), .dat (.tup (ps.map encP)), .dat (.int size), .dat (.lst (os.map D.int)), .dat (knD hs), x6, .dat FD, x8, x9, x10, .dat (.int i9), .dat M, .dat DU]) (e_op (e_fn (e_acons (e_kw (ds := []) (es := [RD, .int i9, M]) e_anil (e_acons (e_un (e_var rfl) rv) (e_acons (e_var rfl) (e_acons (e_var rfl) e_anil))) rfl rfl nr9) e_anil) rp9) (e_fn (e_acons (e_op (e_var rfl) (e_var rfl) ix9) e_anil) rp9) eq9) ?_)
    exact ro_rt ⟨u9, rfl, rfl, hu9.mono (by omega)⟩
  obtain ⟨r, e, h1, u', rfl, rfl, h2⟩ := this
  exact ⟨u', h1, h2⟩
end
end My
set_option exponentiation.threshold 20000
namespace My
open PySem PySem.Spec PyProof.Rows L2 DL
def exQ : Ps := ⟨"a", "touch", 2, 8, [(3, 5)], 3, "stop"⟩
def exF (a o : Int) : Str → Int := fun s => if s = "a" then a else o
theorem exQ_ok : PssOk 12 [exQ] := ⟨fun p hp => by
  rw [List.mem_singleton.mp hp]
  exact ⟨by decide +kernel, by decide +kernel, by decide +kernel, by decide +kernel⟩, fun p hp => by
  rw [List.mem_singleton.mp hp]
  decide +kernel, by simp, by decide⟩
theorem ex_in {t : Int} {ks : List Kn} {e : Str → Int} (h : (((atQ 12 [exQ].reverse t).map TQ.tm).all fun x => ks.any fun k => (decide (k.name = x.name) && decide (k.at' = x.at')) && decide (k.n = e x.name)) = true) : ∀ x ∈ formT 12 [exQ] t, (⟨x.name, x.at', e x.name⟩ : Kn) ∈ ks := fun x hx => by
  have hx := (byName_perm _).mem_iff.mp hx
  obtain ⟨k, hk, e⟩ := List.any_eq_true.mp (List.all_eq_true.mp h x hx)
  simp only [Bool.and_eq_true, decide_eq_true_eq] at e
  obtain ⟨⟨e1, e2⟩, e3⟩ := e
  rw [← e1, ← e2]
  rw [← e1] at e3
  rw [← e3]
  exact hk
section
variable (C : Addr)
theorem v_ex5 : F_number_at C [encTr C 12 [exQ], .int 5, .tup [.tup [.str "a", .int 4, .int 8], .tup [.str "old", .int 5, .int (-4)]]] = some (.tup [.int 5, .int 1]) := by
  have h := v_number_at C (t := 5) (ks := [⟨"a", 4, 8⟩, ⟨"old", 5, (-4)⟩]) (e := exF 8 (-4)) exQ_ok (by decide) (by decide) (by decide) (by decide) (by decide) (Nat.lt_of_lt_of_le (by decide : _ < 100) (len_le (by decide))) (fun x _ => by unfold exF; split <;> decide +kernel) (ex_in (by decide +kernel))
  rw [show sgQ (exF 8 (-4)) (formT 12 [exQ] 5) = sgQ (exF 8 (-4)) ((atQ 12 [exQ].reverse 5).map TQ.tm) from sgQ_perm _ (byName_perm _), show ofQ (sgQ (exF 8 (-4)) ((atQ 12 [exQ].reverse 5).map TQ.tm)) = (5, 1) by decide +kernel] at h
  exact h
theorem v_ex0 : F_number_at C [encTr C 12 [exQ], .int 0, .tup [.tup [.str "old", .int 0, .int (-7)]]] = some (.tup [.int (-7), .int 1]) := by
  have h := v_number_at C (t := 0) (ks := [⟨"old", 0, (-7)⟩]) (e := exF 0 (-7)) exQ_ok (by decide) (by decide) (by decide) (by decide) (by decide) (Nat.lt_of_lt_of_le (by decide : _ < 100) (len_le (by decide))) (fun x _ => by unfold exF; split <;> decide +kernel) (ex_in (by decide +kernel))
  rw [show sgQ (exF 0 (-7)) (formT 12 [exQ] 0) = sgQ (exF 0 (-7)) ((atQ 12 [exQ].reverse 0).map TQ.tm) from sgQ_perm _ (byName_perm _), show ofQ (sgQ (exF 0 (-7)) ((atQ 12 [exQ].reverse 0).map TQ.tm)) = (-7, 1) by decide +kernel] at h
  exact h
theorem v_ex7 : F_number_at C [encTr C 12 [exQ], .int 7, .tup [.tup [.str "old", .int 7, .int 0], .tup [.str "a", .int 4, .int 2]]] = some (.tup [.int 1, .int 2]) := by
  have h := v_number_at C (t := 7) (ks := [⟨"old", 7, 0⟩, ⟨"a", 4, 2⟩]) (e := exF 2 0) exQ_ok (by decide) (by decide) (by decide) (by decide) (by decide) (Nat.lt_of_lt_of_le (by decide : _ < 100) (len_le (by decide))) (fun x _ => by unfold exF; split <;> decide +kernel) (ex_in (by decide +kernel))
  rw [show sgQ (exF 2 0) (formT 12 [exQ] 7) = sgQ (exF 2 0) ((atQ 12 [exQ].reverse 7).map TQ.tm) from sgQ_perm _ (byName_perm _), show ofQ (sgQ (exF 2 0) ((atQ 12 [exQ].reverse 7).map TQ.tm)) = (1, 2) by decide +kernel] at h
  exact h
theorem v_ex8 : F_number_at C [encTr C 12 [exQ], .int 8, .tup [.tup [.str "old", .int 8, .int 0]]] = some (.tup [.int 0, .int 1]) := by
  have h := v_number_at C (t := 8) (ks := [⟨"old", 8, 0⟩]) (e := exF 0 0) exQ_ok (by decide) (by decide) (by decide) (by decide) (by decide) (Nat.lt_of_lt_of_le (by decide : _ < 100) (len_le (by decide))) (fun x _ => by unfold exF; split <;> decide +kernel) (ex_in (by decide +kernel))
  rw [show sgQ (exF 0 0) (formT 12 [exQ] 8) = sgQ (exF 0 0) ((atQ 12 [exQ].reverse 8).map TQ.tm) from sgQ_perm _ (byName_perm _), show ofQ (sgQ (exF 0 0) ((atQ 12 [exQ].reverse 8).map TQ.tm)) = (0, 1) by decide +kernel] at h
  exact h
theorem v_law {ns : List Int} (hb : ∀ z ∈ ns, Builtin.Int.intBits z ≤ 1048576) : F_law C [.scr ns] = some (.bl true) := by
  obtain ⟨n, hn, n5⟩ : ∃ n : Nat, (if (if (4 : Int) < (ns.length : Int) then 4 else (ns.length : Int)) > 2 then (if (4 : Int) < (ns.length : Int) then 4 else (ns.length : Int)) else 2) = (n : Int) ∧ n ≤ 4 := by
    refine ⟨(if (if (4 : Int) < (ns.length : Int) then 4 else (ns.length : Int)) > 2 then (if (4 : Int) < (ns.length : Int) then 4 else (ns.length : Int)) else 2).toNat, ?_, ?_⟩ <;> split <;> (try split) <;> omega
  have m1 : dMin [.int ns.length, .int 4] = some (.int (if (4 : Int) < (ns.length : Int) then 4 else (ns.length : Int))) := rfl
  have m2 : dMax [.int 2, .int (if (4 : Int) < (ns.length : Int) then 4 else (ns.length : Int))] = some (.int n) := by
    rw [← hn]; rfl
  have hl : dLen [.scr ns] = some (.int ns.length) := rfl
  have mk := v_Track_init C 12 [exQ] exQ_ok (by decide) (by decide)
  have x5 := v_ex5 C
  have x0 := v_ex0 C
  have x7 := v_ex7 C
  have x8 := v_ex8 C
  have nE : ∀ a b : Int, dNe (.tup [.int a, .int b]) (.tup [.int a, .int b]) = some (.bl false) := fun a b => by
    have : dNe (encW (a, b)) (encW (a, b)) = some (.bl false) := by rw [ne_w, decide_eq_true rfl]; rfl
    exact this
  have eP : D.tup ([exQ].map encP) = .tup [.tup [.str "a", .str "touch", .int 2, .int 8, .tup [.tup [.int 3, .int 5]], .int 3, .str "stop"]] := rfl
  rw [eP] at mk
  generalize encTr C 12 [exQ] = M at mk x5 x0 x7 x8
  refine retF ?_
  unfold B_law
  refine st_set (d := M) (ρ1 := [.dat (.scr ns), .no, .no]) (e_make (e_acons e_c (e_acons (e_tup (e_acons (e_tup (e_acons e_c (e_acons e_c (e_acons e_c (e_acons e_c (e_acons (e_tup (e_acons (e_tup (e_acons e_c (e_acons e_c e_anil)) (len_le (by simp))) e_anil) (len_le (by simp))) (e_acons e_c (e_acons e_c e_anil))))))) (len_le (by simp))) e_anil) (len_le (by simp))) e_anil)) mk) ?_
  refine st_if (p := false || false) (ρ1 := [.dat (.scr ns), .dat M, .no]) (e_or (e_tst (e_op (e_fn (e_acons (e_var rfl) (e_acons e_c (e_acons (e_tup (e_acons (e_tup (e_acons e_c (e_acons e_c (e_acons e_c e_anil))) (len_le (by simp))) (e_acons (e_tup (e_acons e_c (e_acons e_c (e_acons (e_un e_c rfl) e_anil))) (len_le (by simp))) e_anil)) (len_le (by simp))) e_anil))) x5) (e_tup (e_acons e_c (e_acons e_c e_anil)) (len_le (by simp))) (nE _ _))) (e_tst (e_op (e_fn (e_acons (e_var rfl) (e_acons e_c (e_acons (e_tup (e_acons (e_tup (e_acons e_c (e_acons e_c (e_acons (e_un e_c rfl) e_anil))) (len_le (by simp))) e_anil) (len_le (by simp))) e_anil))) x0) (e_tup (e_acons (e_un e_c rfl) (e_acons e_c e_anil)) (len_le (by simp))) (nE _ _)))) (fun z => by cases z) fun _ => ?_
  refine st_nx ?_
  refine st_if (p := false || false) (ρ1 := [.dat (.scr ns), .dat M, .no]) (e_or (e_tst (e_op (e_fn (e_acons (e_var rfl) (e_acons e_c (e_acons (e_tup (e_acons (e_tup (e_acons e_c (e_acons e_c (e_acons e_c e_anil))) (len_le (by simp))) (e_acons (e_tup (e_acons e_c (e_acons e_c (e_acons e_c e_anil))) (len_le (by simp))) e_anil)) (len_le (by simp))) e_anil))) x7) (e_tup (e_acons e_c (e_acons e_c e_anil)) (len_le (by simp))) (nE _ _))) (e_tst (e_op (e_fn (e_acons (e_var rfl) (e_acons e_c (e_acons (e_tup (e_acons (e_tup (e_acons e_c (e_acons e_c (e_acons e_c e_anil))) (len_le (by simp))) e_anil) (len_le (by simp))) e_anil))) x8) (e_tup (e_acons e_c (e_acons e_c e_anil)) (len_le (by simp))) (nE _ _)))) (fun z => by cases z) fun _ => ?_
  refine st_nx ?_
  refine st_forN (n := n) (ρ1 := [.dat (.scr ns), .dat M, .no]) ?_ (fun j ρ => ∃ x, ρ = [.dat (.scr ns), .dat M, x]) ⟨_, rfl⟩ ?_ ?_
  · refine it_rng1 ?_ (by omega)
    refine_lift' eva [hl, m1, m2]
  · rintro j ρ hj ⟨x, rfl⟩
    obtain ⟨u, hp, hu⟩ := v_law_purse C hb (k := j) (by omega)
    obtain ⟨e1, hr, _⟩ := v_law_right C (m := 100) (u := u) (hu.mono (by omega))
    refine ⟨(), [.dat (.scr ns), .dat M, .dat (.int (j : Int))], by rw [show (0 : Int) + (j : Int) = (j : Int) by omega]; rfl, ?_⟩
    refine_lift' st [hp, hr]
    · intro h; cases h
    · intro _
      refine_lift' st
      exact ⟨_, rfl⟩
  · rintro ρ ⟨x, rfl⟩
    refine_lift' st
    exact rq_rt rfl
end
end My
namespace My
open PySem PySem.Spec PyProof.Rows L2 DL
theorem sqL_fz {K : PySem.W.Frag} {H : Hp} {a : Addr} {xs : List V} (o : Only H) (h : SqL K H a xs) : SqL K (fz H) a xs := by
  rcases h with (h | ⟨ob, h⟩) | h
  · rcases o a with z | ⟨_, _, z⟩
    · rw [h] at z; cases z
    · rw [h] at z; cases z
  · exact .inl (.inr ⟨_, fz_of h⟩)
  · exact .inr h
def spEnd (K : PySem.W.Frag) : Sp := fun vs H Q _ => ∃ (s : Addr) (ns : List Int), vs = [.ref s] ∧ SqL K (fz H) s (ns.map V.int) ∧ ns.length ≤ 63 ∧ (∀ z ∈ ns, Builtin.Int.intBits z ≤ 1048576) ∧ ∀ H', Q (.bl true) H'
theorem spEnd_of {P : Program} {w : World} {K : PySem.W.Frag} {mg : Str → Option Value} {base : Heap} {k : Nat} {f : Addr} {fd : FuncData} {F : List D → Option D} (h : FnG P w K mg base CX0 k f fd ["script"] (spF K 1 F))
    (t : ∀ ns : List Int, ns.length ≤ 63 → (∀ z ∈ ns, Builtin.Int.intBits z ≤ 1048576) → F [.scr ns] = some (.bl true)) : FnG P w K mg base CX0 k f fd ["script"] (spEnd K) := by
  have go : ∀ vs H Q E, spEnd K vs H Q E → spF K 1 F vs H Q E := by
    rintro vs H Q E ⟨s, ns, rfl, hS, hl, hb, q⟩
    exact ⟨fun _ => False, [.scr ns], .bl true, fun _ z => z.elim, .cons (.scr hS) .nil, rfl, t ns hl hb, fun u H' _ hd => by cases hd; exact q H'⟩
  exact ⟨fun vs H Q E q => h.size vs H Q E (go _ _ _ _ q), fun A outer s H args us vs Q E hg hr he hb hv hs => h.runs A outer s H args us vs Q E hg hr he hb hv (go _ _ _ _ hs)⟩
theorem fin_mk {P : Program} {w : World} {K : PySem.W.Frag} {mg : Str → Option Value} {fa fl : Addr} (hfa : mg "law" = some (.ref fa)) (h : ∃ T : Txt w.params K mg, T.law.f = fl) :
    ∃ fd : FuncData, (∀ (s : Shared) (u : Value), BindsTo s fd ⟨[u], []⟩ [("script", u)]) ∧ ∀ base : Heap, K.In base → base.Ns mainGlobals mg → FnG P w K mg base CX0 10 fa fd ["script"] (spEnd K) := by
  obtain ⟨T, _⟩ := h
  have e := hfa.symm.trans T.law.g
  obtain ⟨oc, od, kV, doc, pm, an, cdv, ct, osl, e2, lk, hcd⟩ := T.law.F.ex
  injection e with e
  injection e with e
  subst e
  refine ⟨T.law.fd, fun s u => ?_, fun base _ _ => spEnd_of (ok_law T) fun ns hl hb => v_law T.C hb⟩
  rw [e2]
  exact .of_eq rfl
end My
def PySem.W.Fast.tw8911735694107022170 : Nat := 0
def PySem.W.Fast.tw12538202969293928427 : Nat := 0
def PySem.W.Fast.tw4773600056543775150 : Nat := 0
def PySem.W.Fast.tw6639524740441351871 : Nat := 0
def PySem.W.Fast.tw15766069264678423338 : Nat := 0
def PySem.W.Fast.tw12563532561934100795 : Nat := 0
def PySem.W.Fast.tw14671803321489709711 : Nat := 0
def PySem.W.Fast.tw17566812094205317313 : Nat := 0
def PySem.W.Fast.tw7550647866886406563 : Nat := 0
def PySem.W.Fast.tw3598780618732142920 : Nat := 0
def PySem.W.Fast.tw12734070040516959094 : Nat := 0
def PySem.W.Fast.tw1342103296388420531 : Nat := 0
def PySem.W.Fast.tw2112113451926223597 : Nat := 0
def PySem.W.Fast.tw5267415650041362253 : Nat := 0
def PySem.W.Fast.tw8049775646233038618 : Nat := 0
def PySem.W.Fast.tw13726782642887587064 : Nat := 0
def PySem.W.Fast.tw13521425070608689526 : Nat := 0
def PySem.W.Fast.tw12884865458414998848 : Nat := 0
def PySem.W.Fast.tw16885835586262087238 : Nat := 0
def PySem.W.Fast.tw12508719168301923215 : Nat := 0
def PySem.W.Fast.tw7616066376100058536 : Nat := 0
def PySem.W.Fast.tw15583192885173537841 : Nat := 0
def PySem.W.Fast.tw11137056062097554094 : Nat := 0
def PySem.W.Fast.tw4560247770058642678 : Nat := 0
def PySem.W.Fast.tw2553011334704234578 : Nat := 0
def PySem.W.Fast.tw10412906853524060620 : Nat := 0
def PySem.W.Fast.tw7861437256690691387 : Nat := 0
def PySem.W.Fast.tw2566015931704277694 : Nat := 0
def PySem.W.Fast.tw9107626231088639683 : Nat := 0
def PySem.W.Fast.tw2101377734734629487 : Nat := 0
def PySem.W.Fast.tw7543359681206765667 : Nat := 0
def PySem.W.Fast.tw1177280421696671605 : Nat := 0
def PySem.W.Fast.tw7965800686685372544 : Nat := 0
def PySem.W.Fast.tw13118514828838468226 : Nat := 0
def PySem.W.Fast.tw5652293407428965175 : Nat := 0
def PySem.W.Fast.tw661424791835404430 : Nat := 0
def PySem.W.Fast.tw14178217942751360539 : Nat := 0
def PySem.W.Fast.tw13671368375237818496 : Nat := 0
def PySem.W.Fast.tw11462597216174632573 : Nat := 0
def PySem.W.Fast.tw3713049142855029708 : Nat := 0
def PySem.W.Fast.tw7845822049619246057 : Nat := 0
def PySem.W.Fast.tw17812623341248028961 : Nat := 0
def PySem.W.Fast.tw18286047797195313625 : Nat := 0
def PySem.W.Fast.tw8901149900390725371 : Nat := 0
def PySem.W.Fast.tw7981867485934065991 : Nat := 0
def PySem.W.Fast.tw16189348899397383016 : Nat := 0
def PySem.W.Fast.tw10172755867542723704 : Nat := 0
def PySem.W.Fast.tw2818900403338889591 : Nat := 0
def PySem.W.Fast.tw3525679411662018811 : Nat := 0
def PySem.W.Fast.tw964022127259133798 : Nat := 0
def PySem.W.Fast.tw12910292713978349259 : Nat := 0
def PySem.W.Fast.tw18418652847389123385 : Nat := 0
def PySem.W.Fast.tw11811977717966349868 : Nat := 0
def PySem.W.Fast.tw9820233791154355026 : Nat := 0
def PySem.W.Fast.tw1514237104514483134 : Nat := 0
def PySem.W.Fast.tw378891585479453240 : Nat := 0
def PySem.W.Fast.tw14674554109173202610 : Nat := 0
def PySem.W.Fast.tw6826297463138042076 : Nat := 0
def PySem.W.Fast.tw9627502245251179602 : Nat := 0
def PySem.W.Fast.tw18209592542548020545 : Nat := 0
def PySem.W.Fast.tw6911338842693010063 : Nat := 0
def PySem.W.Fast.tw236982575195475115 : Nat := 0
def PySem.W.Fast.tw11229686162795658042 : Nat := 0
def PySem.W.Fast.tw5118193785076471922 : Nat := 0
def PySem.W.Fast.tw11987662483008197350 : Nat := 0
def PySem.W.Fast.tw3937080854234611147 : Nat := 0
def PySem.W.Fast.tw15104749125967353668 : Nat := 0
def PySem.W.Fast.tw558932179621760650 : Nat := 0
def PySem.W.Fast.tw1133544109414637559 : Nat := 0
def PySem.W.Fast.tw15601935321870269490 : Nat := 0
def PySem.W.Fast.tw2009333765879119192 : Nat := 0
def PySem.W.Fast.tw214477713155214048 : Nat := 0
def PySem.W.Fast.tw838232405505470956 : Nat := 0
def PySem.W.Fast.tw3402091314622869794 : Nat := 0
def PySem.W.Fast.tw17158048412716212431 : Nat := 0
def PySem.W.Fast.tw923962596596529873 : Nat := 0
def PySem.W.Fast.tw16794931498481588211 : Nat := 0
def PySem.W.Fast.tw46779192963971082 : Nat := 0
def PySem.W.Fast.tw9845084946939568651 : Nat := 0
def PySem.W.Fast.tw9841508079214026880 : Nat := 0
def PySem.W.Fast.tw2778750561943211431 : Nat := 0
def PySem.W.Fast.tw8767365088037872971 : Nat := 0
def PySem.W.Fast.tw9671831455255851534 : Nat := 0
def PySem.W.Fast.tw3123856949014013345 : Nat := 0
def PySem.W.Fast.tw9511156076343989025 : Nat := 0
def PySem.W.Fast.tw16540771397968645927 : Nat := 0
def PySem.W.Fast.tw9248515591297688838 : Nat := 0
def PySem.W.Fast.tw11985257173155559157 : Nat := 0
def PySem.W.Fast.tw8558709763010639949 : Nat := 0
def PySem.W.Fast.tw4564818268962759778 : Nat := 0
def PySem.W.Fast.tw16724953942696406538 : Nat := 0
def PySem.W.Fast.tw17378400704690605762 : Nat := 0
def PySem.W.Fast.tw9366210242328723571 : Nat := 0
def PySem.W.Fast.tw7442993098390606561 : Nat := 0
def PySem.W.Fast.tw3697871229040559640 : Nat := 0
def PySem.W.Fast.tw3420500986671122242 : Nat := 0
def PySem.W.Fast.tw17278367625414242606 : Nat := 0
def PySem.W.Fast.tw16284738078901040420 : Nat := 0
def PySem.W.Fast.tw972613789572050884 : Nat := 0
def PySem.W.Fast.tw14047245346745632575 : Nat := 0
def PySem.W.Fast.tw15818182141953256466 : Nat := 0
def PySem.W.Fast.tw2960220847477237 : Nat := 0
def PySem.W.Fast.tw1362408041390728559 : Nat := 0
def PySem.W.Fast.tw10512294728574804503 : Nat := 0
def PySem.W.Fast.tw17145132705733573086 : Nat := 0
def PySem.W.Fast.tw12591137042488600297 : Nat := 0
def PySem.W.Fast.tw6962820373249743961 : Nat := 0
def PySem.W.Fast.tw4384752208141164181 : Nat := 0
def PySem.W.Fast.tw2980044420121264754 : Nat := 0
def PySem.W.Fast.tw4132681827894785605 : Nat := 0
def PySem.W.Fast.tw8781608638291151949 : Nat := 0
def PySem.W.Fast.tw15862609892408835736 : Nat := 0
def PySem.W.Fast.tw10616258124743226583 : Nat := 0
def PySem.W.Fast.tw12479718630391419900 : Nat := 0
def PySem.W.Fast.tw14399675285241483658 : Nat := 0
def PySem.W.Fast.tw16771895413476024691 : Nat := 0
def PySem.W.Fast.tw699655618919642247 : Nat := 0
def PySem.W.Fast.tw6106606350693502377 : Nat := 0
def PySem.W.Fast.tw7690549826537126025 : Nat := 0
def PySem.W.Fast.tw18091288026533022645 : Nat := 0
def PySem.W.Fast.tw2431658577265314890 : Nat := 0
def PySem.W.Fast.tw14734325146617572245 : Nat := 0
def PySem.W.Fast.tw6507755209777502632 : Nat := 0
def PySem.W.Fast.tw13844617973845842058 : Nat := 0
def PySem.W.Fast.tw11192703571389895024 : Nat := 0
def PySem.W.Fast.tw1345102530948190137 : Nat := 0
def PySem.W.Fast.tw5024315136993863257 : Nat := 0
def PySem.W.Fast.tw973816995907431223 : Nat := 0
def PySem.W.Fast.tw2861717250203971371 : Nat := 0
def PySem.W.Fast.tw2622413305148361337 : Nat := 0
def PySem.W.Fast.tw7080996270481861359 : Nat := 0
def PySem.W.Fast.tw10302860951449700651 : Nat := 0
def PySem.W.Fast.tw16555639840612846590 : Nat := 0
def PySem.W.Fast.tw2496054372759136720 : Nat := 0
def PySem.W.Fast.tw9360154493381607004 : Nat := 0
def PySem.W.Fast.tw3514731754633941770 : Nat := 0
def PySem.W.Fast.tw8420203860661803756 : Nat := 0
def PySem.W.Fast.tw5380989529570066595 : Nat := 0
def PySem.W.Fast.tw6282666630415276502 : Nat := 0
def PySem.W.Fast.tw15706117797241692139 : Nat := 0
def PySem.W.Fast.tw14981518795904753823 : Nat := 0
def PySem.W.Fast.tw7910397070374791241 : Nat := 0
def PySem.W.Fast.tw12064973318958422973 : Nat := 0
def PySem.W.Fast.tw12550683115199239177 : Nat := 0
def PySem.W.Fast.tw14882082060186971976 : Nat := 0
def PySem.W.Fast.tw16571282673145523971 : Nat := 0
def PySem.W.Fast.tw9729644806884577975 : Nat := 0
def PySem.W.Fast.tw3807351364008615566 : Nat := 0
def PySem.W.Fast.tw16592266995456055257 : Nat := 0
def PySem.W.Fast.tw17832998206649010610 : Nat := 0
def PySem.W.Fast.tw11681972937042565699 : Nat := 0
def PySem.W.Fast.tw18078019180264834094 : Nat := 0
def PySem.W.Fast.tw5757231564012368164 : Nat := 0
def PySem.W.Fast.tw11174918254769628971 : Nat := 0
def PySem.W.Fast.tw5043384297969278090 : Nat := 0
def PySem.W.Fast.tw17912110032467110865 : Nat := 0
def PySem.W.Fast.tw7734484094678985433 : Nat := 0
def PySem.W.Fast.tw4639535538031006517 : Nat := 0
def PySem.W.Fast.tw4865882572630025542 : Nat := 0
def PySem.W.Fast.tw4718480073038750131 : Nat := 0
def PySem.W.Fast.tw9468958533260746155 : Nat := 0
def PySem.W.Fast.tw14901589766804473773 : Nat := 0
def PySem.W.Fast.tw17862208580029005609 : Nat := 0
def PySem.W.Fast.tw7155959478852959082 : Nat := 0
def PySem.W.Fast.tw11428527527965514788 : Nat := 0
def PySem.W.Fast.tw14999233661920200052 : Nat := 0
def PySem.W.Fast.tw13710406494980836594 : Nat := 0
def PySem.W.Fast.tw9824175983145511455 : Nat := 0
def PySem.W.Fast.tw106525859189176131 : Nat := 0
def PySem.W.Fast.tw8634217657232127068 : Nat := 0
def PySem.W.Fast.tw2632536960818436510 : Nat := 0
def PySem.W.Fast.tw13858771857753227154 : Nat := 0
def PySem.W.Fast.tw5889187452133338231 : Nat := 0
def PySem.W.Fast.tw2112407367899703849 : Nat := 0
def PySem.W.Fast.tw427648131043606879 : Nat := 0
def PySem.W.Fast.tw451053115647847571 : Nat := 0
def PySem.W.Fast.tw13878272526784584857 : Nat := 0
def PySem.W.Fast.tw18055220695835379827 : Nat := 0
def PySem.W.Fast.tw10858879974889231238 : Nat := 0
def PySem.W.Fast.tw1152148899367410062 : Nat := 0
def PySem.W.Fast.tw9629602633607320134 : Nat := 0
def PySem.W.Fast.tw10934324558506745243 : Nat := 0
def PySem.W.Fast.tw777568542645891796 : Nat := 0
def PySem.W.Fast.tw1784351839914974980 : Nat := 0
def PySem.W.Fast.tw1531433715364792446 : Nat := 0
def PySem.W.Fast.tw3975934718681758247 : Nat := 0
def PySem.W.Fast.tw12879303172458368967 : Nat := 0
def PySem.W.Fast.tw7938810919599848010 : Nat := 0
def PySem.W.Fast.tw3865101893779783193 : Nat := 0
def PySem.W.Fast.tw7920285725481427288 : Nat := 0
def PySem.W.Fast.tw10084059330714790683 : Nat := 0
def PySem.W.Fast.tw17374872330228028648 : Nat := 0
def PySem.W.Fast.tw15289586776765422679 : Nat := 0
def PySem.W.Fast.tw4278532063911003811 : Nat := 0
def PySem.W.Fast.tw13517915206259318654 : Nat := 0
def PySem.W.Fast.tw12034446391989002137 : Nat := 0
def PySem.W.Fast.tw1208893028272692346 : Nat := 0
def PySem.W.Fast.tw14845827270898175791 : Nat := 0
def PySem.W.Fast.tw5100180270324208531 : Nat := 0
def PySem.W.Fast.tw10703287612586549113 : Nat := 0
def PySem.W.Fast.tw8690531625688435868 : Nat := 0
def PySem.W.Fast.tw3457504167071608733 : Nat := 0
def PySem.W.Fast.tw4334195862786900710 : Nat := 0
def PySem.W.Fast.tw8118236597528935707 : Nat := 0
def PySem.W.Fast.tw2807866196306326721 : Nat := 0
def PySem.W.Fast.tw16882195291473001617 : Nat := 0
def PySem.W.Fast.tw2634111473477599544 : Nat := 0
def PySem.W.Fast.tw7840783875631257605 : Nat := 0
def PySem.W.Fast.tw8117271774239361433 : Nat := 0
def PySem.W.Fast.tw14756888976824324729 : Nat := 0
def PySem.W.Fast.tw11990582569568139994 : Nat := 0
def PySem.W.Fast.tw4339775669909363528 : Nat := 0
def PySem.W.Fast.tw1955402772002403894 : Nat := 0
def PySem.W.Fast.tw4794350310183570780 : Nat := 0
def PySem.W.Fast.tw8166856509767271295 : Nat := 0
def PySem.W.Fast.tw11007621876611417248 : Nat := 0
def PySem.W.Fast.tw4213511333754895725 : Nat := 0
def PySem.W.Fast.tw6707812950906849168 : Nat := 0
def PySem.W.Fast.tw11944005073224095766 : Nat := 0
def PySem.W.Fast.tw5938931592765007849 : Nat := 0
def PySem.W.Fast.tw9027783886566225172 : Nat := 0
def PySem.W.Fast.tw13663105057736969300 : Nat := 0
def PySem.W.Fast.tw11029855368578577329 : Nat := 0
def PySem.W.Fast.tw14310590894797706496 : Nat := 0
def PySem.W.Fast.tw10098854026509071454 : Nat := 0
def PySem.W.Fast.tw4882459103715712768 : Nat := 0
def PySem.W.Fast.tw1805597069273303822 : Nat := 0
def PySem.W.Fast.tw3490717843297829047 : Nat := 0
def PySem.W.Fast.tw15530020793342926138 : Nat := 0
def PySem.W.Fast.tw5615361029420704513 : Nat := 0
def PySem.W.Fast.tw17698017663235966989 : Nat := 0
def PySem.W.Fast.tw5973816915676279896 : Nat := 0
def PySem.W.Fast.tw7455224329008975228 : Nat := 0
def PySem.W.Fast.tw7540591871495751784 : Nat := 0
def PySem.W.Fast.tw9054638448811115634 : Nat := 0
def PySem.W.Fast.tw14615793441889384410 : Nat := 0
def PySem.W.Fast.tw18092204492719452839 : Nat := 0
def PySem.W.Fast.tw204775371375149916 : Nat := 0
def PySem.W.Fast.tw11376671110929253446 : Nat := 0
def PySem.W.Fast.tw7875197569339895243 : Nat := 0
def PySem.W.Fast.tw7612832082078095615 : Nat := 0
def PySem.W.Fast.tw13005624306421243331 : Nat := 0
def PySem.W.Fast.tw862504967709663543 : Nat := 0
def PySem.W.Fast.tw4590647412063763696 : Nat := 0
def PySem.W.Fast.tw17576237079615852009 : Nat := 0
def PySem.W.Fast.tw11002639713707850431 : Nat := 0
def PySem.W.Fast.tw8100176550009174167 : Nat := 0
def PySem.W.Fast.tw16882387744486213897 : Nat := 0
def PySem.W.Fast.tw3220866854769959138 : Nat := 0
def PySem.W.Fast.tw7185242354232429653 : Nat := 0
def PySem.W.Fast.tw6794351955178341593 : Nat := 0
def PySem.W.Fast.tw136564911954216845 : Nat := 0
def PySem.W.Fast.tw16696947988006957063 : Nat := 0
def PySem.W.Fast.tw13231527200193793947 : Nat := 0
def PySem.W.Fast.tw15084701995626444968 : Nat := 0
def PySem.W.Fast.tw2869710808643047323 : Nat := 0
def PySem.W.Fast.tw6719885090121201780 : Nat := 0
def PySem.W.Fast.tw13721745843728395964 : Nat := 0
def PySem.W.Fast.tw16507258001003307071 : Nat := 0
def PySem.W.Fast.tw3471681435139423910 : Nat := 0
def PySem.W.Fast.tw11517269588713685053 : Nat := 0
def PySem.W.Fast.tw14006141863017577986 : Nat := 0
def PySem.W.Fast.tw14012842760728833626 : Nat := 0
def PySem.W.Fast.tw6414110567140123759 : Nat := 0
def PySem.W.Fast.tw11455634253910247644 : Nat := 0
def PySem.W.Fast.tw12225902949623244854 : Nat := 0
def PySem.W.Fast.tw180493589625934791 : Nat := 0
def PySem.W.Fast.tw1422181669398371171 : Nat := 0
def PySem.W.Fast.tw15742824153219815866 : Nat := 0
def PySem.W.Fast.tw12240083640410455644 : Nat := 0
def PySem.W.Fast.tw230902768149341887 : Nat := 0
def PySem.W.Fast.tw14721015542213108179 : Nat := 0
def PySem.W.Fast.tw14418752917178540532 : Nat := 0
def PySem.W.Fast.tw1540660653375886967 : Nat := 0
def PySem.W.Fast.tw13246070645653610424 : Nat := 0
def PySem.W.Fast.tw16892821215801022416 : Nat := 0
def PySem.W.Fast.tw15381132694632077736 : Nat := 0
def PySem.W.Fast.tw6133221203389543654 : Nat := 0
def PySem.W.Fast.tw15910075871580988135 : Nat := 0
def PySem.W.Fast.tw11043515151568628689 : Nat := 0
def PySem.W.Fast.tw11463635347532988613 : Nat := 0
def PySem.W.Fast.tw5609327939938581101 : Nat := 0
def PySem.W.Fast.tw11636684395976858034 : Nat := 0
def PySem.W.Fast.tw4511049941194105441 : Nat := 0
def PySem.W.Fast.tw986858513162736229 : Nat := 0
def PySem.W.Fast.tw15555293260057862355 : Nat := 0
def PySem.W.Fast.tw8646903660834705037 : Nat := 0
def PySem.W.Fast.tw15372530611632368291 : Nat := 0
def PySem.W.Fast.tw7019062864818621754 : Nat := 0
def PySem.W.Fast.tw7927400334322279195 : Nat := 0
def PySem.W.Fast.tw3936180388584332818 : Nat := 0
def PySem.W.Fast.tw8222183260606905003 : Nat := 0
def PySem.W.Fast.tw6007052221602656226 : Nat := 0
def PySem.W.Fast.tw2173468565520234518 : Nat := 0
def PySem.W.Fast.tw8318092675074412118 : Nat := 0
def PySem.W.Fast.tw9662632240464503955 : Nat := 0
def PySem.W.Fast.tw6629715162975166018 : Nat := 0
def PySem.W.Fast.tw7077714921039524556 : Nat := 0
def PySem.W.Fast.tw11081998537823115199 : Nat := 0
def PySem.W.Fast.tw16270894244525208449 : Nat := 0
def PySem.W.Fast.tw13291619517024824655 : Nat := 0
def PySem.W.Fast.tw396631164736340152 : Nat := 0
def PySem.W.Fast.tw17228889531028089922 : Nat := 0
def PySem.W.Fast.tw5759044529291826326 : Nat := 0
def PySem.W.Fast.tw8547210928200516743 : Nat := 0
def PySem.W.Fast.tw15473616356218617757 : Nat := 0
def PySem.W.Fast.tw3611915704670537032 : Nat := 0
def PySem.W.Fast.tw15923102434881512462 : Nat := 0
def PySem.W.Fast.tw11511900027826464948 : Nat := 0
def PySem.W.Fast.tw11734570580622249815 : Nat := 0
def PySem.W.Fast.tw8285083564846189815 : Nat := 0
def PySem.W.Fast.tw17632290274444717201 : Nat := 0
def PySem.W.Fast.tw15649662622784997275 : Nat := 0
def PySem.W.Fast.tw7896276318841626002 : Nat := 0
def PySem.W.Fast.tw10865873924210476036 : Nat := 0
def PySem.W.Fast.tw11160093089831751248 : Nat := 0
def PySem.W.Fast.tw6716721106153824567 : Nat := 0
def PySem.W.Fast.tw2031898216771483644 : Nat := 0
def PySem.W.Fast.tw9680114862941309586 : Nat := 0
def PySem.W.Fast.tw11842378677756151071 : Nat := 0
def PySem.W.Fast.tw6143681861822023494 : Nat := 0
def PySem.W.Fast.tw18231534478603929552 : Nat := 0
def PySem.W.Fast.tw11599346710850929449 : Nat := 0
def PySem.W.Fast.tw14400848415114450605 : Nat := 0
def PySem.W.Fast.tw3718853920557790916 : Nat := 0
def PySem.W.Fast.tw1192765153443233496 : Nat := 0
def PySem.W.Fast.tw1958703505837977563 : Nat := 0
def PySem.W.Fast.tw3519654468902780463 : Nat := 0
def PySem.W.Fast.tw2001830846788800912 : Nat := 0
def PySem.W.Fast.tw18194586990755769382 : Nat := 0
def PySem.W.Fast.tw11735512441497425295 : Nat := 0
def PySem.W.Fast.tw13534698763767521522 : Nat := 0
def PySem.W.Fast.tw4970411655004270897 : Nat := 0
def PySem.W.Fast.tw16025167249442907050 : Nat := 0
def PySem.W.Fast.tw17500336795045194219 : Nat := 0
def PySem.W.Fast.tw16553747322865156965 : Nat := 0
def PySem.W.Fast.tw5939132192448732397 : Nat := 0
def PySem.W.Fast.tw1942831945557512748 : Nat := 0
def PySem.W.Fast.tw3351199357003763256 : Nat := 0
def PySem.W.Fast.tw18216545106470126518 : Nat := 0
def PySem.W.Fast.tw5871705327975410505 : Nat := 0
def PySem.W.Fast.tw5407750619670269221 : Nat := 0
def PySem.W.Fast.tw3250325789122514652 : Nat := 0
def PySem.W.Fast.tw18352762794768510869 : Nat := 0
def PySem.W.Fast.tw2609188485968398017 : Nat := 0
def PySem.W.Fast.tw5768550669200858009 : Nat := 0
def PySem.W.Fast.tw16925832899470287877 : Nat := 0
def PySem.W.Fast.tw169863207362198029 : Nat := 0
def PySem.W.Fast.tw1894528454259969465 : Nat := 0
def PySem.W.Fast.tw10882958196058902151 : Nat := 0
def PySem.W.Fast.tw13549989397602224387 : Nat := 0
def PySem.W.Fast.tw6483660429017359176 : Nat := 0
def PySem.W.Fast.tw15465746617268333370 : Nat := 0
def PySem.W.Fast.tw14340350739711690852 : Nat := 0
def PySem.W.Fast.tw475150314067339425 : Nat := 0
def PySem.W.Fast.tw3232904996551018469 : Nat := 0
def PySem.W.Fast.tw14162284138673126483 : Nat := 0
def PySem.W.Fast.tw12408516707506652280 : Nat := 0
def PySem.W.Fast.tw2922930897488167800 : Nat := 0
def PySem.W.Fast.tw115968359847497353 : Nat := 0
def PySem.W.Fast.tw17762538737667925404 : Nat := 0
def PySem.W.Fast.tw16860509985392002918 : Nat := 0
def PySem.W.Fast.tw10764905193334154136 : Nat := 0
def PySem.W.Fast.tw10046209207769294569 : Nat := 0
def PySem.W.Fast.tw8575198149890696355 : Nat := 0
def PySem.W.Fast.tw4312668514272780041 : Nat := 0
def PySem.W.Fast.tw3115380173317735539 : Nat := 0
def PySem.W.Fast.tw1055332621630969767 : Nat := 0
def PySem.W.Fast.tw2610726240694563766 : Nat := 0
def PySem.W.Fast.tw13698663512875326132 : Nat := 0
def PySem.W.Fast.tw4523672752257815840 : Nat := 0
def PySem.W.Fast.tw5003274179809412556 : Nat := 0
def PySem.W.Fast.tw2005638047975313331 : Nat := 0
def PySem.W.Fast.tw9471330681766013689 : Nat := 0
def PySem.W.Fast.tw15328719557740179046 : Nat := 0
def PySem.W.Fast.tw17265245243678674335 : Nat := 0
def PySem.W.Fast.tw609052633099061417 : Nat := 0
def PySem.W.Fast.tw13861035710192375546 : Nat := 0
def PySem.W.Fast.tw13719597522066306677 : Nat := 0
def PySem.W.Fast.tw11387247010280217428 : Nat := 0
def PySem.W.Fast.tw10416697012913851636 : Nat := 0
def PySem.W.Fast.tw6541774164510233814 : Nat := 0
def PySem.W.Fast.tw15499359250432145012 : Nat := 0
def PySem.W.Fast.tw71626355717393537 : Nat := 0
def PySem.W.Fast.tw3481899858829736497 : Nat := 0
def PySem.W.Fast.tw14590189297122720712 : Nat := 0
def PySem.W.Fast.tw4647783350739563114 : Nat := 0
def PySem.W.Fast.tw6875719322849564636 : Nat := 0
def PySem.W.Fast.tw15716444070712216229 : Nat := 0
def PySem.W.Fast.tw5880946701136503119 : Nat := 0
def PySem.W.Fast.tw15433238487785383977 : Nat := 0
def PySem.W.Fast.tw17144764756788381478 : Nat := 0
def PySem.W.Fast.tw6476700509618807682 : Nat := 0
def PySem.W.Fast.tw11561521151605436103 : Nat := 0
def PySem.W.Fast.tw15432063895108605633 : Nat := 0
def PySem.W.Fast.tw5929341210587830431 : Nat := 0
def PySem.W.Fast.tw1169615369780989394 : Nat := 0
def PySem.W.Fast.tw4291691538047466655 : Nat := 0
def PySem.W.Fast.tw15310965734008884627 : Nat := 0
def PySem.W.Fast.tw5176123497678924410 : Nat := 0
def PySem.W.Fast.tw15350740706055152535 : Nat := 0
def PySem.W.Fast.tw26352890443184130 : Nat := 0
def PySem.W.Fast.tw10496230162871273619 : Nat := 0
def PySem.W.Fast.tw13509195736531401662 : Nat := 0
def PySem.W.Fast.tw9548367159454252437 : Nat := 0
def PySem.W.Fast.tw4804746518667980457 : Nat := 0
def PySem.W.Fast.tw10916807889431692061 : Nat := 0
def PySem.W.Fast.tw10889894805513639630 : Nat := 0
def PySem.W.Fast.tw6310290895235460180 : Nat := 0
def PySem.W.Fast.tw7958119904611585962 : Nat := 0
def PySem.W.Fast.tw10648444499232048668 : Nat := 0
def PySem.W.Fast.tw278546636594161748 : Nat := 0
def PySem.W.Fast.tw1769616731959152148 : Nat := 0
def PySem.W.Fast.tw7454785094216303893 : Nat := 0
def PySem.W.Fast.tw10075214893706365201 : Nat := 0
def PySem.W.Fast.tw18147365336697047099 : Nat := 0
def PySem.W.Fast.tw14423751389700365358 : Nat := 0
def PySem.W.Fast.tw15241980138438011842 : Nat := 0
def PySem.W.Fast.tw5928957401305637479 : Nat := 0
def PySem.W.Fast.tw4408322396054242813 : Nat := 0
def PySem.W.Fast.tw11789945383423756650 : Nat := 0
def PySem.W.Fast.tw1821053779988993759 : Nat := 0
def PySem.W.Fast.tw14461191454850720875 : Nat := 0
def PySem.W.Fast.tw9791453597718013395 : Nat := 0
def PySem.W.Fast.tw13448991349769132413 : Nat := 0
def PySem.W.Fast.tw11860406575355320553 : Nat := 0
def PySem.W.Fast.tw10874989728398052073 : Nat := 0
def PySem.W.Fast.tw2873725318789503176 : Nat := 0
def PySem.W.Fast.tw5520396980828324440 : Nat := 0
def PySem.W.Fast.tw16957399608015153728 : Nat := 0
def PySem.W.Fast.tw2477398464721281056 : Nat := 0
def PySem.W.Fast.tw4620009385037381208 : Nat := 0
def PySem.W.Fast.tw8867338282385118065 : Nat := 0
def PySem.W.Fast.tw5540141749767346086 : Nat := 0
def PySem.W.Fast.tw7283273095482856591 : Nat := 0
def PySem.W.Fast.tw2497079116474907346 : Nat := 0
def PySem.W.Fast.tw4840856840198229065 : Nat := 0
def PySem.W.Fast.tw2392738811350084674 : Nat := 0
def PySem.W.Fast.tw6656225248328027693 : Nat := 0
def PySem.W.Fast.tw10519176362445235859 : Nat := 0
def PySem.W.Fast.tw16222047048340700944 : Nat := 0
def PySem.W.Fast.tw17338791360078539335 : Nat := 0
def PySem.W.Fast.tw12617615576176637415 : Nat := 0
def PySem.W.Fast.tw9405217965370248929 : Nat := 0
def PySem.W.Fast.tw5518604868936141872 : Nat := 0
def PySem.W.Fast.tw9153629155701082413 : Nat := 0
def PySem.W.Fast.tw4661685366698345214 : Nat := 0
def PySem.W.Fast.tw9212084733235307900 : Nat := 0
def PySem.W.Fast.tw1245951020877654208 : Nat := 0
def PySem.W.Fast.tw7295501939826087433 : Nat := 0
def PySem.W.Fast.tw15761561811849659315 : Nat := 0
def PySem.W.Fast.tw6567079750503070599 : Nat := 0
def PySem.W.Fast.tw12741430564514941445 : Nat := 0
def PySem.W.Fast.tw14317781297953395439 : Nat := 0
def PySem.W.Fast.tw3798459490824085037 : Nat := 0
def PySem.W.Fast.tw13818521121268664189 : Nat := 0
def PySem.W.Fast.tw14771147411811279386 : Nat := 0
def PySem.W.Fast.tw11154118865611001569 : Nat := 0
def PySem.W.Fast.tw15938383908681077050 : Nat := 0
def PySem.W.Fast.tw16628845023773548721 : Nat := 0
def PySem.W.Fast.tw16104056754406719060 : Nat := 0
def PySem.W.Fast.tw13858799457883907844 : Nat := 0
def PySem.W.Fast.tw1194659460372385582 : Nat := 0
def PySem.W.Fast.tw8933429085449538605 : Nat := 0
def PySem.W.Fast.tw2340832009192100869 : Nat := 0
def PySem.W.Fast.tw13187165186054712618 : Nat := 0
def PySem.W.Fast.tw9190665107884296444 : Nat := 0
def PySem.W.Fast.tw536266875227593896 : Nat := 0
def PySem.W.Fast.tw13487540670409084773 : Nat := 0
def PySem.W.Fast.tw5799477183622412077 : Nat := 0
def PySem.W.Fast.tw12892838766208904500 : Nat := 0
def PySem.W.Fast.tw7508920737890235151 : Nat := 0
def PySem.W.Fast.tw979737014513872707 : Nat := 0
def PySem.W.Fast.tw3605893978412406086 : Nat := 0
def PySem.W.Fast.tw15202433673354078239 : Nat := 0
def PySem.W.Fast.tw7377685551060906452 : Nat := 0
def PySem.W.Fast.tw17944429349440057791 : Nat := 0
def PySem.W.Fast.tw15142062724406421743 : Nat := 0
def PySem.W.Fast.tw1386655326795107128 : Nat := 0
def PySem.W.Fast.tw9575131497323292741 : Nat := 0
def PySem.W.Fast.tw9416301716097717302 : Nat := 0
def PySem.W.Fast.tw12649896691963384646 : Nat := 0
def PySem.W.Fast.tw1623631161612836269 : Nat := 0
def PySem.W.Fast.tw14529864153941469846 : Nat := 0
def PySem.W.Fast.tw16365762788655460509 : Nat := 0
def PySem.W.Fast.tw1550220967042043336 : Nat := 0
def PySem.W.Fast.tw15296752432756583998 : Nat := 0
def PySem.W.Fast.tw3824805343524908140 : Nat := 0
def PySem.W.Fast.tw9675648003936074774 : Nat := 0
def PySem.W.Fast.tw14895314148662475162 : Nat := 0
def PySem.W.Fast.tw15295619534814487718 : Nat := 0
def PySem.W.Fast.tw17422035307998616676 : Nat := 0
def PySem.W.Fast.tw1230180650222847352 : Nat := 0
def PySem.W.Fast.tw4811976904209580724 : Nat := 0
def PySem.W.Fast.tw3816390891275192479 : Nat := 0
def PySem.W.Fast.tw7005772782966460996 : Nat := 0
def PySem.W.Fast.tw13081544956039700688 : Nat := 0
def PySem.W.Fast.tw9440460874006320656 : Nat := 0
def PySem.W.Fast.tw17182982061401383308 : Nat := 0
def PySem.W.Fast.tw5195485872184470636 : Nat := 0
def PySem.W.Fast.tw9662411743267272758 : Nat := 0
def PySem.W.Fast.tw14008127320724572226 : Nat := 0
def PySem.W.Fast.tw18361996208905984300 : Nat := 0
def PySem.W.Fast.tw6987830461579748243 : Nat := 0
def PySem.W.Fast.tw9909475953166384756 : Nat := 0
def PySem.W.Fast.tw7380392047184944044 : Nat := 0
def PySem.W.Fast.tw12874750735879670802 : Nat := 0
def PySem.W.Fast.tw5383421752824764850 : Nat := 0
def PySem.W.Fast.tw7102751200140638463 : Nat := 0
def PySem.W.Fast.tw10777130866858291901 : Nat := 0
def PySem.W.Fast.tw16003053081151641273 : Nat := 0
def PySem.W.Fast.tw16410972726063106758 : Nat := 0
def PySem.W.Fast.tw17516075722091264595 : Nat := 0
def PySem.W.Fast.tw12556938782723281502 : Nat := 0
def PySem.W.Fast.tw17821852535532544927 : Nat := 0
def PySem.W.Fast.tw6678740066559030862 : Nat := 0
def PySem.W.Fast.tw3829999318026023720 : Nat := 0
def PySem.W.Fast.tw150062442463121186 : Nat := 0
def PySem.W.Fast.tw15246788269248978932 : Nat := 0
def PySem.W.Fast.tw5951244493249657261 : Nat := 0
def PySem.W.Fast.tw13351460146287210879 : Nat := 0
def PySem.W.Fast.tw12384142111494976847 : Nat := 0
def PySem.W.Fast.tw17894286031136557644 : Nat := 0
def PySem.W.Fast.tw16733745078512616365 : Nat := 0
def PySem.W.Fast.tw10305873544052195264 : Nat := 0
def PySem.W.Fast.tw9151166157753984801 : Nat := 0
def PySem.W.Fast.tw10661768796783130352 : Nat := 0
def PySem.W.Fast.tw17486717482135095991 : Nat := 0
def PySem.W.Fast.tw3345701902280447007 : Nat := 0
def PySem.W.Fast.tw3042022546830504062 : Nat := 0
def PySem.W.Fast.tw2901841700293522844 : Nat := 0
def PySem.W.Fast.tw15249289928784526984 : Nat := 0
def PySem.W.Fast.tw8861510033462197389 : Nat := 0
def PySem.W.Fast.tw5034564695697652660 : Nat := 0
def PySem.W.Fast.tw6803393945799094960 : Nat := 0
def PySem.W.Fast.tw13879007381875831335 : Nat := 0
def PySem.W.Fast.tw9153249266998514838 : Nat := 0
def PySem.W.Fast.tw6339311421899167584 : Nat := 0
def PySem.W.Fast.tw11136328219345524798 : Nat := 0
def PySem.W.Fast.tw14649157595600454214 : Nat := 0
def PySem.W.Fast.tw12967332967297763306 : Nat := 0
def PySem.W.Fast.tw6067416065471235281 : Nat := 0
def PySem.W.Fast.tw11442380600618783392 : Nat := 0
def PySem.W.Fast.tw5346210073343315129 : Nat := 0
def PySem.W.Fast.tw14174017055473909158 : Nat := 0
def PySem.W.Fast.tw6570508623965457169 : Nat := 0
def PySem.W.Fast.tw4835466013457771181 : Nat := 0
def PySem.W.Fast.tw10272717666759930390 : Nat := 0
def PySem.W.Fast.tw17173004013110518246 : Nat := 0
def PySem.W.Fast.tw17435278899473570088 : Nat := 0
def PySem.W.Fast.tw519379588251288125 : Nat := 0
def PySem.W.Fast.tw12949561718462729551 : Nat := 0
def PySem.W.Fast.tw6384776264635079679 : Nat := 0
def PySem.W.Fast.tw15852797336630927376 : Nat := 0
def PySem.W.Fast.tw12164532470101361045 : Nat := 0
def PySem.W.Fast.tw3651621514236715086 : Nat := 0
def PySem.W.Fast.tw7027577991743354681 : Nat := 0
def PySem.W.Fast.tw4724170133429402143 : Nat := 0
def PySem.W.Fast.tw17791499439138299526 : Nat := 0
def PySem.W.Fast.tw93593904759583896 : Nat := 0
def PySem.W.Fast.tw17022213334317600730 : Nat := 0
def PySem.W.Fast.tw11894525339854121462 : Nat := 0
def PySem.W.Fast.tw11853521063098691123 : Nat := 0
def PySem.W.Fast.tw12558962458244011765 : Nat := 0
def PySem.W.Fast.tw4608063487055213337 : Nat := 0
def PySem.W.Fast.tw14851450732435960933 : Nat := 0
def PySem.W.Fast.tw12012674941761001838 : Nat := 0
def PySem.W.Fast.tw7629183112215411811 : Nat := 0
def PySem.W.Fast.tw4626903235876573241 : Nat := 0
def PySem.W.Fast.tw9627594984851243516 : Nat := 0
def PySem.W.Fast.tw8718493846803972637 : Nat := 0
def PySem.W.Fast.tw12695137239209312270 : Nat := 0
def PySem.W.Fast.tw14210395390174291699 : Nat := 0
def PySem.W.Fast.tw6261979868668718325 : Nat := 0
def PySem.W.Fast.tw12344880887841530462 : Nat := 0
def PySem.W.Fast.tw6967610277379450702 : Nat := 0
def PySem.W.Fast.tw11099586879577867946 : Nat := 0
def PySem.W.Fast.tw16175758067983685339 : Nat := 0
def PySem.W.Fast.tw597491639182613860 : Nat := 0
def PySem.W.Fast.tw8739503072086359993 : Nat := 0
def PySem.W.Fast.tw6804096130871531307 : Nat := 0
def PySem.W.Fast.tw5196409647639271325 : Nat := 0
def PySem.W.Fast.tw14081508940185138497 : Nat := 0
def PySem.W.Fast.tw5317886741802100805 : Nat := 0
def PySem.W.Fast.tw12187281464303878 : Nat := 0
def PySem.W.Fast.tw8277821097411631151 : Nat := 0
def PySem.W.Fast.tw4848345463758528447 : Nat := 0
def PySem.W.Fast.tw17880317974467873338 : Nat := 0
def PySem.W.Fast.tw602476706368154613 : Nat := 0
def PySem.W.Fast.tw4083632137879396276 : Nat := 0
def PySem.W.Fast.tw11343521962328817057 : Nat := 0
def PySem.W.Fast.tw16564557549284067708 : Nat := 0
def PySem.W.Fast.tw8939399124148313976 : Nat := 0
def PySem.W.Fast.tw16746108555203007492 : Nat := 0
def PySem.W.Fast.tw9236859163898701216 : Nat := 0
def PySem.W.Fast.tw3746777192489686235 : Nat := 0
def PySem.W.Fast.tw1602534095243123086 : Nat := 0
def PySem.W.Fast.tw16241287375718394646 : Nat := 0
def PySem.W.Fast.tw2689436188670881744 : Nat := 0
def PySem.W.Fast.tw9668651188045568031 : Nat := 0
def PySem.W.Fast.tw9074796443355995109 : Nat := 0
def PySem.W.Fast.tw7340102197119351494 : Nat := 0
def PySem.W.Fast.tw15558656629151183610 : Nat := 0
def PySem.W.Fast.tw15346502705619639381 : Nat := 0
def PySem.W.Fast.tw15385013226883318451 : Nat := 0
def PySem.W.Fast.tw3968101641267729868 : Nat := 0
def PySem.W.Fast.tw14712143574787357628 : Nat := 0
def PySem.W.Fast.tw6795621698864398517 : Nat := 0
def PySem.W.Fast.tw13383103580489059524 : Nat := 0
def PySem.W.Fast.tw1017964498613294847 : Nat := 0
def PySem.W.Fast.tw6999211974271858818 : Nat := 0
def PySem.W.Fast.tw13067715116655915551 : Nat := 0
def PySem.W.Fast.tw4571335651668536886 : Nat := 0
def PySem.W.Fast.tw7719267418708184298 : Nat := 0
def PySem.W.Fast.tw17467380877524141575 : Nat := 0
def PySem.W.Fast.tw5036996221978464740 : Nat := 0
def PySem.W.Fast.tw11585128552966933151 : Nat := 0
def PySem.W.Fast.tw6286724624609886568 : Nat := 0
def PySem.W.Fast.tw12167018953657128863 : Nat := 0
def PySem.W.Fast.tw17067955130510907702 : Nat := 0
def PySem.W.Fast.tw7453707206181155717 : Nat := 0
def PySem.W.Fast.tw4630684731679595739 : Nat := 0
def PySem.W.Fast.tw11884210081622052737 : Nat := 0
def PySem.W.Fast.tw7253810059495042110 : Nat := 0
def PySem.W.Fast.tw9251401082168870721 : Nat := 0
def PySem.W.Fast.tw16995059462800185884 : Nat := 0
def PySem.W.Fast.tw7373660030426221503 : Nat := 0
def PySem.W.Fast.tw6161371647642337463 : Nat := 0
def PySem.W.Fast.tw13446054181373884907 : Nat := 0
def PySem.W.Fast.tw15965008036212458681 : Nat := 0
def PySem.W.Fast.tw8636299460722581649 : Nat := 0
def PySem.W.Fast.tw15371474279932271608 : Nat := 0
def PySem.W.Fast.tw4486799286972456266 : Nat := 0
def PySem.W.Fast.tw11490946131758643258 : Nat := 0
def PySem.W.Fast.tw16608158938671627668 : Nat := 0
def PySem.W.Fast.tw13520299079326000314 : Nat := 0
def PySem.W.Fast.tw10817859148102867126 : Nat := 0
def PySem.W.Fast.tw11810284055772159319 : Nat := 0
def PySem.W.Fast.tw5630631533251886910 : Nat := 0
def PySem.W.Fast.tw12835115292128880684 : Nat := 0
def PySem.W.Fast.tw9974310646514774238 : Nat := 0
def PySem.W.Fast.tw16873354567510088290 : Nat := 0
def PySem.W.Fast.tw7088252045080689369 : Nat := 0
def PySem.W.Fast.tw8792449757843361546 : Nat := 0
def PySem.W.Fast.tw16334658975485534094 : Nat := 0
def PySem.W.Fast.tw15412391698400505724 : Nat := 0
def PySem.W.Fast.tw4871330716538299033 : Nat := 0
def PySem.W.Fast.tw13904578221653066359 : Nat := 0
def PySem.W.Fast.tw15092488964424812373 : Nat := 0
def PySem.W.Fast.tw7525874841011855604 : Nat := 0
def PySem.W.Fast.tw7936845954559971534 : Nat := 0
def PySem.W.Fast.tw3571993614539990406 : Nat := 0
def PySem.W.Fast.tw14631587838448006456 : Nat := 0
def PySem.W.Fast.tw15574917191935040196 : Nat := 0
def PySem.W.Fast.tw13246953104116892407 : Nat := 0
def PySem.W.Fast.tw9849383222651516145 : Nat := 0
def PySem.W.Fast.tw15773363903915695788 : Nat := 0
def PySem.W.Fast.tw10163341057527379502 : Nat := 0
def PySem.W.Fast.tw13629335441980831514 : Nat := 0
def PySem.W.Fast.tw757816290607086880 : Nat := 0
def PySem.W.Fast.tw3843790794465311667 : Nat := 0
def PySem.W.Fast.tw553697358937343260 : Nat := 0
def PySem.W.Fast.tw8931568890227760669 : Nat := 0
def PySem.W.Fast.tw5860097134916745444 : Nat := 0
def PySem.W.Fast.tw919007449689684478 : Nat := 0
def PySem.W.Fast.tw6044143688248469376 : Nat := 0
def PySem.W.Fast.tw16858050255331925812 : Nat := 0
def PySem.W.Fast.tw3102172600842327845 : Nat := 0
def PySem.W.Fast.tw18167833234201992627 : Nat := 0
def PySem.W.Fast.tw966224470732991233 : Nat := 0
def PySem.W.Fast.tw15192058884569309117 : Nat := 0
def PySem.W.Fast.tw1791189305224477667 : Nat := 0
def PySem.W.Fast.tw384933997376247371 : Nat := 0
def PySem.W.Fast.tw15782086410146977093 : Nat := 0
def PySem.W.Fast.tw13676633981515104202 : Nat := 0
def PySem.W.Fast.tw14255644238229337347 : Nat := 0
def PySem.W.Fast.tw13769203505805170314 : Nat := 0
def PySem.W.Fast.tw1376350990883782235 : Nat := 0
def PySem.W.Fast.tw9448487438878282735 : Nat := 0
def PySem.W.Fast.tw13981874262067676753 : Nat := 0
def PySem.W.Fast.tw3156221390688041654 : Nat := 0
def PySem.W.Fast.tw461193964882280077 : Nat := 0
def PySem.W.Fast.tw11353856823841744397 : Nat := 0
def PySem.W.Fast.tw14223602405075494098 : Nat := 0
def PySem.W.Fast.tw9152633678093790276 : Nat := 0
def PySem.W.Fast.tw8875677072551331931 : Nat := 0
def PySem.W.Fast.tw1679497002222260505 : Nat := 0
def PySem.W.Fast.tw5554629664087852465 : Nat := 0
def PySem.W.Fast.tw10599506081834770438 : Nat := 0
def PySem.W.Fast.tw1094757144469209068 : Nat := 0
def PySem.W.Fast.tw13674958622560820846 : Nat := 0
def PySem.W.Fast.tw7417525921702619424 : Nat := 0
def PySem.W.Fast.tw14918892558323208755 : Nat := 0
def PySem.W.Fast.tw17222040412866562710 : Nat := 0
def PySem.W.Fast.tw11332503261274157357 : Nat := 0
def PySem.W.Fast.tw7352397641456352740 : Nat := 0
def PySem.W.Fast.tw12646397371664532718 : Nat := 0
def PySem.W.Fast.tw12777660392548145949 : Nat := 0
def PySem.W.Fast.tw1239551015394545710 : Nat := 0
def PySem.W.Fast.tw2265743443729828552 : Nat := 0
def PySem.W.Fast.tw1737333306790007129 : Nat := 0
def PySem.W.Fast.tw17033987994137154149 : Nat := 0
def PySem.W.Fast.tw15788065951278669756 : Nat := 0
def PySem.W.Fast.tw8800156400653273149 : Nat := 0
def PySem.W.Fast.tw12246903537603491749 : Nat := 0
def PySem.W.Fast.tw4670371716383183704 : Nat := 0
def PySem.W.Fast.tw10940471791213253149 : Nat := 0
def PySem.W.Fast.tw15378102778051927762 : Nat := 0
def PySem.W.Fast.tw16932274824904085831 : Nat := 0
def PySem.W.Fast.tw8784464534670515299 : Nat := 0
def PySem.W.Fast.tw8724123632296202063 : Nat := 0
def PySem.W.Fast.tw5454726928673196284 : Nat := 0
def PySem.W.Fast.tw4162839064442612934 : Nat := 0
def PySem.W.Fast.tw17089669276829322937 : Nat := 0
def PySem.W.Fast.tw6614794840729796479 : Nat := 0
def PySem.W.Fast.tw14024186367478075445 : Nat := 0
def PySem.W.Fast.tw6763980332409032940 : Nat := 0
def PySem.W.Fast.tw10202458963291319955 : Nat := 0
def PySem.W.Fast.tw12297434627534409902 : Nat := 0
def PySem.W.Fast.tw1188309867323592522 : Nat := 0
def PySem.W.Fast.tw10609300013662201795 : Nat := 0
def PySem.W.Fast.tw3359889801276640651 : Nat := 0
def PySem.W.Fast.tw4938674478570134913 : Nat := 0
def PySem.W.Fast.tw18203170594154986417 : Nat := 0
def PySem.W.Fast.tw7305495326246599678 : Nat := 0
def PySem.W.Fast.tw12933926101655849683 : Nat := 0
def PySem.W.Fast.tw1563120350269979218 : Nat := 0
def PySem.W.Fast.tw8514175139757373102 : Nat := 0
def PySem.W.Fast.tw10996057643242196172 : Nat := 0
def PySem.W.Fast.tw5229036882043441887 : Nat := 0
def PySem.W.Fast.tw11180189296748853449 : Nat := 0
def PySem.W.Fast.tw7827782791199143768 : Nat := 0
def PySem.W.Fast.tw16627291481982564911 : Nat := 0
def PySem.W.Fast.tw4995498142716480764 : Nat := 0
def PySem.W.Fast.tw5330613882186277076 : Nat := 0
def PySem.W.Fast.tw17220033442822081648 : Nat := 0
def PySem.W.Fast.tw1289800679849012023 : Nat := 0
def PySem.W.Fast.tw8209596779640765940 : Nat := 0
def PySem.W.Fast.tw125481121027212961 : Nat := 0
def PySem.W.Fast.tw1719508348256076771 : Nat := 0
def PySem.W.Fast.tw10002105220109497334 : Nat := 0
def PySem.W.Fast.tw2762362178838194666 : Nat := 0
def PySem.W.Fast.tw3589556410099928374 : Nat := 0
def PySem.W.Fast.tw5029225097503562638 : Nat := 0
def PySem.W.Fast.tw6807332298574327143 : Nat := 0
def PySem.W.Fast.tw15429800798294359964 : Nat := 0
def PySem.W.Fast.tw13822088776843005150 : Nat := 0
def PySem.W.Fast.tw5410133671652724086 : Nat := 0
def PySem.W.Fast.tw13430725421854349872 : Nat := 0
def PySem.W.Fast.tw15947647533043892549 : Nat := 0
def PySem.W.Fast.tw2699397473911146067 : Nat := 0
def PySem.W.Fast.tw4973697315662834518 : Nat := 0
def PySem.W.Fast.tw4111173892130363917 : Nat := 0
def PySem.W.Fast.tw8627954111245933080 : Nat := 0
def PySem.W.Fast.tw2954167962872516368 : Nat := 0
def PySem.W.Fast.tw6110149520302414945 : Nat := 0
def PySem.W.Fast.tw11986022753559629014 : Nat := 0
def PySem.W.Fast.tw17853048313635035195 : Nat := 0
def PySem.W.Fast.tw4081157672585752779 : Nat := 0
def PySem.W.Fast.tw17984045818700261835 : Nat := 0
def PySem.W.Fast.tw206693563646563637 : Nat := 0
def PySem.W.Fast.tw15522370827386282307 : Nat := 0
def PySem.W.Fast.tw667707581668116865 : Nat := 0
def PySem.W.Fast.tw7040037791842771660 : Nat := 0
def PySem.W.Fast.tw12120018517018478834 : Nat := 0
def PySem.W.Fast.tw9165159407665888555 : Nat := 0
def PySem.W.Fast.tw13669167759438709282 : Nat := 0
def PySem.W.Fast.tw4379156115128815026 : Nat := 0
def PySem.W.Fast.tw14732597450548719183 : Nat := 0
def PySem.W.Fast.tw4443085651830238628 : Nat := 0
def PySem.W.Fast.tw1126571565103241187 : Nat := 0
def PySem.W.Fast.tw11992991865484632414 : Nat := 0
def PySem.W.Fast.tw4375119485437717195 : Nat := 0
def PySem.W.Fast.tw4687267060485986130 : Nat := 0
def PySem.W.Fast.tw6056249086452426697 : Nat := 0
def PySem.W.Fast.tw522601360268613594 : Nat := 0
def PySem.W.Fast.tw5567682421403438260 : Nat := 0
def PySem.W.Fast.tw7628443571683920578 : Nat := 0
def PySem.W.Fast.tw12188230934063884121 : Nat := 0
def PySem.W.Fast.tw6509931719209578027 : Nat := 0
def PySem.W.Fast.tw4687615018349205730 : Nat := 0
def PySem.W.Fast.tw12778365397175359596 : Nat := 0
def PySem.W.Fast.tw5864323115087405691 : Nat := 0
def PySem.W.Fast.tw3382099871573601053 : Nat := 0
def PySem.W.Fast.tw8132393366267492560 : Nat := 0
def PySem.W.Fast.tw1796627542096888406 : Nat := 0
def PySem.W.Fast.tw17026072723103994110 : Nat := 0
def PySem.W.Fast.tw4425974628930000213 : Nat := 0
def PySem.W.Fast.tw6200659691982127667 : Nat := 0
def PySem.W.Fast.tw13263524297601460770 : Nat := 0
def PySem.W.Fast.tw5203809426431557201 : Nat := 0
def PySem.W.Fast.tw6086453601602683313 : Nat := 0
def PySem.W.Fast.tw10843723903904498969 : Nat := 0
def PySem.W.Fast.tw3488470240949689137 : Nat := 0
def PySem.W.Fast.tw4986972112337162651 : Nat := 0
def PySem.W.Fast.tw16186725483054825519 : Nat := 0
def PySem.W.Fast.tw6965325571636898894 : Nat := 0
def PySem.W.Fast.tw15843024013066611141 : Nat := 0
def PySem.W.Fast.tw2289296089360379082 : Nat := 0
def PySem.W.Fast.tw11173220555370691652 : Nat := 0
def PySem.W.Fast.tw16648343867208170264 : Nat := 0
def PySem.W.Fast.tw6069428142754620004 : Nat := 0
def PySem.W.Fast.tw17074104270781945704 : Nat := 0
def PySem.W.Fast.tw14991252589678582414 : Nat := 0
def PySem.W.Fast.tw13772367398555319757 : Nat := 0
def PySem.W.Fast.tw10821991083902169532 : Nat := 0
def PySem.W.Fast.tw17157228608988914199 : Nat := 0
def PySem.W.Fast.tw10402357067825850338 : Nat := 0
def PySem.W.Fast.tw3002805957777667721 : Nat := 0
def PySem.W.Fast.tw8603422745813741182 : Nat := 0
def PySem.W.Fast.tw17718630075230934035 : Nat := 0
def PySem.W.Fast.tw933763904584347870 : Nat := 0
def PySem.W.Fast.tw14300582979275613226 : Nat := 0
def PySem.W.Fast.tw12138219662759702510 : Nat := 0
def PySem.W.Fast.tw2447695634029524055 : Nat := 0
def PySem.W.Fast.tw11977357817773325868 : Nat := 0
def PySem.W.Fast.tw7791917626914395615 : Nat := 0
def PySem.W.Fast.tw6018619880520818853 : Nat := 0
def PySem.W.Fast.tw14063206394764586928 : Nat := 0
def PySem.W.Fast.tw18154995319247675100 : Nat := 0
def PySem.W.Fast.tw4986645034939883956 : Nat := 0
def PySem.W.Fast.tw3194605396156866578 : Nat := 0
def PySem.W.Fast.tw11878829487546599205 : Nat := 0
def PySem.W.Fast.tw2968277502787775795 : Nat := 0
def PySem.W.Fast.tw13097925636117473192 : Nat := 0
def PySem.W.Fast.tw7560813039482264907 : Nat := 0
def PySem.W.Fast.tw8297992000990199959 : Nat := 0
def PySem.W.Fast.tw14737589285512920386 : Nat := 0
def PySem.W.Fast.tw12222372019277678817 : Nat := 0
def PySem.W.Fast.tw7303197818296621482 : Nat := 0
def PySem.W.Fast.tw9110424488527471071 : Nat := 0
def PySem.W.Fast.tw6777636340766777457 : Nat := 0
def PySem.W.Fast.tw7818454215088434967 : Nat := 0
def PySem.W.Fast.tw11400519508938498702 : Nat := 0
def PySem.W.Fast.tw5642461219402840106 : Nat := 0
def PySem.W.Fast.tw2698070625786478289 : Nat := 0
def PySem.W.Fast.tw4752797080276754406 : Nat := 0
def PySem.W.Fast.tw3052761834134241756 : Nat := 0
def PySem.W.Fast.tw13741182711904695282 : Nat := 0
def PySem.W.Fast.tw17588131190406359318 : Nat := 0
def PySem.W.Fast.tw13228734757729476127 : Nat := 0
def PySem.W.Fast.tw18165986443335561602 : Nat := 0
def PySem.W.Fast.tw4307855210678086039 : Nat := 0
def PySem.W.Fast.tw12560306024945620930 : Nat := 0
def PySem.W.Fast.tw13459794046282209191 : Nat := 0
def PySem.W.Fast.tw651863412060818597 : Nat := 0
def PySem.W.Fast.tw15100586593082786863 : Nat := 0
def PySem.W.Fast.tw13931048085531061140 : Nat := 0
def PySem.W.Fast.tw15836448149851060664 : Nat := 0
def PySem.W.Fast.tw8422214769584301969 : Nat := 0
def PySem.W.Fast.tw14170937792321643980 : Nat := 0
def PySem.W.Fast.tw10586221484454641354 : Nat := 0
def PySem.W.Fast.tw15415249684068843999 : Nat := 0
def PySem.W.Fast.tw1304038818897939139 : Nat := 0
def PySem.W.Fast.tw7727231959766351250 : Nat := 0
def PySem.W.Fast.tw4219938261023093188 : Nat := 0
def PySem.W.Fast.tw9371005332314511325 : Nat := 0
def PySem.W.Fast.tw17930460245469527457 : Nat := 0
def PySem.W.Fast.tw3840109461881055114 : Nat := 0
def PySem.W.Fast.tw6095574135847248157 : Nat := 0
def PySem.W.Fast.tw8753046616581707586 : Nat := 0
def PySem.W.Fast.tw10961914139683998196 : Nat := 0
def PySem.W.Fast.tw1325877764069048104 : Nat := 0
def PySem.W.Fast.tw15685782587162373769 : Nat := 0
def PySem.W.Fast.tw5076214684216752968 : Nat := 0
def PySem.W.Fast.tw15045921493753526168 : Nat := 0
def PySem.W.Fast.tw10474959177053640264 : Nat := 0
def PySem.W.Fast.tw16734255201633888661 : Nat := 0
def PySem.W.Fast.tw4389473425476157977 : Nat := 0
def PySem.W.Fast.tw10258795650298174874 : Nat := 0
def PySem.W.Fast.tw15155056498420080543 : Nat := 0
def PySem.W.Fast.tw12721796316908339721 : Nat := 0
def PySem.W.Fast.tw17101257457217638723 : Nat := 0
def PySem.W.Fast.tw16912782666902085726 : Nat := 0
def PySem.W.Fast.tw2723247967636603995 : Nat := 0
def PySem.W.Fast.tw16009354917283068939 : Nat := 0
def PySem.W.Fast.tw12559425229519311903 : Nat := 0
def PySem.W.Fast.tw9455057876714452005 : Nat := 0
def PySem.W.Fast.tw6586737189640779195 : Nat := 0
def PySem.W.Fast.tw6780108735785723444 : Nat := 0
def PySem.W.Fast.tw6130256502436219597 : Nat := 0
def PySem.W.Fast.tw6655053280171364412 : Nat := 0
def PySem.W.Fast.tw9925612309172237226 : Nat := 0
def PySem.W.Fast.tw10662851398272884530 : Nat := 0
def PySem.W.Fast.tw14806149586966819980 : Nat := 0
def PySem.W.Fast.tw13521190652605580767 : Nat := 0
def PySem.W.Fast.tw14734374715635783692 : Nat := 0
def PySem.W.Fast.tw4857698122442542622 : Nat := 0
def PySem.W.Fast.tw754847742688735384 : Nat := 0
def PySem.W.Fast.tw3821926754771023360 : Nat := 0
def PySem.W.Fast.tw13802484108177044558 : Nat := 0
def PySem.W.Fast.tw10141310907610256473 : Nat := 0
def PySem.W.Fast.tw2081749369373456814 : Nat := 0
def PySem.W.Fast.tw7412764121681201221 : Nat := 0
def PySem.W.Fast.tw1795958087424611496 : Nat := 0
def PySem.W.Fast.tw6454677485676537759 : Nat := 0
def PySem.W.Fast.tw14641438846579556361 : Nat := 0
def PySem.W.Fast.tw6057919009333400290 : Nat := 0
def PySem.W.Fast.tw963064539108693295 : Nat := 0
def PySem.W.Fast.tw13849559128275302474 : Nat := 0
def PySem.W.Fast.tw928366579592066472 : Nat := 0
def PySem.W.Fast.tw15849949744550252729 : Nat := 0
def PySem.W.Fast.tw4652064728100214820 : Nat := 0
def PySem.W.Fast.tw13647834349553943222 : Nat := 0
def PySem.W.Fast.tw5052979947713366032 : Nat := 0
def PySem.W.Fast.tw2031344999664121421 : Nat := 0
def PySem.W.Fast.tw2317349583493910996 : Nat := 0
def PySem.W.Fast.tw12172672593629311370 : Nat := 0
def PySem.W.Fast.tw5377425697669168563 : Nat := 0
def PySem.W.Fast.tw5270255549994610397 : Nat := 0
def PySem.W.Fast.tw14023722198816794474 : Nat := 0
def PySem.W.Fast.tw8581525914890424891 : Nat := 0
def PySem.W.Fast.tw16630779321556771112 : Nat := 0
def PySem.W.Fast.tw2836703369359132748 : Nat := 0
def PySem.W.Fast.tw8063161625760359215 : Nat := 0
def PySem.W.Fast.tw2153678449312103768 : Nat := 0
def PySem.W.Fast.tw16062768422386538854 : Nat := 0
def PySem.W.Fast.tw18068196071648357173 : Nat := 0
def PySem.W.Fast.tw554372135818681467 : Nat := 0
def PySem.W.Fast.tw14284480860987022252 : Nat := 0
def PySem.W.Fast.tw5392945596116327681 : Nat := 0
def PySem.W.Fast.tw10665070929691590559 : Nat := 0
def PySem.W.Fast.tw16425092962167240322 : Nat := 0
def PySem.W.Fast.tw2392893015689197389 : Nat := 0
def PySem.W.Fast.tw12765992511451903023 : Nat := 0
def PySem.W.Fast.tw4368221781289691007 : Nat := 0
def PySem.W.Fast.tw11294026664420444628 : Nat := 0
def PySem.W.Fast.tw10582183406647454659 : Nat := 0
def PySem.W.Fast.tw1499838478189776745 : Nat := 0
def PySem.W.Fast.tw4475067880144797269 : Nat := 0
def PySem.W.Fast.tw2490827480079881788 : Nat := 0
def PySem.W.Fast.tw17032566513904655743 : Nat := 0
def PySem.W.Fast.tw12381539064896895825 : Nat := 0
def PySem.W.Fast.tw15148859105871397109 : Nat := 0
def PySem.W.Fast.tw7339939482701186485 : Nat := 0
def PySem.W.Fast.tw6963529163165020375 : Nat := 0
def PySem.W.Fast.tw6312387045630260954 : Nat := 0
def PySem.W.Fast.tw9207420808414028750 : Nat := 0
def PySem.W.Fast.tw208081109163132762 : Nat := 0
def PySem.W.Fast.tw3731182290591320389 : Nat := 0
def PySem.W.Fast.tw1479852863887100986 : Nat := 0
def PySem.W.Fast.tw1625985839421694254 : Nat := 0
def PySem.W.Fast.tw17427629102003356994 : Nat := 0
def PySem.W.Fast.tw12776076780625512834 : Nat := 0
def PySem.W.Fast.tw15570143849787927842 : Nat := 0
def PySem.W.Fast.tw5089190645750001475 : Nat := 0
def PySem.W.Fast.tw6091366934118784591 : Nat := 0
def PySem.W.Fast.tw12800574849811883357 : Nat := 0
def PySem.W.Fast.tw2096704394093851318 : Nat := 0
def PySem.W.Fast.tw12775606022706585835 : Nat := 0
def PySem.W.Fast.tw11461323218733163893 : Nat := 0
def PySem.W.Fast.tw8468950086845840616 : Nat := 0
def PySem.W.Fast.tw2470116654505359647 : Nat := 0
def PySem.W.Fast.tw4594320954467959040 : Nat := 0
def PySem.W.Fast.tw2236241026096647975 : Nat := 0
def PySem.W.Fast.tw3955545593450435558 : Nat := 0
def PySem.W.Fast.tw17882239818820455268 : Nat := 0
def PySem.W.Fast.tw10102780015070866865 : Nat := 0
def PySem.W.Fast.tw4869222580349318203 : Nat := 0
def PySem.W.Fast.tw17566780603796551895 : Nat := 0
def PySem.W.Fast.tw10170310758624924753 : Nat := 0
def PySem.W.Fast.tw13449565124796958582 : Nat := 0
def PySem.W.Fast.tw18140871801110681648 : Nat := 0
def PySem.W.Fast.tw13606466942719806327 : Nat := 0
def PySem.W.Fast.tw16542553945041719482 : Nat := 0
def PySem.W.Fast.tw2306437623844205081 : Nat := 0
def PySem.W.Fast.tw2280735370803381072 : Nat := 0
def PySem.W.Fast.tw10137974376280407891 : Nat := 0
def PySem.W.Fast.tw15651602871415870463 : Nat := 0
def PySem.W.Fast.tw10715117334792192077 : Nat := 0
def PySem.W.Fast.tw168067970562794001 : Nat := 0
def PySem.W.Fast.tw584469282235187173 : Nat := 0
def PySem.W.Fast.tw8030818885171463492 : Nat := 0
def PySem.W.Fast.tw5870275084606953720 : Nat := 0
def PySem.W.Fast.tw3753408460912895894 : Nat := 0
def PySem.W.Fast.tw1568296223200631668 : Nat := 0
def PySem.W.Fast.tw8746989341801619655 : Nat := 0
def PySem.W.Fast.tw10734228117002992531 : Nat := 0
def PySem.W.Fast.tw14257641828708351389 : Nat := 0
def PySem.W.Fast.tw12242301152901630156 : Nat := 0
def PySem.W.Fast.tw11977998530195884458 : Nat := 0
def PySem.W.Fast.tw1549234713177435650 : Nat := 0
def PySem.W.Fast.tw5853916372780372558 : Nat := 0
def PySem.W.Fast.tw8010203476254759528 : Nat := 0
def PySem.W.Fast.tw14658851287853637162 : Nat := 0
def PySem.W.Fast.tw1204948914944548742 : Nat := 0
def PySem.W.Fast.tw13815556913139460826 : Nat := 0
def PySem.W.Fast.tw9129244521898565228 : Nat := 0
def PySem.W.Fast.tw12220066070069502648 : Nat := 0
def PySem.W.Fast.tw11097634750284075654 : Nat := 0
def PySem.W.Fast.tw8796039366643525772 : Nat := 0
def PySem.W.Fast.tw13635273182624835089 : Nat := 0
def PySem.W.Fast.tw2424553534778420678 : Nat := 0
def PySem.W.Fast.tw15224487724927806733 : Nat := 0
def PySem.W.Fast.tw1147553060822933048 : Nat := 0
def PySem.W.Fast.tw1440338447555509483 : Nat := 0
def PySem.W.Fast.tw14037301180495617562 : Nat := 0
def PySem.W.Fast.tw7674822730296359718 : Nat := 0
def PySem.W.Fast.tw12465417736960464103 : Nat := 0
def PySem.W.Fast.tw11208077039852703409 : Nat := 0
def PySem.W.Fast.tw499149104254144042 : Nat := 0
def PySem.W.Fast.tw7216786625173417939 : Nat := 0
def PySem.W.Fast.tw9717795524463483430 : Nat := 0
def PySem.W.Fast.tw5555388992940425237 : Nat := 0
def PySem.W.Fast.tw2633710961683842709 : Nat := 0
def PySem.W.Fast.tw15870286532893594745 : Nat := 0
def PySem.W.Fast.tw6826827224361295204 : Nat := 0
def PySem.W.Fast.tw1835547403927466186 : Nat := 0
def PySem.W.Fast.tw6921010791730998607 : Nat := 0
def PySem.W.Fast.tw16773041736343717444 : Nat := 0
def PySem.W.Fast.tw10715118193629960714 : Nat := 0
def PySem.W.Fast.tw2468113508702259652 : Nat := 0
def PySem.W.Fast.tw17727357439924691479 : Nat := 0
def PySem.W.Fast.tw6600387790479970584 : Nat := 0
def PySem.W.Fast.tw18075514755735062478 : Nat := 0
def PySem.W.Fast.tw1121159003163067482 : Nat := 0
def PySem.W.Fast.tw18352866448708874494 : Nat := 0
def PySem.W.Fast.tw3930938702842535364 : Nat := 0
def PySem.W.Fast.tw10189985015358677740 : Nat := 0
def PySem.W.Fast.tw13124641434853779307 : Nat := 0
def PySem.W.Fast.tw17267253073742594628 : Nat := 0
def PySem.W.Fast.tw15089928279846134917 : Nat := 0
def PySem.W.Fast.tw11260411449487017067 : Nat := 0
def PySem.W.Fast.tw9188289536902774462 : Nat := 0
def PySem.W.Fast.tw17454997809363978890 : Nat := 0
def PySem.W.Fast.tw17506571952142696517 : Nat := 0
def PySem.W.Fast.tw8861920264511847166 : Nat := 0
def PySem.W.Fast.tw12955564936124321419 : Nat := 0
def PySem.W.Fast.tw4804930170564175409 : Nat := 0
def PySem.W.Fast.tw9595473211456870402 : Nat := 0
def PySem.W.Fast.tw12775377161735770185 : Nat := 0
def PySem.W.Fast.tw11748022336285724718 : Nat := 0
def PySem.W.Fast.tw16609299310498696723 : Nat := 0
def PySem.W.Fast.tw5498851760723691920 : Nat := 0
def PySem.W.Fast.tw2893030933969705303 : Nat := 0
def PySem.W.Fast.tw16265945197371287753 : Nat := 0
def PySem.W.Fast.tw1428041592608986642 : Nat := 0
def PySem.W.Fast.tw9740020329151334200 : Nat := 0
def PySem.W.Fast.tw3528437013815573127 : Nat := 0
def PySem.W.Fast.tw18117931650560857377 : Nat := 0
def PySem.W.Fast.tw120463221326355524 : Nat := 0
def PySem.W.Fast.tw14953819610933842006 : Nat := 0
def PySem.W.Fast.tw11904090171930994368 : Nat := 0
def PySem.W.Fast.tw17781204760995634738 : Nat := 0
def PySem.W.Fast.tw17354338524965646456 : Nat := 0
def PySem.W.Fast.tw14109356431953103144 : Nat := 0
def PySem.W.Fast.tw5045671089729725281 : Nat := 0
def PySem.W.Fast.tw12343767803502154085 : Nat := 0
def PySem.W.Fast.tw4953678239922765038 : Nat := 0
def PySem.W.Fast.tw6070288258213392815 : Nat := 0
def PySem.W.Fast.tw11136779081235544816 : Nat := 0
def PySem.W.Fast.tw7883832274207276474 : Nat := 0
def PySem.W.Fast.tw5491914933972698635 : Nat := 0
def PySem.W.Fast.tw12454124998000993832 : Nat := 0
def PySem.W.Fast.tw9676320568299994097 : Nat := 0
def PySem.W.Fast.tw4071514600972907035 : Nat := 0
def PySem.W.Fast.tw5333294262941294392 : Nat := 0
def PySem.W.Fast.tw671555402047791091 : Nat := 0
def PySem.W.Fast.tw4160991423573837385 : Nat := 0
def PySem.W.Fast.tw3119591638248381723 : Nat := 0
def PySem.W.Fast.tw7019934846252099227 : Nat := 0
def PySem.W.Fast.tw17516112956136643678 : Nat := 0
def PySem.W.Fast.tw12542661770044418745 : Nat := 0
def PySem.W.Fast.tw18028571042658914455 : Nat := 0
def PySem.W.Fast.tw13633381310963650919 : Nat := 0
def PySem.W.Fast.tw9221171079923398823 : Nat := 0
def PySem.W.Fast.tw8560785059640808034 : Nat := 0
def PySem.W.Fast.tw8328989484082531663 : Nat := 0
def PySem.W.Fast.tw14795633745130596979 : Nat := 0
def PySem.W.Fast.tw8828299555586074617 : Nat := 0
def PySem.W.Fast.tw138505525063960887 : Nat := 0
def PySem.W.Fast.tw15518567139060389841 : Nat := 0
def PySem.W.Fast.tw4321881666643873709 : Nat := 0
def PySem.W.Fast.tw6788588064134433432 : Nat := 0
def PySem.W.Fast.tw15159807405024274398 : Nat := 0
def PySem.W.Fast.tw9460939002629541069 : Nat := 0
def PySem.W.Fast.tw8807574458620645737 : Nat := 0
def PySem.W.Fast.tw894436885591733000 : Nat := 0
def PySem.W.Fast.tw8034427323285570536 : Nat := 0
def PySem.W.Fast.tw1053568465321144015 : Nat := 0
def PySem.W.Fast.tw17747727185803520841 : Nat := 0
def PySem.W.Fast.tw14884473179936018654 : Nat := 0
def PySem.W.Fast.tw4829057385693601877 : Nat := 0
def PySem.W.Fast.tw4960668938986502496 : Nat := 0
def PySem.W.Fast.tw5030475352702221811 : Nat := 0
def PySem.W.Fast.tw5170635506933115358 : Nat := 0
def PySem.W.Fast.tw8739333367706790636 : Nat := 0
def PySem.W.Fast.tw17830226152952591993 : Nat := 0
def PySem.W.Fast.tw1247496826677548528 : Nat := 0
def PySem.W.Fast.tw14103304743153809545 : Nat := 0
def PySem.W.Fast.tw2341029659902619981 : Nat := 0
def PySem.W.Fast.tw830329511436431306 : Nat := 0
def PySem.W.Fast.tw9303694652207861059 : Nat := 0
def PySem.W.Fast.tw9915649192336769479 : Nat := 0
def PySem.W.Fast.tw10297749273962905447 : Nat := 0
def PySem.W.Fast.tw8476890713422402626 : Nat := 0
def PySem.W.Fast.tw17688583551172439335 : Nat := 0
def PySem.W.Fast.tw16472339813049995200 : Nat := 0
def PySem.W.Fast.tw12775835385043973668 : Nat := 0
def PySem.W.Fast.tw18116385974332779893 : Nat := 0
def PySem.W.Fast.tw10760852991885337150 : Nat := 0
def PySem.W.Fast.tw13113117558527930341 : Nat := 0
def PySem.W.Fast.tw9121647872774466514 : Nat := 0
def PySem.W.Fast.tw7715803147663106469 : Nat := 0
def PySem.W.Fast.tw2215926451518326060 : Nat := 0
def PySem.W.Fast.tw9995881966696756329 : Nat := 0
def PySem.W.Fast.tw4888088506793744394 : Nat := 0
def PySem.W.Fast.tw2604447768375499787 : Nat := 0
def PySem.W.Fast.tw11678158658645959852 : Nat := 0
def PySem.W.Fast.tw9897861437816566937 : Nat := 0
def PySem.W.Fast.tw10279473765975088320 : Nat := 0
def PySem.W.Fast.tw8632730074275119822 : Nat := 0
def PySem.W.Fast.tw12937204019623429303 : Nat := 0
def PySem.W.Fast.tw8299794950525934456 : Nat := 0
def PySem.W.Fast.tw8311360004084017622 : Nat := 0
def PySem.W.Fast.tw10485328141525231472 : Nat := 0
def PySem.W.Fast.tw5315465655655030403 : Nat := 0
def PySem.W.Fast.tw15565677793798122200 : Nat := 0
def PySem.W.Fast.tw11744136584533823918 : Nat := 0
def PySem.W.Fast.tw10960672457092416153 : Nat := 0
def PySem.W.Fast.tw12341391692408497072 : Nat := 0
def PySem.W.Fast.tw13165887404954748698 : Nat := 0
def PySem.W.Fast.tw11169528830415607565 : Nat := 0
def PySem.W.Fast.tw11069201441005786275 : Nat := 0
def PySem.W.Fast.tw5207194960448102769 : Nat := 0
def PySem.W.Fast.tw15337302480897476269 : Nat := 0
def PySem.W.Fast.tw430774088306192644 : Nat := 0
def PySem.W.Fast.tw13723676340542901990 : Nat := 0
def PySem.W.Fast.tw1717034719469079606 : Nat := 0
def PySem.W.Fast.tw5020745430581137463 : Nat := 0
def PySem.W.Fast.tw14806978290873677435 : Nat := 0
def PySem.W.Fast.tw631107990149463093 : Nat := 0
def PySem.W.Fast.tw17145715476543007957 : Nat := 0
def PySem.W.Fast.tw15068335190658891224 : Nat := 0
def PySem.W.Fast.tw14860069099370428439 : Nat := 0
def PySem.W.Fast.tw17022715082072939647 : Nat := 0
def PySem.W.Fast.tw9420595945097293483 : Nat := 0
def PySem.W.Fast.tw8563837443616447296 : Nat := 0
def PySem.W.Fast.tw13590143893066362696 : Nat := 0
def PySem.W.Fast.tw6779846071843106259 : Nat := 0
def PySem.W.Fast.tw4361828453871580050 : Nat := 0
def PySem.W.Fast.tw4875546237717820929 : Nat := 0
def PySem.W.Fast.tw9104669064654106380 : Nat := 0
def PySem.W.Fast.tw7142331956416752902 : Nat := 0
def PySem.W.Fast.tw15823228524852191688 : Nat := 0
def PySem.W.Fast.tw6296263182842236900 : Nat := 0
def PySem.W.Fast.tw9597262597223683699 : Nat := 0
def PySem.W.Fast.tw8364378450589186968 : Nat := 0
def PySem.W.Fast.tw6276795156016782353 : Nat := 0
def PySem.W.Fast.tw7047745196700012081 : Nat := 0
def PySem.W.Fast.tw12716421134447187052 : Nat := 0
def PySem.W.Fast.tw2628150471497942895 : Nat := 0
def PySem.W.Fast.tw14490422686198330933 : Nat := 0
def PySem.W.Fast.tw2444357990387742782 : Nat := 0
def PySem.W.Fast.tw555113652441257466 : Nat := 0
def PySem.W.Fast.tw15894178309708384778 : Nat := 0
def PySem.W.Fast.tw2534364765363184013 : Nat := 0
def PySem.W.Fast.tw11973385461036689086 : Nat := 0
def PySem.W.Fast.tw14996343668279301129 : Nat := 0
def PySem.W.Fast.tw12181006889734763413 : Nat := 0
def PySem.W.Fast.tw17974406893132833756 : Nat := 0
def PySem.W.Fast.tw16809445296346751991 : Nat := 0
def PySem.W.Fast.tw11163334660503271800 : Nat := 0
def PySem.W.Fast.tw13813021617341652728 : Nat := 0
def PySem.W.Fast.tw15666073485987717824 : Nat := 0
def PySem.W.Fast.tw17205928804488443166 : Nat := 0
def PySem.W.Fast.tw11275963805606685458 : Nat := 0
def PySem.W.Fast.tw79439866331761502 : Nat := 0
def PySem.W.Fast.tw9283290164495511547 : Nat := 0
def PySem.W.Fast.tw5696282434503344592 : Nat := 0
def PySem.W.Fast.tw3353984721329181885 : Nat := 0
def PySem.W.Fast.tw6975461142109649621 : Nat := 0
def PySem.W.Fast.tw6707231047039673071 : Nat := 0
def PySem.W.Fast.tw1877915698867878500 : Nat := 0
def PySem.W.Fast.tw18066288103960700013 : Nat := 0
def PySem.W.Fast.tw16310969083339982763 : Nat := 0
def PySem.W.Fast.tw7626464755126881316 : Nat := 0
def PySem.W.Fast.tw15515090955164276890 : Nat := 0
def PySem.W.Fast.tw8505123650061478034 : Nat := 0
def PySem.W.Fast.tw2524374028534998811 : Nat := 0
def PySem.W.Fast.tw13075651931344099306 : Nat := 0
def PySem.W.Fast.tw2368362759781430791 : Nat := 0
def PySem.W.Fast.tw14066338140394503710 : Nat := 0
def PySem.W.Fast.tw7887363979518757956 : Nat := 0
def PySem.W.Fast.tw18091491545681307248 : Nat := 0
def PySem.W.Fast.tw11585370633998544053 : Nat := 0
def PySem.W.Fast.tw11381427507288555912 : Nat := 0
def PySem.W.Fast.tw6485213968054282005 : Nat := 0
def PySem.W.Fast.tw16381460692682288000 : Nat := 0
def PySem.W.Fast.tw3128846091888481944 : Nat := 0
def PySem.W.Fast.tw3240894926561106609 : Nat := 0
def PySem.W.Fast.tw425295389834163209 : Nat := 0
def PySem.W.Fast.tw733572972001321429 : Nat := 0
def PySem.W.Fast.tw5050841592966592701 : Nat := 0
def PySem.W.Fast.tw5222885048019603680 : Nat := 0
def PySem.W.Fast.tw2756359393440064553 : Nat := 0
def PySem.W.Fast.tw18157517238410206945 : Nat := 0
def PySem.W.Fast.tw13995399867673958129 : Nat := 0
def PySem.W.Fast.tw18130827186647197279 : Nat := 0
def PySem.W.Fast.tw3635618122972790852 : Nat := 0
def PySem.W.Fast.tw16760490469888786241 : Nat := 0
def PySem.W.Fast.tw14102658858754538401 : Nat := 0
def PySem.W.Fast.tw11036763189497376163 : Nat := 0
def PySem.W.Fast.tw12374809641006767545 : Nat := 0
def PySem.W.Fast.tw17955973392407031387 : Nat := 0
def PySem.W.Fast.tw17367452937202651663 : Nat := 0
def PySem.W.Fast.tw12077832522790740903 : Nat := 0
def PySem.W.Fast.tw11048712831697794211 : Nat := 0
def PySem.W.Fast.tw5192488289147362820 : Nat := 0
def PySem.W.Fast.tw5451411174923362447 : Nat := 0
def PySem.W.Fast.tw6050314949361739748 : Nat := 0
def PySem.W.Fast.tw12649707118082661350 : Nat := 0
def PySem.W.Fast.tw16076414664676390571 : Nat := 0
def PySem.W.Fast.tw6345252125105276234 : Nat := 0
def PySem.W.Fast.tw4751667418964993563 : Nat := 0
def PySem.W.Fast.tw5755710213921464379 : Nat := 0
def PySem.W.Fast.tw4773762697948631965 : Nat := 0
def PySem.W.Fast.tw14869795605514395476 : Nat := 0
def PySem.W.Fast.tw202780902658001189 : Nat := 0
def PySem.W.Fast.tw5014888969484924604 : Nat := 0
def PySem.W.Fast.tw13880399003065328400 : Nat := 0
def PySem.W.Fast.tw18067432415566503173 : Nat := 0
def PySem.W.Fast.tw15975936960593548190 : Nat := 0
def PySem.W.Fast.tw16981139572070334523 : Nat := 0
def PySem.W.Fast.tw9636752185044377689 : Nat := 0
def PySem.W.Fast.tw4696932796360909597 : Nat := 0
def PySem.W.Fast.tw544691098400295790 : Nat := 0
def PySem.W.Fast.tw9940320334294843851 : Nat := 0
def PySem.W.Fast.tw8520775395085105621 : Nat := 0
def PySem.W.Fast.tw1485726440355151778 : Nat := 0
def PySem.W.Fast.tw15997698139209828265 : Nat := 0
def PySem.W.Fast.tw11725482006194165455 : Nat := 0
def PySem.W.Fast.tw3033781921292782932 : Nat := 0
def PySem.W.Fast.tw1450382245070220167 : Nat := 0
def PySem.W.Fast.tw5542116008748762920 : Nat := 0
def PySem.W.Fast.tw10511992615249380212 : Nat := 0
def PySem.W.Fast.tw10410728289066571980 : Nat := 0
def PySem.W.Fast.tw7153398846536978113 : Nat := 0
def PySem.W.Fast.tw5141259143370336906 : Nat := 0
def PySem.W.Fast.tw14746534759937274624 : Nat := 0
def PySem.W.Fast.tw6595227825113438205 : Nat := 0
def PySem.W.Fast.tw16421569587108449368 : Nat := 0
def PySem.W.Fast.tw15199092537085615226 : Nat := 0
def PySem.W.Fast.tw6531139429354594083 : Nat := 0
def PySem.W.Fast.tw8324677716574249959 : Nat := 0
def PySem.W.Fast.tw10839021303812118530 : Nat := 0
def PySem.W.Fast.tw8712946016995346979 : Nat := 0
def PySem.W.Fast.tw6676064474035321542 : Nat := 0
def PySem.W.Fast.tw6384976604239266968 : Nat := 0
def PySem.W.Fast.tw3608771426849403215 : Nat := 0
def PySem.W.Fast.tw3995231645781982128 : Nat := 0
def PySem.W.Fast.tw768192617626908891 : Nat := 0
def PySem.W.Fast.tw2069324763309516778 : Nat := 0
def PySem.W.Fast.tw15853784899987672516 : Nat := 0
def PySem.W.Fast.tw538739658391933314 : Nat := 0
def PySem.W.Fast.tw10082228480603735673 : Nat := 0
def PySem.W.Fast.tw12745046263150889591 : Nat := 0
def PySem.W.Fast.tw4258223149467415927 : Nat := 0
def PySem.W.Fast.tw6291595281679898658 : Nat := 0
def PySem.W.Fast.tw1143386140584781655 : Nat := 0
def PySem.W.Fast.tw16960161861942550234 : Nat := 0
def PySem.W.Fast.tw6902066508798371513 : Nat := 0
def PySem.W.Fast.tw7809000844115601051 : Nat := 0
def PySem.W.Fast.tw11848668795431802768 : Nat := 0
def PySem.W.Fast.tw2892704316619380548 : Nat := 0
def PySem.W.Fast.tw17562412605689033372 : Nat := 0
def PySem.W.Fast.tw4728047925889501480 : Nat := 0
def PySem.W.Fast.tw7714096383180399174 : Nat := 0
def PySem.W.Fast.tw8328805870738788606 : Nat := 0
def PySem.W.Fast.tw1409983342057903166 : Nat := 0
def PySem.W.Fast.tw656003109828895146 : Nat := 0
def PySem.W.Fast.tw5154185183366409907 : Nat := 0
def PySem.W.Fast.tw6288302187990139465 : Nat := 0
def PySem.W.Fast.tw11562568263437402094 : Nat := 0
def PySem.W.Fast.tw12550205945478625075 : Nat := 0
def PySem.W.Fast.tw226076090287727431 : Nat := 0
def PySem.W.Fast.tw3508713877865206660 : Nat := 0
def PySem.W.Fast.tw13599787205455509805 : Nat := 0
def PySem.W.Fast.tw6531571870315993023 : Nat := 0
def PySem.W.Fast.tw12300497570492375878 : Nat := 0
def PySem.W.Fast.tw2904611421432766354 : Nat := 0
def PySem.W.Fast.tw7391868643600625254 : Nat := 0
def PySem.W.Fast.tw65125500728363885 : Nat := 0
def PySem.W.Fast.tw17780965475088009548 : Nat := 0
def PySem.W.Fast.tw12032016479753394265 : Nat := 0
def PySem.W.Fast.tw2116131302916906068 : Nat := 0
def PySem.W.Fast.tw4882015307443743148 : Nat := 0
def PySem.W.Fast.tw10241427485908207567 : Nat := 0
def PySem.W.Fast.tw10514092757789613377 : Nat := 0
def PySem.W.Fast.tw5525855565401581771 : Nat := 0
def PySem.W.Fast.tw10639545938664063209 : Nat := 0
def PySem.W.Fast.tw3614367903190692130 : Nat := 0
def PySem.W.Fast.tw16707051934364798731 : Nat := 0
def PySem.W.Fast.tw7995971904843103442 : Nat := 0
def PySem.W.Fast.tw2270885518758017898 : Nat := 0
def PySem.W.Fast.tw16821286993821350777 : Nat := 0
def PySem.W.Fast.tw13126306292897346072 : Nat := 0
def PySem.W.Fast.tw12838274748256860942 : Nat := 0
def PySem.W.Fast.tw16719241835684045169 : Nat := 0
def PySem.W.Fast.tw9715998991302277360 : Nat := 0
def PySem.W.Fast.tw18072107249595427653 : Nat := 0
def PySem.W.Fast.tw1500761092921181982 : Nat := 0
def PySem.W.Fast.tw1509999358858373867 : Nat := 0
def PySem.W.Fast.tw18254786640422734596 : Nat := 0
def PySem.W.Fast.tw7352245544901784454 : Nat := 0
def PySem.W.Fast.tw1217038960589686227 : Nat := 0
def PySem.W.Fast.tw9372539803011335359 : Nat := 0
def PySem.W.Fast.tw11566431152461956681 : Nat := 0
def PySem.W.Fast.tw3451808348127316026 : Nat := 0
def PySem.W.Fast.tw1177481034684922977 : Nat := 0
def PySem.W.Fast.tw15666788518029142330 : Nat := 0
def PySem.W.Fast.tw5474954693167844397 : Nat := 0
def PySem.W.Fast.tw10136538837203817923 : Nat := 0
def PySem.W.Fast.tw13378181358229904672 : Nat := 0
def PySem.W.Fast.tw4897670122751057168 : Nat := 0
def PySem.W.Fast.tw143688534302187949 : Nat := 0
def PySem.W.Fast.tw17210379101575575004 : Nat := 0
def PySem.W.Fast.tw2171799835995199454 : Nat := 0
def PySem.W.Fast.tw10938706164719868720 : Nat := 0
def PySem.W.Fast.tw15206644997447748928 : Nat := 0
def PySem.W.Fast.tw7504516976535783388 : Nat := 0
def PySem.W.Fast.tw18001885267558327254 : Nat := 0
def PySem.W.Fast.tw8424965476934394184 : Nat := 0
def PySem.W.Fast.tw796104913929594293 : Nat := 0
def PySem.W.Fast.tw214000720462612648 : Nat := 0
def PySem.W.Fast.tw17460777864265784439 : Nat := 0
def PySem.W.Fast.tw2715750594503928781 : Nat := 0
def PySem.W.Fast.tw16887421284353838392 : Nat := 0
def PySem.W.Fast.tw4479595405672438469 : Nat := 0
def PySem.W.Fast.tw7841493124678784431 : Nat := 0
def PySem.W.Fast.tw1906993045501385111 : Nat := 0
def PySem.W.Fast.tw3497807337998900986 : Nat := 0
def PySem.W.Fast.tw1938966295963257900 : Nat := 0
def PySem.W.Fast.tw16821988511808138283 : Nat := 0
def PySem.W.Fast.tw15551169750686910688 : Nat := 0
def PySem.W.Fast.tw4077882669648311630 : Nat := 0
def PySem.W.Fast.tw14974573882950291550 : Nat := 0
def PySem.W.Fast.tw8291556570564452475 : Nat := 0
def PySem.W.Fast.tw3381695167246608101 : Nat := 0
def PySem.W.Fast.tw11066428956333134182 : Nat := 0
def PySem.W.Fast.tw2952482259381147240 : Nat := 0
def PySem.W.Fast.tw9769785310446496190 : Nat := 0
def PySem.W.Fast.tw9244137361034595140 : Nat := 0
def PySem.W.Fast.tw611623004748881091 : Nat := 0
def PySem.W.Fast.tw16551303794225736219 : Nat := 0
def PySem.W.Fast.tw13805800433745698094 : Nat := 0
def PySem.W.Fast.tw1679053026347992997 : Nat := 0
def PySem.W.Fast.tw13909314099376746089 : Nat := 0
def PySem.W.Fast.tw15144166480225334923 : Nat := 0
def PySem.W.Fast.tw4183358605374287651 : Nat := 0
def PySem.W.Fast.tw5310612818849872086 : Nat := 0
def PySem.W.Fast.tw12028820119326492695 : Nat := 0
def PySem.W.Fast.tw2691107504388383683 : Nat := 0
def PySem.W.Fast.tw11817104096430484051 : Nat := 0
def PySem.W.Fast.tw2442709858737927555 : Nat := 0
def PySem.W.Fast.tw13379815604095894388 : Nat := 0
def PySem.W.Fast.tw2995712010013001611 : Nat := 0
def PySem.W.Fast.tw5985915495059701880 : Nat := 0
def PySem.W.Fast.tw13829202985138120329 : Nat := 0
def PySem.W.Fast.tw13796187781321394457 : Nat := 0
def PySem.W.Fast.tw8417070108644388004 : Nat := 0
def PySem.W.Fast.tw1272455155740707968 : Nat := 0
def PySem.W.Fast.tw14006567076094376328 : Nat := 0
def PySem.W.Fast.tw2496869905433409069 : Nat := 0
def PySem.W.Fast.tw3866890040869268627 : Nat := 0
def PySem.W.Fast.tw17459557601467870031 : Nat := 0
def PySem.W.Fast.tw6222234786192486649 : Nat := 0
def PySem.W.Fast.tw5155374962178637670 : Nat := 0
def PySem.W.Fast.tw9191495632208955514 : Nat := 0
def PySem.W.Fast.tw2021452063836416359 : Nat := 0
def PySem.W.Fast.tw10820356035036709803 : Nat := 0
def PySem.W.Fast.tw9966668939349842233 : Nat := 0
def PySem.W.Fast.tw863495947809908015 : Nat := 0
def PySem.W.Fast.tw11292359292602110822 : Nat := 0
def PySem.W.Fast.tw2873866426391588954 : Nat := 0
def PySem.W.Fast.tw8251035922963213808 : Nat := 0
def PySem.W.Fast.tw1337630005751599361 : Nat := 0
def PySem.W.Fast.tw11447011857083951575 : Nat := 0
def PySem.W.Fast.tw10095078155579184098 : Nat := 0
def PySem.W.Fast.tw7594959119675037558 : Nat := 0
def PySem.W.Fast.tw15189765351007268639 : Nat := 0
def PySem.W.Fast.tw3887292780367777934 : Nat := 0
def PySem.W.Fast.tw3354743116681321080 : Nat := 0
def PySem.W.Fast.tw10538876432905528177 : Nat := 0
def PySem.W.Fast.tw3697674215691231111 : Nat := 0
def PySem.W.Fast.tw14220813324460397944 : Nat := 0
def PySem.W.Fast.tw11808254715065658868 : Nat := 0
def PySem.W.Fast.tw7018515375390361750 : Nat := 0
def PySem.W.Fast.tw14922564315861201793 : Nat := 0
def PySem.W.Fast.tw11330657480258781972 : Nat := 0
def PySem.W.Fast.tw7727426369237029739 : Nat := 0
def PySem.W.Fast.tw12976524538578547587 : Nat := 0
def PySem.W.Fast.tw4119347858636814988 : Nat := 0
def PySem.W.Fast.tw2527788644889351727 : Nat := 0
def PySem.W.Fast.tw18408967788264332395 : Nat := 0
def PySem.W.Fast.tw1971197816608929744 : Nat := 0
def PySem.W.Fast.tw10930772521998788379 : Nat := 0
def PySem.W.Fast.tw3591504715573540450 : Nat := 0
def PySem.W.Fast.tw8256119093631867119 : Nat := 0
def PySem.W.Fast.tw1250566725386539807 : Nat := 0
def PySem.W.Fast.tw8397818847206063206 : Nat := 0
def PySem.W.Fast.tw7368920336641479977 : Nat := 0
def PySem.W.Fast.tw6802943029088854458 : Nat := 0
def PySem.W.Fast.tw10851588223395987484 : Nat := 0
def PySem.W.Fast.tw3073185034922255502 : Nat := 0
def PySem.W.Fast.tw256736740556753157 : Nat := 0
def PySem.W.Fast.tw10690509909138031396 : Nat := 0
def PySem.W.Fast.tw11266836111184652567 : Nat := 0
def PySem.W.Fast.tw11722233467288409342 : Nat := 0
def PySem.W.Fast.tw2841437432549640487 : Nat := 0
def PySem.W.Fast.tw14065476751892878287 : Nat := 0
def PySem.W.Fast.tw9671564900866831113 : Nat := 0
def PySem.W.Fast.tw8218580027056171398 : Nat := 0
def PySem.W.Fast.tw10766182111130917759 : Nat := 0
def PySem.W.Fast.tw1589655952484736981 : Nat := 0
def PySem.W.Fast.tw1461923523505873775 : Nat := 0
def PySem.W.Fast.tw1108085497840421186 : Nat := 0
def PySem.W.Fast.tw15421732187589445927 : Nat := 0
def PySem.W.Fast.tw11501540802186838840 : Nat := 0
def PySem.W.Fast.tw16781355021862958655 : Nat := 0
def PySem.W.Fast.tw9558855067019446520 : Nat := 0
def PySem.W.Fast.tw5340721415150771131 : Nat := 0
def PySem.W.Fast.tw105811031470149018 : Nat := 0
def PySem.W.Fast.tw939044589209248455 : Nat := 0
def PySem.W.Fast.tw1109010733624075250 : Nat := 0
def PySem.W.Fast.tw18291071604138433042 : Nat := 0
def PySem.W.Fast.tw10675741569402899948 : Nat := 0
def PySem.W.Fast.tw522911201356854877 : Nat := 0
def PySem.W.Fast.tw6053594593753322648 : Nat := 0
def PySem.W.Fast.tw17107618919044158168 : Nat := 0
def PySem.W.Fast.tw5485705741561376317 : Nat := 0
def PySem.W.Fast.tw4177011630445113473 : Nat := 0
def PySem.W.Fast.tw598002692651198910 : Nat := 0
def PySem.W.Fast.tw5070073795381320102 : Nat := 0
def PySem.W.Fast.tw17357420522010384727 : Nat := 0
def PySem.W.Fast.tw10018864253354733788 : Nat := 0
def PySem.W.Fast.tw9843641965666234135 : Nat := 0
def PySem.W.Fast.tw14236085265767319385 : Nat := 0
def PySem.W.Fast.tw14177118854974716646 : Nat := 0
def PySem.W.Fast.tw370401753101703085 : Nat := 0
def PySem.W.Fast.tw11227619015565899721 : Nat := 0
def PySem.W.Fast.tw9706162130575325348 : Nat := 0
def PySem.W.Fast.tw969944318243767926 : Nat := 0
def PySem.W.Fast.tw14392272083447035210 : Nat := 0
def PySem.W.Fast.tw6351747846191355680 : Nat := 0
def PySem.W.Fast.tw2280539410141086498 : Nat := 0
def PySem.W.Fast.tw3248610494968465341 : Nat := 0
def PySem.W.Fast.tw3735701470086200461 : Nat := 0
def PySem.W.Fast.tw13537048384553940245 : Nat := 0
def PySem.W.Fast.tw7475769909634441813 : Nat := 0
def PySem.W.Fast.tw14857347323550722288 : Nat := 0
def PySem.W.Fast.tw9692475130303429173 : Nat := 0
def PySem.W.Fast.tw13673498127939030065 : Nat := 0
def PySem.W.Fast.tw6996694820132115225 : Nat := 0
def PySem.W.Fast.tw5940694492823409461 : Nat := 0
def PySem.W.Fast.tw175545771066899977 : Nat := 0
def PySem.W.Fast.tw870762340018297444 : Nat := 0
def PySem.W.Fast.tw11969779987148745734 : Nat := 0
def PySem.W.Fast.tw13826072312970190303 : Nat := 0
def PySem.W.Fast.tw10089136746809158517 : Nat := 0
def PySem.W.Fast.tw16394028740171503567 : Nat := 0
def PySem.W.Fast.tw16680349024949585175 : Nat := 0
def PySem.W.Fast.tw12658181275424848671 : Nat := 0
def PySem.W.Fast.tw7220947875207285211 : Nat := 0
def PySem.W.Fast.tw14198002725706720616 : Nat := 0
def PySem.W.Fast.tw13609772639550678131 : Nat := 0
def PySem.W.Fast.tw18027246608856627987 : Nat := 0
def PySem.W.Fast.tw9417494151922878923 : Nat := 0
def PySem.W.Fast.tw4821884966856949522 : Nat := 0
def PySem.W.Fast.tw1372027404674830533 : Nat := 0
def PySem.W.Fast.tw13040454116430567406 : Nat := 0
def PySem.W.Fast.tw5871164959791139148 : Nat := 0
def PySem.W.Fast.tw6385443172939804973 : Nat := 0
def PySem.W.Fast.tw6940568041310242203 : Nat := 0
def PySem.W.Fast.tw17333570648386568887 : Nat := 0
def PySem.W.Fast.tw5643456978218670972 : Nat := 0
def PySem.W.Fast.tw3272327217258849141 : Nat := 0
def PySem.W.Fast.tw10028970386418063269 : Nat := 0
def PySem.W.Fast.tw4554243953789664756 : Nat := 0
def PySem.W.Fast.tw18062480219071950655 : Nat := 0
def PySem.W.Fast.tw11307816070349376902 : Nat := 0
def PySem.W.Fast.tw17533055093187181668 : Nat := 0
def PySem.W.Fast.tw11422777899769416744 : Nat := 0
def PySem.W.Fast.tw7757045840320442447 : Nat := 0
def PySem.W.Fast.tw16113466566776571787 : Nat := 0
def PySem.W.Fast.tw18103034187076273158 : Nat := 0
def PySem.W.Fast.tw3796206092923475029 : Nat := 0
def PySem.W.Fast.tw11192397713222084652 : Nat := 0
def PySem.W.Fast.tw11769772450223923898 : Nat := 0
def PySem.W.Fast.tw12242008633201797264 : Nat := 0
def PySem.W.Fast.tw11679733104635292831 : Nat := 0
def PySem.W.Fast.tw15103135372144178932 : Nat := 0
def PySem.W.Fast.tw13921698704438555117 : Nat := 0
def PySem.W.Fast.tw3882172884525135979 : Nat := 0
def PySem.W.Fast.tw10738507754548481167 : Nat := 0
def PySem.W.Fast.tw9436614442030501730 : Nat := 0
def PySem.W.Fast.tw1897032135450046173 : Nat := 0
def PySem.W.Fast.tw6530916949735342175 : Nat := 0
def PySem.W.Fast.tw7980690989849154096 : Nat := 0
def PySem.W.Fast.tw16066180136186155133 : Nat := 0
def PySem.W.Fast.tw3422345004292107242 : Nat := 0
def PySem.W.Fast.tw13112586390149696766 : Nat := 0
def PySem.W.Fast.tw12553091147459745184 : Nat := 0
def PySem.W.Fast.tw14626003957101925194 : Nat := 0
def PySem.W.Fast.tw272861075657340917 : Nat := 0
def PySem.W.Fast.tw8790850675666876408 : Nat := 0
def PySem.W.Fast.tw2498623572061107157 : Nat := 0
def PySem.W.Fast.tw8333839264100976476 : Nat := 0
def PySem.W.Fast.tw15566013711223328853 : Nat := 0
def PySem.W.Fast.tw11265965975136102252 : Nat := 0
def PySem.W.Fast.tw5195934501178920408 : Nat := 0
def PySem.W.Fast.tw3056738903064834268 : Nat := 0
def PySem.W.Fast.tw15282512466725833095 : Nat := 0
def PySem.W.Fast.tw3173381151194132829 : Nat := 0
def PySem.W.Fast.tw12285571787892239300 : Nat := 0
def PySem.W.Fast.tw9619333008945323146 : Nat := 0
def PySem.W.Fast.tw17178505910538803532 : Nat := 0
def PySem.W.Fast.tw5159165708072473901 : Nat := 0
def PySem.W.Fast.tw14227160584423898078 : Nat := 0
def PySem.W.Fast.tw13377586799885486311 : Nat := 0
def PySem.W.Fast.tw4632901364922811540 : Nat := 0
def PySem.W.Fast.tw17211961895190192232 : Nat := 0
def PySem.W.Fast.tw13037696923300018234 : Nat := 0
def PySem.W.Fast.tw8922094705436263379 : Nat := 0
def PySem.W.Fast.tw15233270794026442233 : Nat := 0
def PySem.W.Fast.tw15706372355984267892 : Nat := 0
def PySem.W.Fast.tw10343112452214824309 : Nat := 0
def PySem.W.Fast.tw6690798995178916996 : Nat := 0
def PySem.W.Fast.tw12525682165131534849 : Nat := 0
def PySem.W.Fast.tw13312059312663521331 : Nat := 0
def PySem.W.Fast.tw16178534265532906492 : Nat := 0
def PySem.W.Fast.tw7493313023793434874 : Nat := 0
def PySem.W.Fast.tw972112480788063943 : Nat := 0
def PySem.W.Fast.tw9712704533495796766 : Nat := 0
def PySem.W.Fast.tw1932185710885943561 : Nat := 0
def PySem.W.Fast.tw5072008461318497559 : Nat := 0
def PySem.W.Fast.tw11940977403851941528 : Nat := 0
def PySem.W.Fast.tw4615098205949521761 : Nat := 0
def PySem.W.Fast.tw15087377316672046569 : Nat := 0
def PySem.W.Fast.tw12591973968528620560 : Nat := 0
def PySem.W.Fast.tw14105419887417783198 : Nat := 0
def PySem.W.Fast.tw4492858640704707595 : Nat := 0
def PySem.W.Fast.tw10812574793755540176 : Nat := 0
def PySem.W.Fast.tw8027448078314302221 : Nat := 0
def PySem.W.Fast.tw16296765538126734205 : Nat := 0
def PySem.W.Fast.tw9578401883490683995 : Nat := 0
def PySem.W.Fast.tw3647441185906193998 : Nat := 0
def PySem.W.Fast.tw200019660336678822 : Nat := 0
def PySem.W.Fast.tw12064126977439495126 : Nat := 0
def PySem.W.Fast.tw6886982611781330033 : Nat := 0
def PySem.W.Fast.tw18179419465630448908 : Nat := 0
def PySem.W.Fast.tw9335728031098012142 : Nat := 0
def PySem.W.Fast.tw1558213155950096305 : Nat := 0
def PySem.W.Fast.tw11015058008465291887 : Nat := 0
def PySem.W.Fast.tw11058166848538451853 : Nat := 0
def PySem.W.Fast.tw205443506901566579 : Nat := 0
def PySem.W.Fast.tw7561347857258505073 : Nat := 0
def PySem.W.Fast.tw13537128383213946476 : Nat := 0
def PySem.W.Fast.tw16279721565282452801 : Nat := 0
def PySem.W.Fast.tw5477261466773498259 : Nat := 0
def PySem.W.Fast.tw7467225177336674348 : Nat := 0
def PySem.W.Fast.tw9418613995642414930 : Nat := 0
def PySem.W.Fast.tw7346445391740569631 : Nat := 0
def PySem.W.Fast.tw4600719876190187293 : Nat := 0
def PySem.W.Fast.tw5743600466965639309 : Nat := 0
def PySem.W.Fast.tw14681616839838919363 : Nat := 0
def PySem.W.Fast.tw14739861887087874489 : Nat := 0
def PySem.W.Fast.tw13700626837720746445 : Nat := 0
def PySem.W.Fast.tw89886904661729974 : Nat := 0
def PySem.W.Fast.tw60838585362677578 : Nat := 0
def PySem.W.Fast.tw8749035314758332238 : Nat := 0
def PySem.W.Fast.tw6607005408279354305 : Nat := 0
def PySem.W.Fast.tw3755784792329742921 : Nat := 0
def PySem.W.Fast.tw5686532850271629937 : Nat := 0
def PySem.W.Fast.tw13977244919895515595 : Nat := 0
def PySem.W.Fast.tw14923068688621855867 : Nat := 0
def PySem.W.Fast.tw2147354500176978294 : Nat := 0
def PySem.W.Fast.tw2259413911500301658 : Nat := 0
def PySem.W.Fast.tw7365919404912021896 : Nat := 0
def PySem.W.Fast.tw4919776129721517238 : Nat := 0
def PySem.W.Fast.tw4361569459403895635 : Nat := 0
def PySem.W.Fast.tw16186318996606569707 : Nat := 0
def PySem.W.Fast.tw10160563009046715018 : Nat := 0
def PySem.W.Fast.tw2043227937637826460 : Nat := 0
def PySem.W.Fast.tw10491394203939308162 : Nat := 0
def PySem.W.Fast.tw2896543289472567647 : Nat := 0
def PySem.W.Fast.tw1323121199035670447 : Nat := 0
def PySem.W.Fast.tw7227125268113731216 : Nat := 0
def PySem.W.Fast.tw11892304853384947914 : Nat := 0
def PySem.W.Fast.tw17324884635874302252 : Nat := 0
def PySem.W.Fast.tw1952471328529483313 : Nat := 0
def PySem.W.Fast.tw3403220931259266501 : Nat := 0
def PySem.W.Fast.tw10874456872019879368 : Nat := 0
def PySem.W.Fast.tw12477019349433749449 : Nat := 0
def PySem.W.Fast.tw8220282163747536748 : Nat := 0
def PySem.W.Fast.tw16213594279103308445 : Nat := 0
def PySem.W.Fast.tw1432750442706555355 : Nat := 0
def PySem.W.Fast.tw13898017516236768460 : Nat := 0
def PySem.W.Fast.tw2055142576134956829 : Nat := 0
def PySem.W.Fast.tw12392795674115290407 : Nat := 0
def PySem.W.Fast.tw1410626959165366779 : Nat := 0
def PySem.W.Fast.tw17499599519994801245 : Nat := 0
def PySem.W.Fast.tw12897987970042159353 : Nat := 0
def PySem.W.Fast.tw17488113840533177504 : Nat := 0
def PySem.W.Fast.tw1543712519017292272 : Nat := 0
def PySem.W.Fast.tw11990198716228370328 : Nat := 0
def PySem.W.Fast.tw14786129529854977867 : Nat := 0
def PySem.W.Fast.tw18381678930697681391 : Nat := 0
def PySem.W.Fast.tw476249389830054384 : Nat := 0
def PySem.W.Fast.tw13240940817971791513 : Nat := 0
def PySem.W.Fast.tw8957084361297796767 : Nat := 0
def PySem.W.Fast.tw11835844401990438941 : Nat := 0
def PySem.W.Fast.tw11153073660916058305 : Nat := 0
def PySem.W.Fast.tw10723471764710709176 : Nat := 0
def PySem.W.Fast.tw16746700604056589860 : Nat := 0
def PySem.W.Fast.tw481924802516722854 : Nat := 0
def PySem.W.Fast.tw11298863451231300709 : Nat := 0
def PySem.W.Fast.tw16816666312293153174 : Nat := 0
def PySem.W.Fast.tw15458265737856084142 : Nat := 0
def PySem.W.Fast.tw4547537504687151472 : Nat := 0
def PySem.W.Fast.tw16287038897946729243 : Nat := 0
def PySem.W.Fast.tw15423185870473788905 : Nat := 0
def PySem.W.Fast.tw15700885828094706093 : Nat := 0
def PySem.W.Fast.tw17567419879637407241 : Nat := 0
def PySem.W.Fast.tw18200631497508026128 : Nat := 0
def PySem.W.Fast.tw1097355945827142554 : Nat := 0
def PySem.W.Fast.tw17993803772026264070 : Nat := 0
def PySem.W.Fast.tw117677371648901004 : Nat := 0
def PySem.W.Fast.tw5871250150642323109 : Nat := 0
def PySem.W.Fast.tw2545271797082546813 : Nat := 0
def PySem.W.Fast.tw13031610306526458783 : Nat := 0
def PySem.W.Fast.tw8945134543274569229 : Nat := 0
def PySem.W.Fast.tw15588369927923388490 : Nat := 0
def PySem.W.Fast.tw10500919123491581383 : Nat := 0
def PySem.W.Fast.tw1335678257291771913 : Nat := 0
def PySem.W.Fast.tw13340882525394411399 : Nat := 0
def PySem.W.Fast.tw14091428818943571852 : Nat := 0
def PySem.W.Fast.tw18117092216506996502 : Nat := 0
def PySem.W.Fast.tw15102674874553557957 : Nat := 0
def PySem.W.Fast.tw4646536172329328847 : Nat := 0
def PySem.W.Fast.tw10021057118845110569 : Nat := 0
def PySem.W.Fast.tw9149616293428973318 : Nat := 0
def PySem.W.Fast.tw8729126791411654561 : Nat := 0
def PySem.W.Fast.tw7692691030859826867 : Nat := 0
def PySem.W.Fast.tw13626756525379476360 : Nat := 0
def PySem.W.Fast.tw14128900997922093194 : Nat := 0
def PySem.W.Fast.tw4058440504178241112 : Nat := 0
def PySem.W.Fast.tw992675062263804075 : Nat := 0
def PySem.W.Fast.tw14613362298180882445 : Nat := 0
def PySem.W.Fast.tw14912997460597090229 : Nat := 0
def PySem.W.Fast.tw8647010512119924021 : Nat := 0
def PySem.W.Fast.tw11608197454471386090 : Nat := 0
def PySem.W.Fast.tw15134622674905191051 : Nat := 0
def PySem.W.Fast.tw2384405807411561643 : Nat := 0
def PySem.W.Fast.tw5275542537910404277 : Nat := 0
def PySem.W.Fast.tw17840930013731852067 : Nat := 0
def PySem.W.Fast.tw5171086274692067730 : Nat := 0
def PySem.W.Fast.tw1172193991309150820 : Nat := 0
def PySem.W.Fast.tw6642325689724854127 : Nat := 0
def PySem.W.Fast.tw14181403761805474416 : Nat := 0
def PySem.W.Fast.tw4344136897817184789 : Nat := 0
def PySem.W.Fast.tw5573814300920259808 : Nat := 0
def PySem.W.Fast.tw17496338714051803483 : Nat := 0
def PySem.W.Fast.tw10946028957684254264 : Nat := 0
def PySem.W.Fast.tw8294917638889759576 : Nat := 0
def PySem.W.Fast.tw6431147977969785869 : Nat := 0
def PySem.W.Fast.tw1351184568057250431 : Nat := 0
def PySem.W.Fast.tw5823569573203185326 : Nat := 0
def PySem.W.Fast.tw8151350047655547802 : Nat := 0
def PySem.W.Fast.tw15721918919493123488 : Nat := 0
def PySem.W.Fast.tw14199992826517276515 : Nat := 0
def PySem.W.Fast.tw10194821351541464964 : Nat := 0
def PySem.W.Fast.tw7017130117357535334 : Nat := 0
def PySem.W.Fast.tw3300162657846097324 : Nat := 0
def PySem.W.Fast.tw11873932761506314303 : Nat := 0
def PySem.W.Fast.tw14027598397360980661 : Nat := 0
def PySem.W.Fast.tw15333916773156845937 : Nat := 0
def PySem.W.Fast.tw2854340730650461038 : Nat := 0
def PySem.W.Fast.tw11285380955431611217 : Nat := 0
def PySem.W.Fast.tw1816517657771863655 : Nat := 0
def PySem.W.Fast.tw10731801391564190063 : Nat := 0
def PySem.W.Fast.tw11462195075364592106 : Nat := 0
def PySem.W.Fast.tw11362659675026819380 : Nat := 0
def PySem.W.Fast.tw11267517554925212909 : Nat := 0
def PySem.W.Fast.tw12786028789123945171 : Nat := 0
def PySem.W.Fast.tw15572962348983060225 : Nat := 0
def PySem.W.Fast.tw3384000815363358101 : Nat := 0
def PySem.W.Fast.tw11164772442223818954 : Nat := 0
def PySem.W.Fast.tw2920902329687046225 : Nat := 0
def PySem.W.Fast.tw7409991901357132168 : Nat := 0
def PySem.W.Fast.tw9193067121583742763 : Nat := 0
def PySem.W.Fast.tw15344358653529911869 : Nat := 0
def PySem.W.Fast.tw2902625000863936899 : Nat := 0
def PySem.W.Fast.tw8846881894689922267 : Nat := 0
def PySem.W.Fast.tw16546343939749522620 : Nat := 0
def PySem.W.Fast.tw4551136666918958350 : Nat := 0
def PySem.W.Fast.tw11365752516925416144 : Nat := 0
def PySem.W.Fast.tw4386796256724124710 : Nat := 0
def PySem.W.Fast.tw6396238387251272170 : Nat := 0
def PySem.W.Fast.tw7192413958562326744 : Nat := 0
def PySem.W.Fast.tw12821718811453730314 : Nat := 0
def PySem.W.Fast.tw18358823848364917698 : Nat := 0
def PySem.W.Fast.tw14040542511225259498 : Nat := 0
def PySem.W.Fast.tw2330134446420263479 : Nat := 0
def PySem.W.Fast.tw5744414540189346305 : Nat := 0
def PySem.W.Fast.tw15176062571978919728 : Nat := 0
def PySem.W.Fast.tw7378524275554826264 : Nat := 0
def PySem.W.Fast.tw8662255151689368156 : Nat := 0
def PySem.W.Fast.tw10852184783173871657 : Nat := 0
def PySem.W.Fast.tw17997619227028516291 : Nat := 0
def PySem.W.Fast.tw3836545803775419108 : Nat := 0
def PySem.W.Fast.tw7949347755964343129 : Nat := 0
def PySem.W.Fast.tw8230901363454276169 : Nat := 0
def PySem.W.Fast.tw10511894350052684804 : Nat := 0
def PySem.W.Fast.tw13263247728944295409 : Nat := 0
def PySem.W.Fast.tw13269628892610695421 : Nat := 0
def PySem.W.Fast.tw5377863349594971583 : Nat := 0
def PySem.W.Fast.tw3099728679432194454 : Nat := 0
def PySem.W.Fast.tw17989601791178281729 : Nat := 0
def PySem.W.Fast.tw12173118157056972184 : Nat := 0
def PySem.W.Fast.tw13216782506321871795 : Nat := 0
def PySem.W.Fast.tw11175863104077165149 : Nat := 0
def PySem.W.Fast.tw7484570343307251246 : Nat := 0
def PySem.W.Fast.tw9965788407379406273 : Nat := 0
def PySem.W.Fast.tw4814481667808770711 : Nat := 0
def PySem.W.Fast.tw11823083681116753081 : Nat := 0
def PySem.W.Fast.tw1538582188746586119 : Nat := 0
def PySem.W.Fast.tw11390293984505818067 : Nat := 0
def PySem.W.Fast.tw11566599915161320637 : Nat := 0
def PySem.W.Fast.tw13655466602584555384 : Nat := 0
def PySem.W.Fast.tw8560152053657969630 : Nat := 0
def PySem.W.Fast.tw9625826416213267223 : Nat := 0
def PySem.W.Fast.tw6942135218112573929 : Nat := 0
def PySem.W.Fast.tw3872776148457964078 : Nat := 0
def PySem.W.Fast.tw10617014422660375871 : Nat := 0
def PySem.W.Fast.tw6882863523156196149 : Nat := 0
def PySem.W.Fast.tw18019463079550332978 : Nat := 0
def PySem.W.Fast.tw3471802144892605986 : Nat := 0
def PySem.W.Fast.tw4719245260437819264 : Nat := 0
def PySem.W.Fast.tw12861283822516412902 : Nat := 0
def PySem.W.Fast.tw18435293427917661917 : Nat := 0
def PySem.W.Fast.tw13214894661418444949 : Nat := 0
def PySem.W.Fast.tw1413889532074934635 : Nat := 0
def PySem.W.Fast.tw17639587261883933076 : Nat := 0
def PySem.W.Fast.tw3188326563536514734 : Nat := 0
def PySem.W.Fast.tw6774824113148513761 : Nat := 0
def PySem.W.Fast.tw11561433198917516318 : Nat := 0
def PySem.W.Fast.tw7458908076325873620 : Nat := 0
def PySem.W.Fast.tw6620656097617323109 : Nat := 0
def PySem.W.Fast.tw13261048310873245241 : Nat := 0
def PySem.W.Fast.tw17296754819846206083 : Nat := 0
def PySem.W.Fast.tw961918075641180569 : Nat := 0
def PySem.W.Fast.tw9846232274107979999 : Nat := 0
def PySem.W.Fast.tw16172072993173798325 : Nat := 0
def PySem.W.Fast.tw12040142951803327658 : Nat := 0
def PySem.W.Fast.tw7429340628391756706 : Nat := 0
def PySem.W.Fast.tw3664912826423934521 : Nat := 0
def PySem.W.Fast.tw17312162684678834871 : Nat := 0
def PySem.W.Fast.tw3989007884671497032 : Nat := 0
def PySem.W.Fast.tw7247079879807880076 : Nat := 0
def PySem.W.Fast.tw12556871777311126847 : Nat := 0
def PySem.W.Fast.tw8324647586523415312 : Nat := 0
def PySem.W.Fast.tw6501443455947040988 : Nat := 0
def PySem.W.Fast.tw1367462650602226172 : Nat := 0
def PySem.W.Fast.tw10159595488931701729 : Nat := 0
def PySem.W.Fast.tw11530582925472719852 : Nat := 0
def PySem.W.Fast.tw11702572398605058195 : Nat := 0
def PySem.W.Fast.tw7760898339111209313 : Nat := 0
def PySem.W.Fast.tw3940193479248557175 : Nat := 0
def PySem.W.Fast.tw11124008156513452879 : Nat := 0
def PySem.W.Fast.tw7300761554149407998 : Nat := 0
def PySem.W.Fast.tw12175703022462014999 : Nat := 0
def PySem.W.Fast.tw5098016926224857316 : Nat := 0
def PySem.W.Fast.tw1924581925229475376 : Nat := 0
def PySem.W.Fast.tw9450043845017399170 : Nat := 0
def PySem.W.Fast.tw9029880799282307023 : Nat := 0
def PySem.W.Fast.tw8447253607015191503 : Nat := 0
def PySem.W.Fast.tw8211021424665810803 : Nat := 0
def PySem.W.Fast.tw13343769755846523570 : Nat := 0
def PySem.W.Fast.tw3436492697811877853 : Nat := 0
def PySem.W.Fast.tw13774481429433195716 : Nat := 0
def PySem.W.Fast.tw16187863139862101405 : Nat := 0
def PySem.W.Fast.tw17089471419378634968 : Nat := 0
def PySem.W.Fast.tw14181929994561740765 : Nat := 0
def PySem.W.Fast.tw18153218026514594778 : Nat := 0
def PySem.W.Fast.tw15146865930875668574 : Nat := 0
def PySem.W.Fast.tw5798487137361904576 : Nat := 0
def PySem.W.Fast.tw14028354995017784265 : Nat := 0
def PySem.W.Fast.tw10884628864777741712 : Nat := 0
def PySem.W.Fast.tw16551723176087718019 : Nat := 0
def PySem.W.Fast.tw3241944905924331842 : Nat := 0
def PySem.W.Fast.tw17683204983770363620 : Nat := 0
def PySem.W.Fast.tw12725858932947736301 : Nat := 0
def PySem.W.Fast.tw7621724190071452309 : Nat := 0
def PySem.W.Fast.tw12440319613346077087 : Nat := 0
def PySem.W.Fast.tw11675409845636284755 : Nat := 0
def PySem.W.Fast.tw17926400653236399404 : Nat := 0
def PySem.W.Fast.tw17344457676055096726 : Nat := 0
def PySem.W.Fast.tw2131438503115287025 : Nat := 0
def PySem.W.Fast.tw853220122545612835 : Nat := 0
def PySem.W.Fast.tw14920868821890649128 : Nat := 0
def PySem.W.Fast.tw9981158978726467499 : Nat := 0
def PySem.W.Fast.tw9076583357502132548 : Nat := 0
def PySem.W.Fast.tw2379163965182034343 : Nat := 0
def PySem.W.Fast.tw10003536331629208720 : Nat := 0
def PySem.W.Fast.tw6709314627360054960 : Nat := 0
def PySem.W.Fast.tw15244427985272967533 : Nat := 0
def PySem.W.Fast.tw9708807143215460203 : Nat := 0
def PySem.W.Fast.tw6471495597763718937 : Nat := 0
def PySem.W.Fast.tw10111734374742301429 : Nat := 0
def PySem.W.Fast.tw1064220390355646685 : Nat := 0
def PySem.W.Fast.tw12690616320567094403 : Nat := 0
def PySem.W.Fast.tw5314171691477231375 : Nat := 0
def PySem.W.Fast.tw17602213224737638471 : Nat := 0
def PySem.W.Fast.tw11836863575933657301 : Nat := 0
def PySem.W.Fast.tw5622368330579779760 : Nat := 0
def PySem.W.Fast.tw13441877349846415830 : Nat := 0
def PySem.W.Fast.tw2358626529054512832 : Nat := 0
def PySem.W.Fast.tw13075182067521077511 : Nat := 0
def PySem.W.Fast.tw12131573695816605293 : Nat := 0
def PySem.W.Fast.tw10519022809813259232 : Nat := 0
def PySem.W.Fast.tw7411387808180229945 : Nat := 0
def PySem.W.Fast.tw4754255867969535194 : Nat := 0
def PySem.W.Fast.tw6546682062257961602 : Nat := 0
def PySem.W.Fast.tw13546003732079782113 : Nat := 0
def PySem.W.Fast.tw7306096771570481383 : Nat := 0
def PySem.W.Fast.tw3057186477021145917 : Nat := 0
def PySem.W.Fast.tw14588180660469825107 : Nat := 0
def PySem.W.Fast.tw6425966316532938261 : Nat := 0
def PySem.W.Fast.tw14090939378308998943 : Nat := 0
def PySem.W.Fast.tw16105177623401058357 : Nat := 0
def PySem.W.Fast.tw3435919779261784560 : Nat := 0
def PySem.W.Fast.tw12754750340937889293 : Nat := 0
def PySem.W.Fast.tw17189057912953777186 : Nat := 0
def PySem.W.Fast.tw13496433087858855423 : Nat := 0
def PySem.W.Fast.tw14221711861560069840 : Nat := 0
def PySem.W.Fast.tw4391915161249942154 : Nat := 0
def PySem.W.Fast.tw2029283089386129128 : Nat := 0
def PySem.W.Fast.tw15488442976457153368 : Nat := 0
def PySem.W.Fast.tw1508064759034927743 : Nat := 0
def PySem.W.Fast.tw1013611228527401489 : Nat := 0
def PySem.W.Fast.tw6369125062634873176 : Nat := 0
def PySem.W.Fast.tw3353672995426633902 : Nat := 0
def PySem.W.Fast.tw1878052915860032103 : Nat := 0
def PySem.W.Fast.tw1144076420012594783 : Nat := 0
def PySem.W.Fast.tw5691179705170956540 : Nat := 0
def PySem.W.Fast.tw834314954572846424 : Nat := 0
def PySem.W.Fast.tw10896729423139885150 : Nat := 0
def PySem.W.Fast.tw10721018240265392084 : Nat := 0
def PySem.W.Fast.tw15028327278532200652 : Nat := 0
def PySem.W.Fast.tw8800702754434536329 : Nat := 0
def PySem.W.Fast.tw1722975407371742677 : Nat := 0
def PySem.W.Fast.tw15866422484340953110 : Nat := 0
def PySem.W.Fast.tw1530608622129471450 : Nat := 0
def PySem.W.Fast.tw13518633571704368832 : Nat := 0
def PySem.W.Fast.tw11103186385179938947 : Nat := 0
def PySem.W.Fast.tw3825763770820970515 : Nat := 0
def PySem.W.Fast.tw16279445323780003569 : Nat := 0
def PySem.W.Fast.tw5429822951200931519 : Nat := 0
def PySem.W.Fast.tw9438085476478450013 : Nat := 0
def PySem.W.Fast.tw8025301657067941958 : Nat := 0
def PySem.W.Fast.tw850009184152908833 : Nat := 0
def PySem.W.Fast.tw7127667645429983014 : Nat := 0
def PySem.W.Fast.tw7057832949090288739 : Nat := 0
def PySem.W.Fast.tw7792591852593840970 : Nat := 0
def PySem.W.Fast.tw523436273511494789 : Nat := 0
def PySem.W.Fast.tw6243895468732348238 : Nat := 0
def PySem.W.Fast.tw16388374044336687715 : Nat := 0
def PySem.W.Fast.tw2941468499136668871 : Nat := 0
def PySem.W.Fast.tw758533726271925991 : Nat := 0
def PySem.W.Fast.tw1980769034822357075 : Nat := 0
def PySem.W.Fast.tw9364287951706273306 : Nat := 0
def PySem.W.Fast.tw5590566499228670900 : Nat := 0
def PySem.W.Fast.tw3543769443110328407 : Nat := 0
def PySem.W.Fast.tw1389680758438051785 : Nat := 0
def PySem.W.Fast.tw6216222780816901054 : Nat := 0
def PySem.W.Fast.tw11769231066714368761 : Nat := 0
def PySem.W.Fast.tw18148558796956359012 : Nat := 0
def PySem.W.Fast.tw853043104329300470 : Nat := 0
def PySem.W.Fast.tw393575095924701461 : Nat := 0
def PySem.W.Fast.tw8013755884512483968 : Nat := 0
def PySem.W.Fast.tw13445541830250272559 : Nat := 0
def PySem.W.Fast.tw3344889161630936356 : Nat := 0
def PySem.W.Fast.tw1834211515270956586 : Nat := 0
def PySem.W.Fast.tw7882380892676756366 : Nat := 0
def PySem.W.Fast.tw9130180977138592047 : Nat := 0
def PySem.W.Fast.tw12907572786605556843 : Nat := 0
def PySem.W.Fast.tw3773294583484092070 : Nat := 0
def PySem.W.Fast.tw10408459701564374552 : Nat := 0
def PySem.W.Fast.tw1283553269149934706 : Nat := 0
def PySem.W.Fast.tw3518038322639938290 : Nat := 0
def PySem.W.Fast.tw7412600512508148248 : Nat := 0
def PySem.W.Fast.tw14285850319372883400 : Nat := 0
def PySem.W.Fast.tw13471834425748252666 : Nat := 0
def PySem.W.Fast.tw11418049120202032442 : Nat := 0
def PySem.W.Fast.tw14253669591580206045 : Nat := 0
def PySem.W.Fast.tw16959447657418864622 : Nat := 0
def PySem.W.Fast.tw10000809905955516951 : Nat := 0
def PySem.W.Fast.tw5841010713683555684 : Nat := 0
def PySem.W.Fast.tw11614290834800718951 : Nat := 0
def PySem.W.Fast.tw2960508175194387985 : Nat := 0
def PySem.W.Fast.tw12172895387754507445 : Nat := 0
def PySem.W.Fast.tw3244573793869652188 : Nat := 0
def PySem.W.Fast.tw18218679975265135653 : Nat := 0
def PySem.W.Fast.tw16810937955571492679 : Nat := 0
def PySem.W.Fast.tw6728070271195274005 : Nat := 0
def PySem.W.Fast.tw1835362509411624153 : Nat := 0
def PySem.W.Fast.tw11075502958275372997 : Nat := 0
def PySem.W.Fast.tw11545446715924463936 : Nat := 0
def PySem.W.Fast.tw7717226635634933400 : Nat := 0
def PySem.W.Fast.tw4846924152400232489 : Nat := 0
def PySem.W.Fast.tw4710616914622241734 : Nat := 0
def PySem.W.Fast.tw11012289788862644088 : Nat := 0
def PySem.W.Fast.tw13097616026418069450 : Nat := 0
def PySem.W.Fast.tw4096693664806813002 : Nat := 0
def PySem.W.Fast.tw5626474772078898689 : Nat := 0
def PySem.W.Fast.tw17052243007800280690 : Nat := 0
def PySem.W.Fast.tw5803692769676873428 : Nat := 0
def PySem.W.Fast.tw9250633936328150402 : Nat := 0
def PySem.W.Fast.tw9188336349544470650 : Nat := 0
def PySem.W.Fast.tw3128232466984208213 : Nat := 0
def PySem.W.Fast.tw4093899687776210077 : Nat := 0
def PySem.W.Fast.tw16081418105094825683 : Nat := 0
def PySem.W.Fast.tw12547385143075889835 : Nat := 0
def PySem.W.Fast.tw8324987651318817152 : Nat := 0
def PySem.W.Fast.tw13375996076577650113 : Nat := 0
def PySem.W.Fast.tw577032206647247534 : Nat := 0
def PySem.W.Fast.tw1977963162201473861 : Nat := 0
def PySem.W.Fast.tw3658675222363864461 : Nat := 0
def PySem.W.Fast.tw4394439351770201311 : Nat := 0
def PySem.W.Fast.tw11472287874488533703 : Nat := 0
def PySem.W.Fast.tw1881307737401445848 : Nat := 0
def PySem.W.Fast.tw16612613791671296107 : Nat := 0
def PySem.W.Fast.tw6018128764764110681 : Nat := 0
def PySem.W.Fast.tw9352149073770909167 : Nat := 0
def PySem.W.Fast.tw17641689737550688758 : Nat := 0
def PySem.W.Fast.tw504426342474998600 : Nat := 0
def PySem.W.Fast.tw4054057988991170258 : Nat := 0
def PySem.W.Fast.tw18314495102219882452 : Nat := 0
def PySem.W.Fast.tw10715021031366817097 : Nat := 0
def PySem.W.Fast.tw332516164511570557 : Nat := 0
def PySem.W.Fast.tw3818826794803167289 : Nat := 0
def PySem.W.Fast.tw14894096026398334497 : Nat := 0
def PySem.W.Fast.tw16261328555450995142 : Nat := 0
def PySem.W.Fast.tw5896487366887214613 : Nat := 0
def PySem.W.Fast.tw17112650318320192184 : Nat := 0
def PySem.W.Fast.tw11905453938108667038 : Nat := 0
def PySem.W.Fast.tw2855695952528018952 : Nat := 0
def PySem.W.Fast.tw17636768035775682579 : Nat := 0
def PySem.W.Fast.tw419710710586247988 : Nat := 0
def PySem.W.Fast.tw15919218672650099700 : Nat := 0
def PySem.W.Fast.tw11053691020643485828 : Nat := 0
def PySem.W.Fast.tw1760376203752284549 : Nat := 0
def PySem.W.Fast.tw7980064370510464737 : Nat := 0
def PySem.W.Fast.tw167057901912582602 : Nat := 0
def PySem.W.Fast.tw14923844851401656404 : Nat := 0
def PySem.W.Fast.tw5502738916934949847 : Nat := 0
def PySem.W.Fast.tw3724970817173656737 : Nat := 0
def PySem.W.Fast.tw5931063594513787052 : Nat := 0
def PySem.W.Fast.tw12573097220440854941 : Nat := 0
def PySem.W.Fast.tw11887305212002563690 : Nat := 0
def PySem.W.Fast.tw11172629437413363494 : Nat := 0
def PySem.W.Fast.tw13853696714518677384 : Nat := 0
def PySem.W.Fast.tw7126769341369443871 : Nat := 0
def PySem.W.Fast.tw7710469248739066003 : Nat := 0
def PySem.W.Fast.tw13789319180000438039 : Nat := 0
def PySem.W.Fast.tw16235065653341786533 : Nat := 0
def PySem.W.Fast.tw1082774320220952366 : Nat := 0
def PySem.W.Fast.tw4098474348946774281 : Nat := 0
def PySem.W.Fast.tw16997935942230515919 : Nat := 0
def PySem.W.Fast.tw8820840617551780132 : Nat := 0
def PySem.W.Fast.tw129064501240732200 : Nat := 0
def PySem.W.Fast.tw17529872253397592420 : Nat := 0
def PySem.W.Fast.tw4632389621693129713 : Nat := 0
def PySem.W.Fast.tw16728068629422930072 : Nat := 0
def PySem.W.Fast.tw15787178760853876933 : Nat := 0
def PySem.W.Fast.tw6636289402953702049 : Nat := 0
def PySem.W.Fast.tw13478344637927164851 : Nat := 0
def PySem.W.Fast.tw14394442293122453548 : Nat := 0
def PySem.W.Fast.tw9264190350093468187 : Nat := 0
def PySem.W.Fast.tw10464524955105672493 : Nat := 0
def PySem.W.Fast.tw3469812809416922168 : Nat := 0
def PySem.W.Fast.tw8008338050204058367 : Nat := 0
def PySem.W.Fast.tw17849821095593170708 : Nat := 0
def PySem.W.Fast.tw10242246514633758881 : Nat := 0
def PySem.W.Fast.tw9652575462584084286 : Nat := 0
def PySem.W.Fast.tw7355106007798980512 : Nat := 0
def PySem.W.Fast.tw3534138892107406759 : Nat := 0
def PySem.W.Fast.tw10560424450945583893 : Nat := 0
def PySem.W.Fast.tw1863551683560937715 : Nat := 0
def PySem.W.Fast.tw18205569598391418991 : Nat := 0
def PySem.W.Fast.tw12631939964091655245 : Nat := 0
def PySem.W.Fast.tw8061072296426532653 : Nat := 0
def PySem.W.Fast.tw8757172874383033727 : Nat := 0
def PySem.W.Fast.tw16208250049291489867 : Nat := 0
def PySem.W.Fast.tw12567464478408576976 : Nat := 0
def PySem.W.Fast.tw8207276459408038993 : Nat := 0
def PySem.W.Fast.tw7124832843321631196 : Nat := 0
def PySem.W.Fast.tw14123152192962581109 : Nat := 0
def PySem.W.Fast.tw12730848208663106767 : Nat := 0
def PySem.W.Fast.tw4952251872209706928 : Nat := 0
def PySem.W.Fast.tw3282023783153017857 : Nat := 0
def PySem.W.Fast.tw15638803664871327382 : Nat := 0
def PySem.W.Fast.tw13787347565418853306 : Nat := 0
def PySem.W.Fast.tw3609387671233902111 : Nat := 0
def PySem.W.Fast.tw11330498543442727344 : Nat := 0
def PySem.W.Fast.tw8316078814397870643 : Nat := 0
def PySem.W.Fast.tw14663245092177683907 : Nat := 0
def PySem.W.Fast.tw7870748465310005673 : Nat := 0
def PySem.W.Fast.tw13027416808684870902 : Nat := 0
def PySem.W.Fast.tw6945766690958038579 : Nat := 0
def PySem.W.Fast.tw15789965151442907714 : Nat := 0
def PySem.W.Fast.tw10901852175546084793 : Nat := 0
def PySem.W.Fast.tw14270464306709462203 : Nat := 0
def PySem.W.Fast.tw3861872993330265762 : Nat := 0
def PySem.W.Fast.tw3581587780796401087 : Nat := 0
def PySem.W.Fast.tw13986778370353252937 : Nat := 0
def PySem.W.Fast.tw13453892884098164019 : Nat := 0
def PySem.W.Fast.tw5180586938083933746 : Nat := 0
def PySem.W.Fast.tw7987074415034952054 : Nat := 0
def PySem.W.Fast.tw6538982825649666760 : Nat := 0
def PySem.W.Fast.tw12675884609366064105 : Nat := 0
def PySem.W.Fast.tw3370615680081191101 : Nat := 0
def PySem.W.Fast.tw9013954197974103351 : Nat := 0
def PySem.W.Fast.tw7593328681595620967 : Nat := 0
def PySem.W.Fast.tw11477842627542781272 : Nat := 0
def PySem.W.Fast.tw11069850394307861513 : Nat := 0
def PySem.W.Fast.tw8905877111198730530 : Nat := 0
def PySem.W.Fast.tw16390013615922365584 : Nat := 0
def PySem.W.Fast.tw9317557832225573175 : Nat := 0
def PySem.W.Fast.tw2076948472848977299 : Nat := 0
def PySem.W.Fast.tw14026238372885956532 : Nat := 0
def PySem.W.Fast.tw1045261248720592221 : Nat := 0
def PySem.W.Fast.tw10237041421795096181 : Nat := 0
def PySem.W.Fast.tw6130823093850374574 : Nat := 0
def PySem.W.Fast.tw11328683816168088301 : Nat := 0
def PySem.W.Fast.tw14898274292022303293 : Nat := 0
def PySem.W.Fast.tw9335773416946727561 : Nat := 0
def PySem.W.Fast.tw9620276663423775824 : Nat := 0
def PySem.W.Fast.tw17028930714446883722 : Nat := 0
def PySem.W.Fast.tw8446354868913387656 : Nat := 0
def PySem.W.Fast.tw6815907849072008344 : Nat := 0
def PySem.W.Fast.tw17945484634878427943 : Nat := 0
def PySem.W.Fast.tw3575587198361124861 : Nat := 0
def PySem.W.Fast.tw8868724933102573648 : Nat := 0
def PySem.W.Fast.tw6414255944593863521 : Nat := 0
def PySem.W.Fast.tw12742732133969488642 : Nat := 0
def PySem.W.Fast.tw5746611764488062659 : Nat := 0
def PySem.W.Fast.tw14279319024247533681 : Nat := 0
def PySem.W.Fast.tw18138615958940941151 : Nat := 0
def PySem.W.Fast.tw18361473469500165195 : Nat := 0
def PySem.W.Fast.tw4860366405287735431 : Nat := 0
def PySem.W.Fast.tw16617122035781477386 : Nat := 0
def PySem.W.Fast.tw8736440309512875581 : Nat := 0
def PySem.W.Fast.tw15518956794178571670 : Nat := 0
def PySem.W.Fast.tw15413956962340851493 : Nat := 0
def PySem.W.Fast.tw5519346477807010188 : Nat := 0
def PySem.W.Fast.tw3895274582053372193 : Nat := 0
def PySem.W.Fast.tw16408630055455598366 : Nat := 0
def PySem.W.Fast.tw2380432341891810747 : Nat := 0
def PySem.W.Fast.tw1449207158525300352 : Nat := 0
def PySem.W.Fast.tw2501673502342346747 : Nat := 0
def PySem.W.Fast.tw12927840477607685494 : Nat := 0
def PySem.W.Fast.tw11703191100770817056 : Nat := 0
def PySem.W.Fast.tw10711010085479957662 : Nat := 0
def PySem.W.Fast.tw13607747475995250326 : Nat := 0
def PySem.W.Fast.tw1237049135320389920 : Nat := 0
def PySem.W.Fast.tw2664860538237154076 : Nat := 0
def PySem.W.Fast.tw5599921642144262040 : Nat := 0
def PySem.W.Fast.tw2233192286736772997 : Nat := 0
def PySem.W.Fast.tw7344358954842480682 : Nat := 0
def PySem.W.Fast.tw13206359471015651904 : Nat := 0
def PySem.W.Fast.tw15777563789234543400 : Nat := 0
def PySem.W.Fast.tw3817071544286523247 : Nat := 0
def PySem.W.Fast.tw11858535624809900373 : Nat := 0
def PySem.W.Fast.tw5958721424217935909 : Nat := 0
def PySem.W.Fast.tw7143186303684935482 : Nat := 0
def PySem.W.Fast.tw9968011443688474287 : Nat := 0
def PySem.W.Fast.tw4227141904674683614 : Nat := 0
def PySem.W.Fast.tw14262826810750535433 : Nat := 0
def PySem.W.Fast.tw969952946215748052 : Nat := 0
def PySem.W.Fast.tw155136091537985417 : Nat := 0
def PySem.W.Fast.tw9046459642445138767 : Nat := 0
def PySem.W.Fast.tw12406084223580016393 : Nat := 0
def PySem.W.Fast.tw18234214827908465856 : Nat := 0
def PySem.W.Fast.tw18130591352060476492 : Nat := 0
def PySem.W.Fast.tw16861170773190716108 : Nat := 0
def PySem.W.Fast.tw3857472821041476037 : Nat := 0
def PySem.W.Fast.tw17905574836475340841 : Nat := 0
def PySem.W.Fast.tw13845424172577664112 : Nat := 0
def PySem.W.Fast.tw1225406541634352047 : Nat := 0
def PySem.W.Fast.tw8035880522427873586 : Nat := 0
def PySem.W.Fast.tw6599226830216189034 : Nat := 0
def PySem.W.Fast.tw288274365713651760 : Nat := 0
def PySem.W.Fast.tw10701354449798099019 : Nat := 0
def PySem.W.Fast.tw12536913368928432010 : Nat := 0
def PySem.W.Fast.tw10935838721135932953 : Nat := 0
def PySem.W.Fast.tw2955425288126382490 : Nat := 0
def PySem.W.Fast.tw8462078866294537769 : Nat := 0
def PySem.W.Fast.tw3832314091385558214 : Nat := 0
def PySem.W.Fast.tw10980416891551332881 : Nat := 0
def PySem.W.Fast.tw8335371871167120523 : Nat := 0
def PySem.W.Fast.tw1009961536892591178 : Nat := 0
def PySem.W.Fast.tw12550112272856783862 : Nat := 0
def PySem.W.Fast.tw16310188661347195852 : Nat := 0
def PySem.W.Fast.tw10753674027608301603 : Nat := 0
def PySem.W.Fast.tw13452248697349546593 : Nat := 0
def PySem.W.Fast.tw1658248652318824442 : Nat := 0
def PySem.W.Fast.tw10858910935509740016 : Nat := 0
def PySem.W.Fast.tw5595930813644323614 : Nat := 0
def PySem.W.Fast.tw10367762942708292039 : Nat := 0
def PySem.W.Fast.tw7032249465603532511 : Nat := 0
def PySem.W.Fast.tw94470474172596652 : Nat := 0
def PySem.W.Fast.tw18198796020788433297 : Nat := 0
def PySem.W.Fast.tw4871789923920978943 : Nat := 0
def PySem.W.Fast.tw17723698792252895890 : Nat := 0
def PySem.W.Fast.tw1415799428094784493 : Nat := 0
def PySem.W.Fast.tw7981162276044145238 : Nat := 0
def PySem.W.Fast.tw8724181088110389502 : Nat := 0
def PySem.W.Fast.tw2982756943636342984 : Nat := 0
def PySem.W.Fast.tw2475010966833867486 : Nat := 0
def PySem.W.Fast.tw14902525310436702633 : Nat := 0
def PySem.W.Fast.tw7492680425215928283 : Nat := 0
def PySem.W.Fast.tw10398566020483647864 : Nat := 0
def PySem.W.Fast.tw4199214751635002827 : Nat := 0
def PySem.W.Fast.tw2000100431562233505 : Nat := 0
def PySem.W.Fast.tw10373769421094975576 : Nat := 0
def PySem.W.Fast.tw16442601639540535580 : Nat := 0
def PySem.W.Fast.tw14335598783188276156 : Nat := 0
def PySem.W.Fast.tw17714254132619517324 : Nat := 0
def PySem.W.Fast.tw9055495272098435432 : Nat := 0
def PySem.W.Fast.tw11018142039976233006 : Nat := 0
def PySem.W.Fast.tw12453592691569694702 : Nat := 0
def PySem.W.Fast.tw13796226685755542966 : Nat := 0
def PySem.W.Fast.tw16819911504095978660 : Nat := 0
def PySem.W.Fast.tw1979670847192709843 : Nat := 0
def PySem.W.Fast.tw7953973953625993906 : Nat := 0
def PySem.W.Fast.tw11241598399519754116 : Nat := 0
def PySem.W.Fast.tw4320386407611714221 : Nat := 0
def PySem.W.Fast.tw6036813637110388121 : Nat := 0
def PySem.W.Fast.tw12205536348326064428 : Nat := 0
def PySem.W.Fast.tw6698403889848524205 : Nat := 0
def PySem.W.Fast.tw894397173576356603 : Nat := 0
def PySem.W.Fast.tw4990669025954354725 : Nat := 0
def PySem.W.Fast.tw10910397531593255377 : Nat := 0
def PySem.W.Fast.tw17614369205374943766 : Nat := 0
def PySem.W.Fast.tw13234071311267625451 : Nat := 0
def PySem.W.Fast.tw9272878213711163327 : Nat := 0
def PySem.W.Fast.tw7812063384533565722 : Nat := 0
def PySem.W.Fast.tw9511377464861687092 : Nat := 0
def PySem.W.Fast.tw10352053668592336200 : Nat := 0
def PySem.W.Fast.tw16270843456079823387 : Nat := 0
def PySem.W.Fast.tw11805069627379040070 : Nat := 0
def PySem.W.Fast.tw16307460235288599126 : Nat := 0
def PySem.W.Fast.tw5809152276375503021 : Nat := 0
def PySem.W.Fast.tw7070415629217099117 : Nat := 0
def PySem.W.Fast.tw13690646688855788322 : Nat := 0
def PySem.W.Fast.tw6683468051846848048 : Nat := 0
def PySem.W.Fast.tw12480758623153489913 : Nat := 0
def PySem.W.Fast.tw13835179084800847955 : Nat := 0
def PySem.W.Fast.tw1208008441407802497 : Nat := 0
def PySem.W.Fast.tw13641531927925063508 : Nat := 0
def PySem.W.Fast.tw11730303908647374039 : Nat := 0
def PySem.W.Fast.tw17303978968211687843 : Nat := 0
def PySem.W.Fast.tw4827222896863026183 : Nat := 0
def PySem.W.Fast.tw17316730934081765130 : Nat := 0
def PySem.W.Fast.tw6306968692287470684 : Nat := 0
def PySem.W.Fast.tw13949221832561123239 : Nat := 0
def PySem.W.Fast.tw11613434507236550014 : Nat := 0
def PySem.W.Fast.tw16117225590507262815 : Nat := 0
def PySem.W.Fast.tw7231566570833903658 : Nat := 0
def PySem.W.Fast.tw6157363246611427741 : Nat := 0
def PySem.W.Fast.tw8476109625416585449 : Nat := 0
def PySem.W.Fast.tw9836417589557214373 : Nat := 0
def PySem.W.Fast.tw98982454732401997 : Nat := 0
def PySem.W.Fast.tw3319543961325956713 : Nat := 0
def PySem.W.Fast.tw7021622320148267640 : Nat := 0
def PySem.W.Fast.tw6933889396733003329 : Nat := 0
def PySem.W.Fast.tw15371492611916720086 : Nat := 0
def PySem.W.Fast.tw12355895054069599842 : Nat := 0
def PySem.W.Fast.tw8505735903551376376 : Nat := 0
def PySem.W.Fast.tw9668400415621479577 : Nat := 0
def PySem.W.Fast.tw9098107262061871461 : Nat := 0
def PySem.W.Fast.tw14417296181531264968 : Nat := 0
def PySem.W.Fast.tw13261755336300186196 : Nat := 0
def PySem.W.Fast.tw7477079495071860897 : Nat := 0
def PySem.W.Fast.tw9928891164674848238 : Nat := 0
def PySem.W.Fast.tw17711590206893247122 : Nat := 0
def PySem.W.Fast.tw9611813979842900899 : Nat := 0
def PySem.W.Fast.tw12289165320597006084 : Nat := 0
def PySem.W.Fast.tw10175259278608151180 : Nat := 0
def PySem.W.Fast.tw9401887443515733681 : Nat := 0
def PySem.W.Fast.tw12149103312599837146 : Nat := 0
def PySem.W.Fast.tw2115735863316175300 : Nat := 0
def PySem.W.Fast.tw16305136656939776969 : Nat := 0
def PySem.W.Fast.tw14755921802928870975 : Nat := 0
def PySem.W.Fast.tw14916671815975918751 : Nat := 0
def PySem.W.Fast.tw10584644240111769954 : Nat := 0
def PySem.W.Fast.tw224559752382182068 : Nat := 0
def PySem.W.Fast.tw10844579471840397747 : Nat := 0
def PySem.W.Fast.tw789553667070357212 : Nat := 0
def PySem.W.Fast.tw2353929120115189787 : Nat := 0
def PySem.W.Fast.tw2539248921622141051 : Nat := 0
def PySem.W.Fast.tw9050913073771951478 : Nat := 0
def PySem.W.Fast.tw17361348113835343432 : Nat := 0
def PySem.W.Fast.tw11047484719181079790 : Nat := 0
def PySem.W.Fast.tw4653849841120836925 : Nat := 0
def PySem.W.Fast.tw7740365558855916005 : Nat := 0
def PySem.W.Fast.tw4775405851507230676 : Nat := 0
def PySem.W.Fast.tw4972688568659944197 : Nat := 0
def PySem.W.Fast.tw2176506603651672068 : Nat := 0
def PySem.W.Fast.tw16464950548897225190 : Nat := 0
def PySem.W.Fast.tw11745932010790695579 : Nat := 0
def PySem.W.Fast.tw11353205172196375015 : Nat := 0
def PySem.W.Fast.tw9004846999406729654 : Nat := 0
def PySem.W.Fast.tw14812414821737119737 : Nat := 0
def PySem.W.Fast.tw5716988615386704164 : Nat := 0
def PySem.W.Fast.tw18009754315827304885 : Nat := 0
def PySem.W.Fast.tw18119614967441899556 : Nat := 0
def PySem.W.Fast.tw7013478313610241487 : Nat := 0
def PySem.W.Fast.tw13653826628788536549 : Nat := 0
def PySem.W.Fast.tw16994780192706660463 : Nat := 0
def PySem.W.Fast.tw11459511358593654614 : Nat := 0
def PySem.W.Fast.tw2241243449170304823 : Nat := 0
def PySem.W.Fast.tw17069207554686587129 : Nat := 0
def PySem.W.Fast.tw6448146324746855131 : Nat := 0
def PySem.W.Fast.tw1864302127566828414 : Nat := 0
def PySem.W.Fast.tw17096746626683130962 : Nat := 0
def PySem.W.Fast.tw13213526103116695478 : Nat := 0
def PySem.W.Fast.tw7305741647705429061 : Nat := 0
def PySem.W.Fast.tw11433811005054426185 : Nat := 0
def PySem.W.Fast.tw9073444782695379165 : Nat := 0
def PySem.W.Fast.tw566811831119027271 : Nat := 0
def PySem.W.Fast.tw2660464992276099060 : Nat := 0
def PySem.W.Fast.tw17099902436103420478 : Nat := 0
def PySem.W.Fast.tw11459436679131271103 : Nat := 0
def PySem.W.Fast.tw9229754372215994924 : Nat := 0
def PySem.W.Fast.tw2862603211335111156 : Nat := 0
def PySem.W.Fast.tw8250625400257717081 : Nat := 0
def PySem.W.Fast.tw14910514504753063302 : Nat := 0
def PySem.W.Fast.tw15045756357218242666 : Nat := 0
def PySem.W.Fast.tw15351023286283623391 : Nat := 0
def PySem.W.Fast.tw12657587813442713255 : Nat := 0
def PySem.W.Fast.tw8210611768813216902 : Nat := 0
def PySem.W.Fast.tw12970735582477738470 : Nat := 0
def PySem.W.Fast.tw4345346676570937632 : Nat := 0
def PySem.W.Fast.tw18081720018735013459 : Nat := 0
def PySem.W.Fast.tw1076292805087496876 : Nat := 0
def PySem.W.Fast.tw9146386201697963008 : Nat := 0
def PySem.W.Fast.tw13649974112786433451 : Nat := 0
def PySem.W.Fast.tw879258771904836490 : Nat := 0
def PySem.W.Fast.tw11976688998100793739 : Nat := 0
def PySem.W.Fast.tw10702149265131186906 : Nat := 0
def PySem.W.Fast.tw5444793679367330181 : Nat := 0
def PySem.W.Fast.tw17494298169360657510 : Nat := 0
def PySem.W.Fast.tw14479298306407953585 : Nat := 0
def PySem.W.Fast.tw4271128384105310817 : Nat := 0
def PySem.W.Fast.tw150095043225047948 : Nat := 0
def PySem.W.Fast.tw5634836066271236422 : Nat := 0
def PySem.W.Fast.tw4058356479056094636 : Nat := 0
def PySem.W.Fast.tw16717044717237209033 : Nat := 0
def PySem.W.Fast.tw9031886242942103466 : Nat := 0
def PySem.W.Fast.tw7166322056197675869 : Nat := 0
def PySem.W.Fast.tw14300661923328284860 : Nat := 0
def PySem.W.Fast.tw7761528653962241617 : Nat := 0
def PySem.W.Fast.tw14423065547932869772 : Nat := 0
def PySem.W.Fast.tw5341267584798108729 : Nat := 0
def PySem.W.Fast.tw3571182816033917611 : Nat := 0
def PySem.W.Fast.tw2590207270627565841 : Nat := 0
def PySem.W.Fast.tw12280507963614202005 : Nat := 0
def PySem.W.Fast.tw10012201145252068949 : Nat := 0
def PySem.W.Fast.tw6993452290270345988 : Nat := 0
def PySem.W.Fast.tw1097053408741291564 : Nat := 0
def PySem.W.Fast.tw8409200831500585826 : Nat := 0
def PySem.W.Fast.tw18147166885975872675 : Nat := 0
def PySem.W.Fast.tw14856016912760252646 : Nat := 0
def PySem.W.Fast.tw11746095237378344802 : Nat := 0
def PySem.W.Fast.tw14679233308419476017 : Nat := 0
def PySem.W.Fast.tw9787894433429489602 : Nat := 0
def PySem.W.Fast.tw1076452570715007936 : Nat := 0
def PySem.W.Fast.tw4068842491273601010 : Nat := 0
def PySem.W.Fast.tw12272088589321967426 : Nat := 0
def PySem.W.Fast.tw13044957441379298545 : Nat := 0
def PySem.W.Fast.tw16331941902740369176 : Nat := 0
def PySem.W.Fast.tw17056117897368115416 : Nat := 0
def PySem.W.Fast.tw1550506292904159787 : Nat := 0
def PySem.W.Fast.tw16000836918378824030 : Nat := 0
def PySem.W.Fast.tw13627001365842821868 : Nat := 0
def PySem.W.Fast.tw9867732199357743216 : Nat := 0
def PySem.W.Fast.tw13407285199739402569 : Nat := 0
def PySem.W.Fast.tw8016120527960971167 : Nat := 0
def PySem.W.Fast.tw240612020485084864 : Nat := 0
def PySem.W.Fast.tw16081546790195501739 : Nat := 0
def PySem.W.Fast.tw3561696555804962806 : Nat := 0
def PySem.W.Fast.tw8077999955206248303 : Nat := 0
def PySem.W.Fast.tw11412108237006537470 : Nat := 0
def PySem.W.Fast.tw11450945226943839375 : Nat := 0
def PySem.W.Fast.tw10292559343909638433 : Nat := 0
def PySem.W.Fast.tw8037143543776043228 : Nat := 0
def PySem.W.Fast.tw12529627117170218652 : Nat := 0
def PySem.W.Fast.tw13063562569370701968 : Nat := 0
def PySem.W.Fast.tw7521646037968726635 : Nat := 0
def PySem.W.Fast.tw228188007874442505 : Nat := 0
def PySem.W.Fast.tw18197468557208729679 : Nat := 0
def PySem.W.Fast.tw577355846633543970 : Nat := 0
def PySem.W.Fast.tw4419431155436033788 : Nat := 0
def PySem.W.Fast.tw1602500132412607227 : Nat := 0
def PySem.W.Fast.tw14298537769738241679 : Nat := 0
def PySem.W.Fast.tw11672855998670790662 : Nat := 0
def PySem.W.Fast.tw15224198224074552770 : Nat := 0
def PySem.W.Fast.tw12475899853665045050 : Nat := 0
def PySem.W.Fast.tw6572366317220013411 : Nat := 0
def PySem.W.Fast.tw9355979203075078699 : Nat := 0
def PySem.W.Fast.tw6834092928063313101 : Nat := 0
def PySem.W.Fast.tw14199299059961006406 : Nat := 0
def PySem.W.Fast.tw3827561686038174604 : Nat := 0
def PySem.W.Fast.tw9723969408970972042 : Nat := 0
def PySem.W.Fast.tw8317222602817576885 : Nat := 0
def PySem.W.Fast.tw2128281375801967499 : Nat := 0
def PySem.W.Fast.tw5585571444990568858 : Nat := 0
def PySem.W.Fast.tw17620414484621562179 : Nat := 0
def PySem.W.Fast.tw6248765745244004327 : Nat := 0
def PySem.W.Fast.tw15429232705242149608 : Nat := 0
def PySem.W.Fast.tw11180824157015053093 : Nat := 0
def PySem.W.Fast.tw16627567617796655635 : Nat := 0
def PySem.W.Fast.tw14237366323711726258 : Nat := 0
def PySem.W.Fast.tw14707510846522075847 : Nat := 0
def PySem.W.Fast.tw15350969247283203810 : Nat := 0
def PySem.W.Fast.tw2922027834175484284 : Nat := 0
def PySem.W.Fast.tw13405652268526998949 : Nat := 0
def PySem.W.Fast.tw6018704179193252399 : Nat := 0
def PySem.W.Fast.tw5229206417359221883 : Nat := 0
def PySem.W.Fast.tw5435380824665468662 : Nat := 0
def PySem.W.Fast.tw14338120192048614941 : Nat := 0
def PySem.W.Fast.tw896136746256790674 : Nat := 0
def PySem.W.Fast.tw1499187159687566958 : Nat := 0
def PySem.W.Fast.tw12868876134966812101 : Nat := 0
def PySem.W.Fast.tw10640620323172197158 : Nat := 0
def PySem.W.Fast.tw7172285002843705616 : Nat := 0
def PySem.W.Fast.tw9113269001670957121 : Nat := 0
def PySem.W.Fast.tw1935026276788449574 : Nat := 0
def PySem.W.Fast.tw9512255236084755347 : Nat := 0
def PySem.W.Fast.tw10081593439858804610 : Nat := 0
def PySem.W.Fast.tw16721193726338498617 : Nat := 0
def PySem.W.Fast.tw1538019323975047759 : Nat := 0
def PySem.W.Fast.tw13606462615691819471 : Nat := 0
def PySem.W.Fast.tw9246486244280169857 : Nat := 0
def PySem.W.Fast.tw6546557394407769235 : Nat := 0
def PySem.W.Fast.tw4033105875039843798 : Nat := 0
def PySem.W.Fast.tw10593820558358478865 : Nat := 0
def PySem.W.Fast.tw5678418014635808910 : Nat := 0
def PySem.W.Fast.tw5568170091455405328 : Nat := 0
def PySem.W.Fast.tw8328627630598811143 : Nat := 0
def PySem.W.Fast.tw14424245309404416781 : Nat := 0
def PySem.W.Fast.tw10870014494010253562 : Nat := 0
def PySem.W.Fast.tw15591660315663760974 : Nat := 0
def PySem.W.Fast.tw18356694758409552563 : Nat := 0
def PySem.W.Fast.tw16659228436928042215 : Nat := 0
def PySem.W.Fast.tw13649771284316687071 : Nat := 0
def PySem.W.Fast.tw10989199329552189777 : Nat := 0
def PySem.W.Fast.tw7235448775306064738 : Nat := 0
def PySem.W.Fast.tw2478692753587601679 : Nat := 0
def PySem.W.Fast.tw2821391766187813752 : Nat := 0
def PySem.W.Fast.tw14262113594770491344 : Nat := 0
def PySem.W.Fast.tw8790983164943923756 : Nat := 0
def PySem.W.Fast.tw6995375590189769268 : Nat := 0
def PySem.W.Fast.tw8287436463702039146 : Nat := 0
def PySem.W.Fast.tw1548450717229736324 : Nat := 0
def PySem.W.Fast.tw15134940117496996950 : Nat := 0
def PySem.W.Fast.tw431303192683928059 : Nat := 0
def PySem.W.Fast.tw7522839162324006150 : Nat := 0
def PySem.W.Fast.tw11793872551176059583 : Nat := 0
def PySem.W.Fast.tw187207517831418570 : Nat := 0
def PySem.W.Fast.tw16733175565846174686 : Nat := 0
def PySem.W.Fast.tw11249490559184739869 : Nat := 0
def PySem.W.Fast.tw1659127733811111456 : Nat := 0
def PySem.W.Fast.tw8955377672708712046 : Nat := 0
def PySem.W.Fast.tw4397424419801459613 : Nat := 0
def PySem.W.Fast.tw7431683509067273442 : Nat := 0
def PySem.W.Fast.tw9967431205639565362 : Nat := 0
def PySem.W.Fast.tw1197457996748873773 : Nat := 0
def PySem.W.Fast.tw12026967195263156446 : Nat := 0
def PySem.W.Fast.tw17453638103273345919 : Nat := 0
def PySem.W.Fast.tw6152113740028011183 : Nat := 0
def PySem.W.Fast.tw9713836390904487881 : Nat := 0
def PySem.W.Fast.tw2779410923379524683 : Nat := 0
def PySem.W.Fast.tw3413945612890394057 : Nat := 0
def PySem.W.Fast.tw10623612775891932575 : Nat := 0
def PySem.W.Fast.tw9105692461078984311 : Nat := 0
def PySem.W.Fast.tw2122824282177509501 : Nat := 0
def PySem.W.Fast.tw14274442041461490556 : Nat := 0
def PySem.W.Fast.tw14143381098737827360 : Nat := 0
def PySem.W.Fast.tw18283554742820295406 : Nat := 0
def PySem.W.Fast.tw4172141092950624284 : Nat := 0
def PySem.W.Fast.tw11402272463890745727 : Nat := 0
def PySem.W.Fast.tw12111992861972658353 : Nat := 0
def PySem.W.Fast.tw14844334651955888496 : Nat := 0
def PySem.W.Fast.tw9630035005021038066 : Nat := 0
def PySem.W.Fast.tw597106077105501669 : Nat := 0
def PySem.W.Fast.tw6381683010996437496 : Nat := 0
def PySem.W.Fast.tw2666451926899626180 : Nat := 0
def PySem.W.Fast.tw17668881917407834416 : Nat := 0
def PySem.W.Fast.tw18229225276760389423 : Nat := 0
def PySem.W.Fast.tw2343532135070808664 : Nat := 0
def PySem.W.Fast.tw11224479131323057718 : Nat := 0
def PySem.W.Fast.tw17823699032579853382 : Nat := 0
def PySem.W.Fast.tw14973266134380032374 : Nat := 0
def PySem.W.Fast.tw3387589908635146393 : Nat := 0
def PySem.W.Fast.tw17862718024719525036 : Nat := 0
def PySem.W.Fast.tw15499478958639040813 : Nat := 0
def PySem.W.Fast.tw1771691764467247470 : Nat := 0
def PySem.W.Fast.tw11454256354758948516 : Nat := 0
def PySem.W.Fast.tw4033980536950274910 : Nat := 0
def PySem.W.Fast.tw16914425402755758396 : Nat := 0
def PySem.W.Fast.tw14371917700640647765 : Nat := 0
def PySem.W.Fast.tw11984788242485970527 : Nat := 0
def PySem.W.Fast.tw1213067255094126351 : Nat := 0
def PySem.W.Fast.tw12820407849688080398 : Nat := 0
def PySem.W.Fast.tw13387917876116282943 : Nat := 0
def PySem.W.Fast.tw1191301773853465746 : Nat := 0
def PySem.W.Fast.tw2214844972443158778 : Nat := 0
def PySem.W.Fast.tw3469488617564031646 : Nat := 0
def PySem.W.Fast.tw6671598653767246203 : Nat := 0
def PySem.W.Fast.tw6027048923860611629 : Nat := 0
def PySem.W.Fast.tw12986360196789283322 : Nat := 0
def PySem.W.Fast.tw11871235518210903993 : Nat := 0
def PySem.W.Fast.tw11468846509185987201 : Nat := 0
def PySem.W.Fast.tw11849553590286818888 : Nat := 0
def PySem.W.Fast.tw6126755434399834246 : Nat := 0
def PySem.W.Fast.tw18029842219815573699 : Nat := 0
def PySem.W.Fast.tw4598241016268242459 : Nat := 0
def PySem.W.Fast.tw8068739094818285466 : Nat := 0
def PySem.W.Fast.tw18101696770273358576 : Nat := 0
def PySem.W.Fast.tw5106267338654579677 : Nat := 0
def PySem.W.Fast.tw6372687340751414963 : Nat := 0
def PySem.W.Fast.tw12135297473278905826 : Nat := 0
def PySem.W.Fast.tw15773106845732492103 : Nat := 0
def PySem.W.Fast.tw9303378983941139599 : Nat := 0
def PySem.W.Fast.tw5734135262123968873 : Nat := 0
def PySem.W.Fast.tw4837065644485322463 : Nat := 0
def PySem.W.Fast.tw3822895397408069031 : Nat := 0
def PySem.W.Fast.tw17248275417372280303 : Nat := 0
def PySem.W.Fast.tw13202212709818107537 : Nat := 0
def PySem.W.Fast.tw9257527211519015856 : Nat := 0
def PySem.W.Fast.tw8444247910935536941 : Nat := 0
def PySem.W.Fast.tw16192154938269026313 : Nat := 0
def PySem.W.Fast.tw5691548891878838230 : Nat := 0
def PySem.W.Fast.tw3116673506944011474 : Nat := 0
def PySem.W.Fast.tw17283670753332689861 : Nat := 0
def PySem.W.Fast.tw17671984062089761280 : Nat := 0
def PySem.W.Fast.tw6826629102839691497 : Nat := 0
def PySem.W.Fast.tw3060348850630606985 : Nat := 0
def PySem.W.Fast.tw12526474975258433926 : Nat := 0
def PySem.W.Fast.tw13352540641260780238 : Nat := 0
def PySem.W.Fast.tw4524595175327404912 : Nat := 0
def PySem.W.Fast.tw1647418508366611291 : Nat := 0
def PySem.W.Fast.tw1149615408300930149 : Nat := 0
def PySem.W.Fast.tw16774959758670299408 : Nat := 0
def PySem.W.Fast.tw7071615645871610086 : Nat := 0
def PySem.W.Fast.tw5216210462239425818 : Nat := 0
def PySem.W.Fast.tw910904026497066049 : Nat := 0
def PySem.W.Fast.tw10113831469360615474 : Nat := 0
def PySem.W.Fast.tw2285201962426628197 : Nat := 0
def PySem.W.Fast.tw10261720845830047018 : Nat := 0
def PySem.W.Fast.tw3583012060737589474 : Nat := 0
def PySem.W.Fast.tw16444087466583125024 : Nat := 0
def PySem.W.Fast.tw11336350572262067130 : Nat := 0
def PySem.W.Fast.tw16383922738252537145 : Nat := 0
def PySem.W.Fast.tw8930331048415457203 : Nat := 0
def PySem.W.Fast.tw440997700986377059 : Nat := 0
def PySem.W.Fast.tw714847483850093636 : Nat := 0
def PySem.W.Fast.tw6099465767695228685 : Nat := 0
def PySem.W.Fast.tw17478622509401555122 : Nat := 0
def PySem.W.Fast.tw9299869340863055239 : Nat := 0
def PySem.W.Fast.tw1471750114546321523 : Nat := 0
def PySem.W.Fast.tw2393920365252718130 : Nat := 0
def PySem.W.Fast.tw3893695891216647593 : Nat := 0
def PySem.W.Fast.tw2539228596869711127 : Nat := 0
def PySem.W.Fast.tw5232741107918127668 : Nat := 0
def PySem.W.Fast.tw1778566904752182450 : Nat := 0
def PySem.W.Fast.tw16808237614816394166 : Nat := 0
def PySem.W.Fast.tw12710805553069402222 : Nat := 0
def PySem.W.Fast.tw2006217427010710283 : Nat := 0
def PySem.W.Fast.tw12882944997342379316 : Nat := 0
def PySem.W.Fast.tw14812252743456720913 : Nat := 0
def PySem.W.Fast.tw8034742742635383083 : Nat := 0
def PySem.W.Fast.tw15531795804826390374 : Nat := 0
def PySem.W.Fast.tw2277251165061011096 : Nat := 0
def PySem.W.Fast.tw6626157733005582318 : Nat := 0
def PySem.W.Fast.tw13867177341138621223 : Nat := 0
def PySem.W.Fast.tw4682752970316171265 : Nat := 0
def PySem.W.Fast.tw12845399931559349588 : Nat := 0
def PySem.W.Fast.tw3837138444588814656 : Nat := 0
def PySem.W.Fast.tw8910149986003588891 : Nat := 0
def PySem.W.Fast.tw1560082779281592925 : Nat := 0
def PySem.W.Fast.tw2295784006953897970 : Nat := 0
def PySem.W.Fast.tw7547462169063803563 : Nat := 0
def PySem.W.Fast.tw17431002548347363281 : Nat := 0
def PySem.W.Fast.tw4550128430358238073 : Nat := 0
def PySem.W.Fast.tw2011572264391033648 : Nat := 0
def PySem.W.Fast.tw6700258384863361917 : Nat := 0
def PySem.W.Fast.tw7933142925806319756 : Nat := 0
def PySem.W.Fast.tw15374457888937802895 : Nat := 0
def PySem.W.Fast.tw10126390348722572377 : Nat := 0
def PySem.W.Fast.tw6355282323885612089 : Nat := 0
def PySem.W.Fast.tw9687558224229097298 : Nat := 0
def PySem.W.Fast.tw5357624598501727679 : Nat := 0
def PySem.W.Fast.tw10475557413945298675 : Nat := 0
def PySem.W.Fast.tw10617011055446441747 : Nat := 0
def PySem.W.Fast.tw2055749783977784080 : Nat := 0
def PySem.W.Fast.tw11700754108890300704 : Nat := 0
def PySem.W.Fast.tw4433696865128552251 : Nat := 0
def PySem.W.Fast.tw15917477415642014246 : Nat := 0
def PySem.W.Fast.tw16448207064032035259 : Nat := 0
def PySem.W.Fast.tw5889151828954308516 : Nat := 0
def PySem.W.Fast.tw14699424022830777508 : Nat := 0
def PySem.W.Fast.tw6803386745351072972 : Nat := 0
def PySem.W.Fast.tw5064313990392645608 : Nat := 0
def PySem.W.Fast.tw4633534374645187259 : Nat := 0
def PySem.W.Fast.tw11138280297682470293 : Nat := 0
def PySem.W.Fast.tw6098314864149560193 : Nat := 0
def PySem.W.Fast.tw13464866054249556143 : Nat := 0
def PySem.W.Fast.tw5264969075621881308 : Nat := 0
def PySem.W.Fast.tw2106863248861225489 : Nat := 0
def PySem.W.Fast.tw6012556802657872287 : Nat := 0
def PySem.W.Fast.tw5955440637619101384 : Nat := 0
def PySem.W.Fast.tw4433539742458164417 : Nat := 0
def PySem.W.Fast.tw4019497329394375308 : Nat := 0
def PySem.W.Fast.tw17037782697529015072 : Nat := 0
def PySem.W.Fast.tw10854599563317374820 : Nat := 0
def PySem.W.Fast.tw13592880893985596250 : Nat := 0
def PySem.W.Fast.tw14297964793043321252 : Nat := 0
def PySem.W.Fast.tw10919454215562234318 : Nat := 0
def PySem.W.Fast.tw8169146896755975673 : Nat := 0
def PySem.W.Fast.tw9800187492392062930 : Nat := 0
def PySem.W.Fast.tw15783595839581060956 : Nat := 0
def PySem.W.Fast.tw1179348705889750358 : Nat := 0
def PySem.W.Fast.tw9366655289175636602 : Nat := 0
def PySem.W.Fast.tw1375535341411334339 : Nat := 0
def PySem.W.Fast.tw4508079594535000363 : Nat := 0
def PySem.W.Fast.tw5122871075751998199 : Nat := 0
def PySem.W.Fast.tw10898553299523634962 : Nat := 0
def PySem.W.Fast.tw14227850130948567822 : Nat := 0
def PySem.W.Fast.tw10592536065019823670 : Nat := 0
def PySem.W.Fast.tw15407686725131587093 : Nat := 0
def PySem.W.Fast.tw2994716561184062204 : Nat := 0
def PySem.W.Fast.tw4920690498981250867 : Nat := 0
def PySem.W.Fast.tw16859712672319558525 : Nat := 0
def PySem.W.Fast.tw7239540079039820569 : Nat := 0
def PySem.W.Fast.tw17987388588925545301 : Nat := 0
def PySem.W.Fast.tw6111411971423960151 : Nat := 0
def PySem.W.Fast.tw17229198464864834023 : Nat := 0
def PySem.W.Fast.tw14831348957855417883 : Nat := 0
def PySem.W.Fast.tw3522888872734200907 : Nat := 0
def PySem.W.Fast.tw5483227610356855087 : Nat := 0
def PySem.W.Fast.tw751462741162130432 : Nat := 0
def PySem.W.Fast.tw5807463787715427640 : Nat := 0
def PySem.W.Fast.tw15252132743518765012 : Nat := 0
def PySem.W.Fast.tw15056722551182890836 : Nat := 0
def PySem.W.Fast.tw6929500942032227405 : Nat := 0
def PySem.W.Fast.tw4983940152638417459 : Nat := 0
def PySem.W.Fast.tw4230330361482446185 : Nat := 0
def PySem.W.Fast.tw12049346987333847976 : Nat := 0
def PySem.W.Fast.tw12309934975631956270 : Nat := 0
def PySem.W.Fast.tw7727262041942926567 : Nat := 0
def PySem.W.Fast.tw3241622045170636831 : Nat := 0
def PySem.W.Fast.tw497659933343578897 : Nat := 0
def PySem.W.Fast.tw264439208861694086 : Nat := 0
def PySem.W.Fast.tw2633780132639463822 : Nat := 0
def PySem.W.Fast.tw18024066894928609940 : Nat := 0
def PySem.W.Fast.tw2285940039264989937 : Nat := 0
def PySem.W.Fast.tw17181181512619518025 : Nat := 0
def PySem.W.Fast.tw13876911363126580926 : Nat := 0
def PySem.W.Fast.tw11055625200766163048 : Nat := 0
def PySem.W.Fast.tw18055736973858858927 : Nat := 0
def PySem.W.Fast.tw11776363722798782450 : Nat := 0
def PySem.W.Fast.tw6452761574403436738 : Nat := 0
def PySem.W.Fast.tw13764913318552420069 : Nat := 0
def PySem.W.Fast.tw16319859596539860737 : Nat := 0
def PySem.W.Fast.tw2127032702660487313 : Nat := 0
def PySem.W.Fast.tw651921160976137948 : Nat := 0
def PySem.W.Fast.tw8239242742551539078 : Nat := 0
def PySem.W.Fast.tw2102802543149759384 : Nat := 0
def PySem.W.Fast.tw13416840135238414003 : Nat := 0
def PySem.W.Fast.tw14642232783090407544 : Nat := 0
def PySem.W.Fast.tw18032147128391221609 : Nat := 0
def PySem.W.Fast.tw13092791275469076573 : Nat := 0
def PySem.W.Fast.tw5470526861772955340 : Nat := 0
def PySem.W.Fast.tw8090010955904857400 : Nat := 0
def PySem.W.Fast.tw8849002866408678975 : Nat := 0
def PySem.W.Fast.tw14184914871058520356 : Nat := 0
def PySem.W.Fast.tw14857042015066176409 : Nat := 0
def PySem.W.Fast.tw12650083449876170048 : Nat := 0
def PySem.W.Fast.tw10868361397081512212 : Nat := 0
def PySem.W.Fast.tw7471108035744989062 : Nat := 0
def PySem.W.Fast.tw3848660419646282302 : Nat := 0
def PySem.W.Fast.tw429737794393678067 : Nat := 0
def PySem.W.Fast.tw6880807563202372136 : Nat := 0
def PySem.W.Fast.tw10756294493328631947 : Nat := 0
def PySem.W.Fast.tw12930920703227765791 : Nat := 0
def PySem.W.Fast.tw399824892417244028 : Nat := 0
def PySem.W.Fast.tw12647929369819665868 : Nat := 0
def PySem.W.Fast.tw7873062127333914877 : Nat := 0
def PySem.W.Fast.tw185466513626181645 : Nat := 0
def PySem.W.Fast.tw17715480078739574884 : Nat := 0
def PySem.W.Fast.tw9232920471603436892 : Nat := 0
def PySem.W.Fast.tw17984567120707150503 : Nat := 0
def PySem.W.Fast.tw6384711940696251993 : Nat := 0
def PySem.W.Fast.tw7040282750091756381 : Nat := 0
def PySem.W.Fast.tw7168978371234420118 : Nat := 0
def PySem.W.Fast.tw13965867449964113785 : Nat := 0
def PySem.W.Fast.tw12834376213307720180 : Nat := 0
def PySem.W.Fast.tw13283340597261177035 : Nat := 0
def PySem.W.Fast.tw12644321299855449309 : Nat := 0
def PySem.W.Fast.tw4045322986721044969 : Nat := 0
def PySem.W.Fast.tw5302018463136835787 : Nat := 0
def PySem.W.Fast.tw5195852447108491743 : Nat := 0
def PySem.W.Fast.tw16784149123692273473 : Nat := 0
def PySem.W.Fast.tw6342257216636138013 : Nat := 0
def PySem.W.Fast.tw3467428854584139157 : Nat := 0
def PySem.W.Fast.tw961509458855545123 : Nat := 0
def PySem.W.Fast.tw4107842959071526075 : Nat := 0
def PySem.W.Fast.tw3286591342544774418 : Nat := 0
def PySem.W.Fast.tw16490276127612973233 : Nat := 0
def PySem.W.Fast.tw13964345487937936614 : Nat := 0
def PySem.W.Fast.tw4306504213175486074 : Nat := 0
def PySem.W.Fast.tw1018716409216411028 : Nat := 0
def PySem.W.Fast.tw3378864443918496680 : Nat := 0
def PySem.W.Fast.tw18347106585390254510 : Nat := 0
def PySem.W.Fast.tw14873040384977813883 : Nat := 0
def PySem.W.Fast.tw10251160592960085787 : Nat := 0
def PySem.W.Fast.tw8039169082378807517 : Nat := 0
def PySem.W.Fast.tw5662642525280310966 : Nat := 0
def PySem.W.Fast.tw2513924861192966689 : Nat := 0
def PySem.W.Fast.tw2293619529927924154 : Nat := 0
def PySem.W.Fast.tw17189904538604230618 : Nat := 0
def PySem.W.Fast.tw4212907010730207118 : Nat := 0
def PySem.W.Fast.tw7267184442267121649 : Nat := 0
def PySem.W.Fast.tw13755174536278262923 : Nat := 0
def PySem.W.Fast.tw15668888333993648665 : Nat := 0
def PySem.W.Fast.tw2171166685779956978 : Nat := 0
def PySem.W.Fast.tw3491095418239795734 : Nat := 0
def PySem.W.Fast.tw7750380779013387617 : Nat := 0
def PySem.W.Fast.tw10609685053433548059 : Nat := 0
def PySem.W.Fast.tw6446077839128808281 : Nat := 0
def PySem.W.Fast.tw5215959215223177975 : Nat := 0
def PySem.W.Fast.tw15025106180351927200 : Nat := 0
def PySem.W.Fast.tw436299092415942712 : Nat := 0
def PySem.W.Fast.tw14391813589704552723 : Nat := 0
def PySem.W.Fast.tw15992398970722208738 : Nat := 0
def PySem.W.Fast.tw289980592643501758 : Nat := 0
def PySem.W.Fast.tw7677938819848586934 : Nat := 0
def PySem.W.Fast.tw10630984490350906864 : Nat := 0
def PySem.W.Fast.tw1271694666337801984 : Nat := 0
def PySem.W.Fast.tw15782050482820193684 : Nat := 0
def PySem.W.Fast.tw3865233211167714609 : Nat := 0
def PySem.W.Fast.tw5791808129120391550 : Nat := 0
def PySem.W.Fast.tw1042854003635181640 : Nat := 0
def PySem.W.Fast.tw2881151034321954583 : Nat := 0
def PySem.W.Fast.tw684413509866158518 : Nat := 0
def PySem.W.Fast.tw15529282685523078756 : Nat := 0
def PySem.W.Fast.tw14849315542650391732 : Nat := 0
def PySem.W.Fast.tw6051000725875505659 : Nat := 0
def PySem.W.Fast.tw17773967509603221517 : Nat := 0
def PySem.W.Fast.tw16022560107349677987 : Nat := 0
def PySem.W.Fast.tw6570375396915957714 : Nat := 0
def PySem.W.Fast.tw16078985948091721587 : Nat := 0
def PySem.W.Fast.tw11203712883888287737 : Nat := 0
def PySem.W.Fast.tw6263110076936252330 : Nat := 0
def PySem.W.Fast.tw7096210003967093150 : Nat := 0
def PySem.W.Fast.tw8954400090489129789 : Nat := 0
def PySem.W.Fast.tw8033910216411289238 : Nat := 0
def PySem.W.Fast.tw13734192945369816459 : Nat := 0
def PySem.W.Fast.tw162227519518547260 : Nat := 0
def PySem.W.Fast.tw90005351987844769 : Nat := 0
def PySem.W.Fast.tw12480504763642240168 : Nat := 0
def PySem.W.Fast.tw8785037949600457225 : Nat := 0
def PySem.W.Fast.tw5622645775822518157 : Nat := 0
def PySem.W.Fast.tw11040798231444587696 : Nat := 0
def PySem.W.Fast.tw4287344757169157798 : Nat := 0
def PySem.W.Fast.tw17363853985723650122 : Nat := 0
def PySem.W.Fast.tw5295682507350875873 : Nat := 0
def PySem.W.Fast.tw13787053972843618721 : Nat := 0
def PySem.W.Fast.tw11894464714612758894 : Nat := 0
def PySem.W.Fast.tw11470290948096004242 : Nat := 0
def PySem.W.Fast.tw1549423189537717662 : Nat := 0
def PySem.W.Fast.tw18117469764044096209 : Nat := 0
def PySem.W.Fast.tw16256388853891822319 : Nat := 0
def PySem.W.Fast.tw16525121572788351263 : Nat := 0
def PySem.W.Fast.tw1750337967894211849 : Nat := 0
def PySem.W.Fast.tw12831036110760828523 : Nat := 0
def PySem.W.Fast.tw6389960668409279327 : Nat := 0
def PySem.W.Fast.tw14462207424057283959 : Nat := 0
def PySem.W.Fast.tw13494773797382824438 : Nat := 0
def PySem.W.Fast.tw12742703274087903098 : Nat := 0
def PySem.W.Fast.tw5089317857731056977 : Nat := 0
def PySem.W.Fast.tw14388069026460226339 : Nat := 0
def PySem.W.Fast.tw3315455864454012648 : Nat := 0
def PySem.W.Fast.tw1347262250630376525 : Nat := 0
def PySem.W.Fast.tw6086939129215926523 : Nat := 0
def PySem.W.Fast.tw7214235953832627519 : Nat := 0
def PySem.W.Fast.tw486584758985614851 : Nat := 0
def PySem.W.Fast.tw8126245865122596252 : Nat := 0
def PySem.W.Fast.tw12376262166457852328 : Nat := 0
def PySem.W.Fast.tw10365685218123595 : Nat := 0
def PySem.W.Fast.tw7753365136893344811 : Nat := 0
def PySem.W.Fast.tw12343139221478072410 : Nat := 0
def PySem.W.Fast.tw925140342483700759 : Nat := 0
def PySem.W.Fast.tw8067371612501942945 : Nat := 0
def PySem.W.Fast.tw14098493967691744721 : Nat := 0
def PySem.W.Fast.tw8706600476147477173 : Nat := 0
def PySem.W.Fast.tw12268360754740181585 : Nat := 0
def PySem.W.Fast.tw10419199783222355285 : Nat := 0
def PySem.W.Fast.tw10727772594356178297 : Nat := 0
def PySem.W.Fast.tw14787398814473470297 : Nat := 0
def PySem.W.Fast.tw14041360772488413623 : Nat := 0
def PySem.W.Fast.tw2619090945947231507 : Nat := 0
def PySem.W.Fast.tw633339484596246797 : Nat := 0
def PySem.W.Fast.tw12192038574232728358 : Nat := 0
def PySem.W.Fast.tw3363437408455452067 : Nat := 0
def PySem.W.Fast.tw1775530130530922099 : Nat := 0
def PySem.W.Fast.tw5372951819915923661 : Nat := 0
def PySem.W.Fast.tw5030615863321429891 : Nat := 0
def PySem.W.Fast.tw15656257090031489950 : Nat := 0
def PySem.W.Fast.tw17069925951400391476 : Nat := 0
def PySem.W.Fast.tw9971889998215822423 : Nat := 0
def PySem.W.Fast.tw17305089365849117202 : Nat := 0
def PySem.W.Fast.tw9889120813053175605 : Nat := 0
def PySem.W.Fast.tw9711184805112623106 : Nat := 0
def PySem.W.Fast.tw8440960401520566500 : Nat := 0
def PySem.W.Fast.tw12355746781530542660 : Nat := 0
def PySem.W.Fast.tw7591575497938061086 : Nat := 0
def PySem.W.Fast.tw6154887939429361653 : Nat := 0
def PySem.W.Fast.tw14521634788358479618 : Nat := 0
def PySem.W.Fast.tw7220344809475412703 : Nat := 0
def PySem.W.Fast.tw5403828021435394159 : Nat := 0
def PySem.W.Fast.tw10586921896172070568 : Nat := 0
def PySem.W.Fast.tw11246997654978540694 : Nat := 0
def PySem.W.Fast.tw17620615930163353842 : Nat := 0
def PySem.W.Fast.tw7426679066837823076 : Nat := 0
def PySem.W.Fast.tw18063237206367936457 : Nat := 0
def PySem.W.Fast.tw15864371565225577545 : Nat := 0
def PySem.W.Fast.tw4157666202154251134 : Nat := 0
def PySem.W.Fast.tw10045408547773883611 : Nat := 0
def PySem.W.Fast.tw11581794180815395139 : Nat := 0
def PySem.W.Fast.tw10259190913167606738 : Nat := 0
def PySem.W.Fast.tw9852260817372417616 : Nat := 0
def PySem.W.Fast.tw10094887802962630817 : Nat := 0
def PySem.W.Fast.tw2579932766488769307 : Nat := 0
def PySem.W.Fast.tw16025775816606590754 : Nat := 0
def PySem.W.Fast.tw15410962776830569435 : Nat := 0
def PySem.W.Fast.tw4578646020550345302 : Nat := 0
def PySem.W.Fast.tw15696843326818133399 : Nat := 0
def PySem.W.Fast.tw5272086150759484225 : Nat := 0
def PySem.W.Fast.tw17956860187074282174 : Nat := 0
def PySem.W.Fast.tw2714508043574772619 : Nat := 0
def PySem.W.Fast.tw18013225038411530684 : Nat := 0
def PySem.W.Fast.tw931063809993584622 : Nat := 0
def PySem.W.Fast.tw5360997622389912333 : Nat := 0
def PySem.W.Fast.tw10042567178018091266 : Nat := 0
def PySem.W.Fast.tw16635547293728124741 : Nat := 0
def PySem.W.Fast.tw14781587684668319894 : Nat := 0
def PySem.W.Fast.tw11093026169865951997 : Nat := 0
def PySem.W.Fast.tw10802963095213704813 : Nat := 0
def PySem.W.Fast.tw1520064684931586931 : Nat := 0
def PySem.W.Fast.tw472084019329920681 : Nat := 0
def PySem.W.Fast.tw2274699232699730594 : Nat := 0
def PySem.W.Fast.tw16882494196761746992 : Nat := 0
def PySem.W.Fast.tw6457020960880484434 : Nat := 0
def PySem.W.Fast.tw3143045054321496222 : Nat := 0
def PySem.W.Fast.tw3766935396176464582 : Nat := 0
def PySem.W.Fast.tw3257695625981918020 : Nat := 0
def PySem.W.Fast.tw16284079500069826163 : Nat := 0
def PySem.W.Fast.tw3703799719734778792 : Nat := 0
def PySem.W.Fast.tw2404274533260485800 : Nat := 0
def PySem.W.Fast.tw17223171899956239809 : Nat := 0
def PySem.W.Fast.tw15405452008217192315 : Nat := 0
def PySem.W.Fast.tw8549750174333883520 : Nat := 0
def PySem.W.Fast.tw14486310943138798065 : Nat := 0
def PySem.W.Fast.tw5228425534202728776 : Nat := 0
def PySem.W.Fast.tw7648245557655429825 : Nat := 0
def PySem.W.Fast.tw13219393554953914995 : Nat := 0
def PySem.W.Fast.tw7660280068212685267 : Nat := 0
def PySem.W.Fast.tw10890526818827905018 : Nat := 0
def PySem.W.Fast.tw13082214818247354895 : Nat := 0
def PySem.W.Fast.tw10629951827350530513 : Nat := 0
def PySem.W.Fast.tw8739634427402333783 : Nat := 0
def PySem.W.Fast.tw10889882127271695005 : Nat := 0
def PySem.W.Fast.tw12207579759285451420 : Nat := 0
def PySem.W.Fast.tw9631037479602469822 : Nat := 0
def PySem.W.Fast.tw1566590820850994288 : Nat := 0
def PySem.W.Fast.tw13615131238810270309 : Nat := 0
def PySem.W.Fast.tw17797293828512963971 : Nat := 0
def PySem.W.Fast.tw1051763087931440715 : Nat := 0
def PySem.W.Fast.tw5000938540397383742 : Nat := 0
def PySem.W.Fast.tw8042535431126762288 : Nat := 0
def PySem.W.Fast.tw4848586583138896622 : Nat := 0
def PySem.W.Fast.tw10864596863470780745 : Nat := 0
open PySem PySem.W PyProof.Rows
set_option maxRecDepth 100000 in
set_option maxHeartbeats 0 in
theorem PySem.Challenge.cw_touchpasses_k11_whole_numbers_played_holds : PySem.Challenge.rw_touchpasses_k11_whole_numbers_played.Holds := by
  w_on; o_law; k_head; (case hw => w_witness2)
  k_fill
  refine L2.walk_ofG (l := PySem.Challenge.rw_touchpasses_k11_whole_numbers_played) (n := 63) (k := 10) (x := "script") (CX := fun _ => L2.CX0) (sp := fun w => My.spEnd _) rfl (by decide) rfl ⟨rfl, by decide, by decide⟩ (fun w h Y => PySem.W.kIn_of Y) ?F (fun _ _ a ns hl hb hO hS => ⟨a, ns, rfl, My.sqL_fz hO hS, hl, hb, fun _ => rfl⟩) (fun _ _ _ _ _ h => h)
  case F =>
    intro w mg fa h KX G hmg
    refine' My.fin_mk hmg (My.mk_txt KX G ?aC ?cpg ?chd ?cpo ?csa ?cmk ?ckc ?cca ?ccn ?cct ?ccm ?na_length ?na_passes ?a_is_integer ?l_is_integer ?c_is_integer ?k_is_integer ?a_is_between ?l_is_between ?c_is_between ?k_is_between ?a_is_name ?l_is_name ?c_is_name ?k_is_name ?a_is_word ?l_is_word ?c_is_word ?k_is_word ?a_is_stretch ?l_is_stretch ?c_is_stretch ?k_is_stretch ?a_is_length ?l_is_length ?c_is_length ?k_is_length ?a_are_touches ?l_are_touches ?c_are_touches ?k_are_touches ?a_is_pass ?l_is_pass ?c_is_pass ?k_is_pass ?a_first_wrong ?l_first_wrong ?c_first_wrong ?k_first_wrong ?a_Track_init ?i_Track_init ?l_Track_init ?c_Track_init ?k_Track_init ?t_Track_init ?e_Track_init_at ?a_Track_length ?pg_Track_length ?pt_Track_length ?pr_Track_length_at ?l_Track_length ?c_Track_length ?k_Track_length ?a_Track_passes ?pg_Track_passes ?pt_Track_passes ?pr_Track_passes_at ?l_Track_passes ?c_Track_passes ?k_Track_passes ?a_check_track ?l_check_track ?c_check_track ?k_check_track ?a_check_tick ?l_check_tick ?c_check_tick ?k_check_tick ?a_lowest ?l_lowest ?c_lowest ?k_lowest ?a_plus ?l_plus ?c_plus ?k_plus ?a_times ?l_times ?c_times ?k_times ?a_end_of ?l_end_of ?c_end_of ?k_end_of ?a_last_touch ?l_last_touch ?c_last_touch ?k_last_touch ?a_written ?l_written ?c_written ?k_written ?a_taken_by ?l_taken_by ?c_taken_by ?k_taken_by ?a_form_of ?l_form_of ?c_form_of ?k_form_of ?a_form ?l_form ?c_form ?k_form ?a_is_known ?l_is_known ?c_is_known ?k_is_known ?a_numbers_in ?l_numbers_in ?c_numbers_in ?k_numbers_in ?a_number_at ?l_number_at ?c_number_at ?k_number_at ?a_law_purse ?l_law_purse ?c_law_purse ?k_law_purse ?a_law_draw ?l_law_draw ?c_law_draw ?k_law_draw ?a_law_pick ?l_law_pick ?c_law_pick ?k_law_pick ?a_law_wide ?l_law_wide ?c_law_wide ?k_law_wide ?a_law_low ?l_law_low ?c_law_low ?k_law_low ?a_law_touches ?l_law_touches ?c_law_touches ?k_law_touches ?a_law_pass ?l_law_pass ?c_law_pass ?k_law_pass ?a_law_row ?l_law_row ?c_law_row ?k_law_row ?a_law_words ?l_law_words ?c_law_words ?k_law_words ?a_law_fader ?l_law_fader ?c_law_fader ?k_law_fader ?a_law_faders ?l_law_faders ?c_law_faders ?k_law_faders ?a_law_move ?l_law_move ?c_law_move ?k_law_move ?a_law_played ?l_law_played ?c_law_played ?k_law_played ?a_law_right ?l_law_right ?c_law_right ?k_law_right ?a_law ?l_law ?c_law ?k_law ?a_LETTERS ?a_DIGITS ?a_MOST_SIGNS ?a_MOST_LENGTH ?a_MOST_PASSES ?a_MOST_TOUCHES ?a_MOST_GLIDE ?a_OLD ?b_MODES ?l_MODES ?b_TAILS ?l_TAILS ?a_SIZE ?b_NOTHING ?l_NOTHING ?b_WHOLE ?l_WHOLE ?z_len ?z_isinstance ?z_int ?z_bool ?z_str ?z_tuple ?z_list ?z_all ?z_range ?z_enumerate ?z_abs ?z_divmod ?z_max ?z_min ?z_repr ?z_sorted ?z_gcd)
    (case aC => k_is)
    (case cpg => k_is)
    (case chd => k_is)
    (case cpo => k_is)
    (case csa => k_is)
    (case cmk => k_is)
    (case ckc => k_is)
    (case cca => k_is)
    (case ccn => k_is)
    (case cct => k_is)
    (case ccm => k_is)
    (case na_length => k_is)
    (case na_passes => k_is)
    (case a_is_integer => k_is)
    (case l_is_integer => k_is)
    (case c_is_integer => k_is)
    (case k_is_integer => k_is)
    (case a_is_between => k_is)
    (case l_is_between => k_is)
    (case c_is_between => k_is)
    (case k_is_between => k_is)
    (case a_is_name => k_is)
    (case l_is_name => k_is)
    (case c_is_name => k_is)
    (case k_is_name => k_is)
    (case a_is_word => k_is)
    (case l_is_word => k_is)
    (case c_is_word => k_is)
    (case k_is_word => k_is)
    (case a_is_stretch => k_is)
    (case l_is_stretch => k_is)
    (case c_is_stretch => k_is)
    (case k_is_stretch => k_is)
    (case a_is_length => k_is)
    (case l_is_length => k_is)
    (case c_is_length => k_is)
    (case k_is_length => k_is)
    (case a_are_touches => k_is)
    (case l_are_touches => k_is)
    (case c_are_touches => k_is)
    (case k_are_touches => k_is)
    (case a_is_pass => k_is)
    (case l_is_pass => k_is)
    (case c_is_pass => k_is)
    (case k_is_pass => k_is)
    (case a_first_wrong => k_is)
    (case l_first_wrong => k_is)
    (case c_first_wrong => k_is)
    (case k_first_wrong => k_is)
    (case a_Track_init => k_is)
    (case i_Track_init => k_is)
    (case l_Track_init => k_is)
    (case c_Track_init => k_is)
    (case k_Track_init => k_is)
    (case t_Track_init => k_is)
    (case e_Track_init_at => k_is)
    (case a_Track_length => k_is)
    (case pg_Track_length => k_is)
    (case pt_Track_length => k_is)
    (case pr_Track_length_at => k_is)
    (case l_Track_length => k_is)
    (case c_Track_length => k_is)
    (case k_Track_length => k_is)
    (case a_Track_passes => k_is)
    (case pg_Track_passes => k_is)
    (case pt_Track_passes => k_is)
    (case pr_Track_passes_at => k_is)
    (case l_Track_passes => k_is)
    (case c_Track_passes => k_is)
    (case k_Track_passes => k_is)
    (case a_check_track => k_is)
    (case l_check_track => k_is)
    (case c_check_track => k_is)
    (case k_check_track => k_is)
    (case a_check_tick => k_is)
    (case l_check_tick => k_is)
    (case c_check_tick => k_is)
    (case k_check_tick => k_is)
    (case a_lowest => k_is)
    (case l_lowest => k_is)
    (case c_lowest => k_is)
    (case k_lowest => k_is)
    (case a_plus => k_is)
    (case l_plus => k_is)
    (case c_plus => k_is)
    (case k_plus => k_is)
    (case a_times => k_is)
    (case l_times => k_is)
    (case c_times => k_is)
    (case k_times => k_is)
    (case a_end_of => k_is)
    (case l_end_of => k_is)
    (case c_end_of => k_is)
    (case k_end_of => k_is)
    (case a_last_touch => k_is)
    (case l_last_touch => k_is)
    (case c_last_touch => k_is)
    (case k_last_touch => k_is)
    (case a_written => k_is)
    (case l_written => k_is)
    (case c_written => k_is)
    (case k_written => k_is)
    (case a_taken_by => k_is)
    (case l_taken_by => k_is)
    (case c_taken_by => k_is)
    (case k_taken_by => k_is)
    (case a_form_of => k_is)
    (case l_form_of => k_is)
    (case c_form_of => k_is)
    (case k_form_of => k_is)
    (case a_form => k_is)
    (case l_form => k_is)
    (case c_form => k_is)
    (case k_form => k_is)
    (case a_is_known => k_is)
    (case l_is_known => k_is)
    (case c_is_known => k_is)
    (case k_is_known => k_is)
    (case a_numbers_in => k_is)
    (case l_numbers_in => k_is)
    (case c_numbers_in => k_is)
    (case k_numbers_in => k_is)
    (case a_number_at => k_is)
    (case l_number_at => k_is)
    (case c_number_at => k_is)
    (case k_number_at => k_is)
    (case a_law_purse => k_is)
    (case l_law_purse => k_is)
    (case c_law_purse => k_is)
    (case k_law_purse => k_is)
    (case a_law_draw => k_is)
    (case l_law_draw => k_is)
    (case c_law_draw => k_is)
    (case k_law_draw => k_is)
    (case a_law_pick => k_is)
    (case l_law_pick => k_is)
    (case c_law_pick => k_is)
    (case k_law_pick => k_is)
    (case a_law_wide => k_is)
    (case l_law_wide => k_is)
    (case c_law_wide => k_is)
    (case k_law_wide => k_is)
    (case a_law_low => k_is)
    (case l_law_low => k_is)
    (case c_law_low => k_is)
    (case k_law_low => k_is)
    (case a_law_touches => k_is)
    (case l_law_touches => k_is)
    (case c_law_touches => k_is)
    (case k_law_touches => k_is)
    (case a_law_pass => k_is)
    (case l_law_pass => k_is)
    (case c_law_pass => k_is)
    (case k_law_pass => k_is)
    (case a_law_row => k_is)
    (case l_law_row => k_is)
    (case c_law_row => k_is)
    (case k_law_row => k_is)
    (case a_law_words => k_is)
    (case l_law_words => k_is)
    (case c_law_words => k_is)
    (case k_law_words => k_is)
    (case a_law_fader => k_is)
    (case l_law_fader => k_is)
    (case c_law_fader => k_is)
    (case k_law_fader => k_is)
    (case a_law_faders => k_is)
    (case l_law_faders => k_is)
    (case c_law_faders => k_is)
    (case k_law_faders => k_is)
    (case a_law_move => k_is)
    (case l_law_move => k_is)
    (case c_law_move => k_is)
    (case k_law_move => k_is)
    (case a_law_played => k_is)
    (case l_law_played => k_is)
    (case c_law_played => k_is)
    (case k_law_played => k_is)
    (case a_law_right => k_is)
    (case l_law_right => k_is)
    (case c_law_right => k_is)
    (case k_law_right => k_is)
    (case a_law => k_is)
    (case l_law => k_is)
    (case c_law => k_is)
    (case k_law => k_is)
    (case a_LETTERS => k_is)
    (case a_DIGITS => k_is)
    (case a_MOST_SIGNS => k_is)
    (case a_MOST_LENGTH => k_is)
    (case a_MOST_PASSES => k_is)
    (case a_MOST_TOUCHES => k_is)
    (case a_MOST_GLIDE => k_is)
    (case a_OLD => k_is)
    (case b_MODES => k_is)
    (case l_MODES => k_is)
    (case b_TAILS => k_is)
    (case l_TAILS => k_is)
    (case a_SIZE => k_is)
    (case b_NOTHING => k_is)
    (case l_NOTHING => k_is)
    (case b_WHOLE => k_is)
    (case l_WHOLE => k_is)
    (case z_len => k_is)
    (case z_isinstance => k_is)
    (case z_int => k_is)
    (case z_bool => k_is)
    (case z_str => k_is)
    (case z_tuple => k_is)
    (case z_list => k_is)
    (case z_all => k_is)
    (case z_range => k_is)
    (case z_enumerate => k_is)
    (case z_abs => k_is)
    (case z_divmod => k_is)
    (case z_max => k_is)
    (case z_min => k_is)
    (case z_repr => k_is)
    (case z_sorted => k_is)
    (case z_gcd => k_is)
