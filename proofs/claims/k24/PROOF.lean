import PyProof.Rows.All
import Wide.All
import OpenK.AllK
import Wide.FinOn
import PySem.Challenge.RW_touchpasses_k24_whole_great_tracks_heard
import HandS.List
import HandS.Comp
import HandS.Words
import HandS.Defaults
import HandS.OwnEq
import PyProof.ReprRoads
import PyProof.InstNe
import PyProof.StrLawsRepr
import HandS.Ends
import HandS.EndBits
import HandS.Property
import HandS.ForMost
import HandS.IsInst
import HandS.TupAny
import HandS.Wide
import HandS.Conv
import HandS.Gcd
import HandS.WrittenGet
import PyProof.P3In
import HandS.RaiseMore
import HandS.WideBits
import HandS.FStr
import HandS.Walk
import HandS.Style
import KE.GoesMore
import HandS.Zip
import HandS.MakeKw
import HandS.MakeKwOnly
import PyProof.ReprBulk
import PyProof.Rows.ReprShort
import KE.KUnpackStar
import HandS.Text
import PyProof.P3Eq
import HandS.CallLocal
import KE.KCallOwn
import HandS.ClsMeth
import HandS.Star
import KE.SortData
import HandS.TryOnly
import HandS.More
import HandS.SetFor
import HandS.Strs
import PyProof.Rows.SortShellAny
import OpenK.KMeth
import HandS.DictComp
import HandS.Flow
import HandS.Small
set_option Elab.async false
set_option linter.all false
set_option maxRecDepth 100000
namespace L2
open PySem PySem.Spec PyProof.Rows
/-- all that was tracked is as it was, but what stands at p -/
def Sm (p : Addr) (H H' : Hp) : Prop := ∀ b o, b ≠ p → H b = some o → H' b = some o
theorem Sm.refl (p : Addr) (H : Hp) : Sm p H H := fun _ _ _ h => h
theorem Sm.trans {p : Addr} {H H1 H2 : Hp} (a : Sm p H H1) (b : Sm p H1 H2) : Sm p H H2 := fun c o n h => b c o n (a c o n h)
theorem Sm.of_same {p : Addr} {H H' : Hp} (h : Same H H') : Sm p H H' := fun b o _ e => h b o e
theorem Sm.new {p q : Addr} {H : Hp} {o : HO} (h : H q = none) : Sm p H (upd H q o) := fun b u _ e => by
  rw [upd_ne (ne_of_none e h)]; exact e
theorem Sm.at {p : Addr} {H : Hp} {o : HO} : Sm p H (upd H p o) := fun b u n e => by
  rw [upd_ne n]; exact e
theorem Sm.free {p : Addr} {H H' : Hp} {o : HO} (e : Sm p H H') (hp : H' p = some o) {l : Addr} (h : H' l = Option.none) : H l = Option.none := by
  by_cases q : l = p
  · subst q; rw [hp] at h; cases h
  · cases z : H l with
    | none => rfl
    | some o' => rw [e l o' q z] at h; cases h
theorem same_new {H : Hp} {p : Addr} {o : HO} (h : H p = none) : Same H (upd H p o) := fun b x e => by
  rw [upd_ne (ne_of_none e h)]; exact e
theorem Same.new {H H1 : Hp} {p : Addr} {o : HO} (x : Same H H1) (h : H1 p = none) : Same H (upd H1 p o) := x.trans (same_new h)
theorem Same.seqT {K : PySem.W.Frag} {H H' : Hp} {a : Addr} {xs : List V} (e : Same H H') (h : SqT K H a xs) : SqT K H' a xs := by
  rcases h with (h | ⟨o, h⟩) | h
  · exact .inl (.inl (e _ _ h))
  · exact .inl (.inr ⟨o, e _ _ h⟩)
  · exact .inr h
theorem Sm.seq {K : PySem.W.Frag} {p : Addr} {H H' : Hp} {a : Addr} {xs : List V} (e : Sm p H H') (n : a ≠ p) (h : SqL K H a xs) : SqL K H' a xs := by
  rcases h with (h | ⟨o, h⟩) | h
  · exact .inl (.inl (e _ _ n h))
  · exact .inl (.inr ⟨o, e _ _ n h⟩)
  · exact .inr h
theorem Sm.seqT {K : PySem.W.Frag} {p : Addr} {H H' : Hp} {a : Addr} {xs : List V} (e : Sm p H H') (n : a ≠ p) (h : SqT K H a xs) : SqT K H' a xs := by
  rcases h with (h | ⟨o, h⟩) | h
  · exact .inl (.inl (e _ _ n h))
  · exact .inl (.inr ⟨o, e _ _ n h⟩)
  · exact .inr h
/-- a text that data may hold -/
abbrev Sok (x : Str) : Prop := x.length ≤ 100000 ∧ PyData.strOk x = true
mutual
inductive Dn (K : PySem.W.Frag) (p : Addr) (H : Hp) : V → PyData → Prop
  | non : Dn K p H .non .none
  | bl (b : Bool) : Dn K p H (.bl b) (.bool b)
  | int (i : Int) : Dn K p H (.int i) (.int i)
  | str (x : Str) : Sok x → Dn K p H (.str x) (.str x)
  | lst {a : Addr} {xs : List V} {ds : List PyData} : a ≠ p → SqL K H a xs → DnAll K p H xs ds → Dn K p H (.ref a) (.list ds)
  | tup {a : Addr} {xs : List V} {ds : List PyData} : SqT K H a xs → DnAll K p H xs ds → Dn K p H (.ref a) (.tuple ds)
  | dic {a : Addr} {kvs : List (Key × V)} {ks vs : List PyData} : H a = some (.dK kvs) → DnAll K p H (kvs.map fun q => kV q.1) ks → DnAll K p H (kvs.map (·.2)) vs → Dn K p H (.ref a) (.dict (ks.zip vs))
inductive DnAll (K : PySem.W.Frag) (p : Addr) (H : Hp) : List V → List PyData → Prop
  | nil : DnAll K p H [] []
  | cons {v : V} {vs : List V} {d : PyData} {ds : List PyData} : Dn K p H v d → DnAll K p H vs ds → DnAll K p H (v :: vs) (d :: ds)
end
section
variable {K : PySem.W.Frag} {p : Addr} {H H' : Hp}
theorem DnAll.length : ∀ {vs : List V} {ds : List PyData}, DnAll K p H vs ds → vs.length = ds.length
  | _, _, .nil => rfl
  | _, _, .cons _ t => by rw [List.length_cons, List.length_cons, DnAll.length t]
theorem DnAll.get : ∀ {vs : List V} {ds : List PyData} {i : Nat} {v : V}, DnAll K p H vs ds → vs[i]? = some v → ∃ d, ds[i]? = some d ∧ Dn K p H v d
  | _, _, _, _, .nil, e => by simp at e
  | _, _, 0, _, .cons r _, e => by simp at e; subst e; exact ⟨_, rfl, r⟩
  | _, _, i + 1, v, .cons _ t, e => by
    obtain ⟨u, h1, h2⟩ := DnAll.get (i := i) (v := v) t (by simpa using e)
    exact ⟨u, by simpa using h1, h2⟩
theorem DnAll.getD : ∀ {vs : List V} {ds : List PyData} {i : Nat} {d : PyData}, DnAll K p H vs ds → ds[i]? = some d → ∃ v, vs[i]? = some v ∧ Dn K p H v d
  | _, _, _, _, .nil, e => by simp at e
  | _, _, 0, _, .cons r _, e => by simp at e; subst e; exact ⟨_, rfl, r⟩
  | _, _, i + 1, v, .cons _ t, e => by
    obtain ⟨u, h1, h2⟩ := DnAll.getD (i := i) (d := v) t (by simpa using e)
    exact ⟨u, by simpa using h1, h2⟩
theorem DnAll.append : ∀ {vs us : List V} {ds es : List PyData}, DnAll K p H vs ds → DnAll K p H us es → DnAll K p H (vs ++ us) (ds ++ es)
  | _, _, _, _, .nil, s => s
  | _, _, _, _, .cons r t, s => .cons r (DnAll.append t s)
theorem DnAll.take : ∀ {vs : List V} {ds : List PyData} (n : Nat), DnAll K p H vs ds → DnAll K p H (vs.take n) (ds.take n)
  | _, _, 0, _ => .nil
  | _, _, _ + 1, .nil => .nil
  | _, _, n + 1, .cons r t => .cons r (DnAll.take n t)
theorem DnAll.drop : ∀ {vs : List V} {ds : List PyData} (n : Nat), DnAll K p H vs ds → DnAll K p H (vs.drop n) (ds.drop n)
  | _, _, 0, r => r
  | _, _, _ + 1, .nil => .nil
  | _, _, n + 1, .cons _ t => DnAll.drop n t
/-- p is a list -/
def Pl (H : Hp) (p : Addr) : Prop := ∃ l, H p = some (.lst l)
theorem Pl.same {H H' : Hp} {p : Addr} (h : Pl H p) (e : Same H H') : Pl H' p := h.elim fun l q => ⟨l, e _ _ q⟩
theorem Sm.tup {K : PySem.W.Frag} {p : Addr} {H H' : Hp} {a : Addr} {xs : List V} (e : Sm p H H') (hp : Pl H p) (h : SqT K H a xs) : SqT K H' a xs := by
  obtain ⟨l, hp⟩ := hp
  rcases h with (h | ⟨o, h⟩) | h
  · exact .inl (.inl (e _ _ (by rintro rfl; rw [hp] at h; cases h) h))
  · exact .inl (.inr ⟨o, e _ _ (by rintro rfl; rw [hp] at h; cases h) h⟩)
  · exact .inr h
theorem Sm.dic {p : Addr} {H H' : Hp} {a : Addr} {kvs : List (Key × V)} (e : Sm p H H') (hp : Pl H p) (h : H a = some (.dK kvs)) : H' a = some (.dK kvs) := by
  obtain ⟨l, hp⟩ := hp
  exact e _ _ (by rintro rfl; rw [hp] at h; cases h) h
mutual
theorem Dn.sm (e : Sm p H H') (hp : Pl H p) : ∀ {v : V} {d : PyData}, Dn K p H v d → Dn K p H' v d
  | _, _, .non => .non
  | _, _, .bl b => .bl b
  | _, _, .int i => .int i
  | _, _, .str x h => .str x h
  | _, _, .lst n h a => .lst n (e.seq n h) (DnAll.sm e hp a)
  | _, _, .tup h a => .tup (e.tup hp h) (DnAll.sm e hp a)
  | _, _, .dic h a b => .dic (e.dic hp h) (DnAll.sm e hp a) (DnAll.sm e hp b)
theorem DnAll.sm (e : Sm p H H') (hp : Pl H p) : ∀ {vs : List V} {ds : List PyData}, DnAll K p H vs ds → DnAll K p H' vs ds
  | _, _, .nil => .nil
  | _, _, .cons r t => .cons (Dn.sm e hp r) (DnAll.sm e hp t)
end
mutual
theorem Dn.same (e : Same H H') : ∀ {v : V} {d : PyData}, Dn K p H v d → Dn K p H' v d
  | _, _, .non => .non
  | _, _, .bl b => .bl b
  | _, _, .int i => .int i
  | _, _, .str x h => .str x h
  | _, _, .lst n h a => .lst n (e.seq h) (DnAll.same e a)
  | _, _, .tup h a => .tup (e.seqT h) (DnAll.same e a)
  | _, _, .dic h a b => .dic (e _ _ h) (DnAll.same e a) (DnAll.same e b)
theorem DnAll.same (e : Same H H') : ∀ {vs : List V} {ds : List PyData}, DnAll K p H vs ds → DnAll K p H' vs ds
  | _, _, .nil => .nil
  | _, _, .cons r t => .cons (Dn.same e r) (DnAll.same e t)
end
end
section
variable {X : Cx} {pins : List (Addr × Obj)} {σ : St} {H : Hp} {s : Shared} {p : Addr}
mutual
/-- data without dicts is read -/
theorem Dn.reads (I : Inv X pins σ H s) : ∀ (d : PyData) (v : V) (u : Value), d.hasDict = false → Dn X.K p H v d → RelV v u → ∃ as, Reads s.heap u d as
  | .none, _, _, _, h, r => by
    cases h
    cases r
    exact ⟨_, Reads.none⟩
  | .bool b, _, _, _, h, r => by
    cases h
    cases r
    exact ⟨_, Reads.bool b⟩
  | .int i, _, _, _, h, r => by
    cases h
    obtain ⟨t, rfl⟩ := r
    exact ⟨_, Reads.int i t⟩
  | .str x, _, _, _, h, r => by
    cases h
    obtain ⟨t, rfl⟩ := r
    exact ⟨_, Reads.str x t⟩
  | .list ds, _, _, z, h, r => by
    cases h with
    | lst _ hs ha =>
      cases r
      obtain ⟨its, rv, ⟨o, n, ho, hc, _, hd⟩, _⟩ := I.list hs
      obtain ⟨as, hr⟩ := Dn.readsAll I ds _ its (by simpa only [PyData.hasDict] using z) ha rv
      exact ⟨_, Reads.list ho hc hd hr⟩
  | .tuple ds, _, _, z, h, r => by
    cases h with
    | tup hs ha =>
      cases r
      obtain ⟨its, rv, ⟨o, ho, hc, n, hd⟩, _⟩ := I.tuple hs
      obtain ⟨as, hr⟩ := Dn.readsAll I ds _ its (by simpa only [PyData.hasDict] using z) ha rv
      exact ⟨_, Reads.tuple ho hc hd hr⟩
  | .dict _, _, _, z, h, _ => by simp [PyData.hasDict] at z
theorem Dn.readsAll (I : Inv X pins σ H s) : ∀ (ds : List PyData) (vs : List V) (us : List Value), PyData.hasDictAll ds = false → DnAll X.K p H vs ds → Vals vs us → ∃ as, ReadsAll s.heap us ds as
  | [], _, _, _, h, r => by
    cases h
    cases r
    exact ⟨_, ReadsAll.nil⟩
  | d :: ds, _, _, z, h, r => by
    have z' : d.hasDict = false ∧ PyData.hasDictAll ds = false := by simpa [PyData.hasDictAll] using z
    cases h with
    | cons h1 h2 =>
      cases r with
      | cons r1 r2 =>
        obtain ⟨as, q1⟩ := Dn.reads I d _ _ z'.1 h1 r1
        obtain ⟨bs, q2⟩ := Dn.readsAll I ds _ _ z'.2 h2 r2
        exact ⟨_, ReadsAll.cons q1 q2⟩
end
/-- * of two ints that are not too big together -/
def CMulKb (i j : Int) : Prop := Builtin.Int.intBits i + Builtin.Int.intBits j ≤ 100000000
theorem CMulKb.ok {i j : Int} (h : CMulKb i j) : IntMulOk i j := by
  have h3 : Builtin.Int.intBits i + Builtin.Int.intBits j ≤ 100000000 := h
  have e : bitsLine = 134217728 := by decide
  unfold IntMulOk
  intro z
  rw [Bool.and_eq_true] at z
  have z2 := z.2
  unfold Builtin.Int.intTooBig at z2
  have z3 := of_decide_eq_true z2
  rw [e] at z3
  omega
theorem op_mulKb : OpR X (binaryOp .Mult) (rI CMulKb fun i j => .int (i * j)) := opI fun _ _ _ _ _ _ _ hc q => mul_int q hc.ok
end
end L2
namespace L2
open PySem PySem.Spec PyProof.Rows
structure FnG (P : Program) (w : World) (K : PySem.W.Frag) (mg : Str → Option Value) (base : Heap) (CX : CXT) (k : Nat) (f : Addr) (fd : FuncData) (ps : List Str) (sp : Sp) : Prop where
  size : ∀ vs H Q E, sp vs H Q E → vs.length = ps.length
  runs : ∀ (A : Around) (outer : List Env) (s : Shared) (H : Hp) (args : Args) (us : List Value) (vs : List V) (Q : VK) (E : XK),
    A.guards = some [] → Room k A → Env0 P w K mg base A outer s H → BindsTo s fd args (ps.zip us) → Vals vs us → sp vs H Q E →
    codeAny (model P w) A (.call (.ref f) args) (CR CX outer P w H s Q E) s
section
variable {P : Program} {w : World} {K : PySem.W.Frag} {mg : Str → Option Value} {base : Heap} {CX : CXT}
theorem FnG.of {k : Nat} {f : Addr} {fd : FuncData} {ps : List Str} {sp : Sp} (F : FnOk P w K mg base CX k f fd ps sp) : FnG P w K mg base CX k f fd ps sp :=
  ⟨F.len, fun A o s H args us vs Q E _ r => F.run A o s H args us vs Q E r⟩
/-- a def's body keeps it; in the body guards are known -/
theorem Fun.okG {x qual : Str} {st : Stmt} {f : Addr} {fd : FuncData} {N ps : List Str} {k : Nat} {sp : Sp} (F : Fun K x qual st f fd) (S : FnScope N ps (defScope st)) (len : ∀ vs H Q E, sp vs H Q E → vs.length = ps.length)
    (body : ∀ (cdv : Value) (A : Around) (outer : List Env) (s : Shared) (H : Hp) (vs : List V) (Q : VK) (E : XK), A.guards = some [] → Room k (A.deeper (envOfC qual (defScope st) s.heap.objs.size f cdv)) → sp vs H Q E →
      ∃ t, PSs (cxOf CX P w K mg base N qual (defScope st) f cdv A outer s H E) (defBody st) t ∧ t { nx := fun _ H' => Q .non H', rt := Q } (start N vs) H) : FnG P w K mg base CX (k + 1) f fd ps sp := by
  obtain ⟨oc, od, kV, doc, pm, an, cdv, ct, osl, rfl, lk, hcd⟩ := F.ex
  refine ⟨len, fun A outer s H args us vs Q E hg hr e0 hb r hsp => ?_⟩
  have KX : K.In s.heap := e0.mod.kin.keeps fun b o e => (e0.bs b o e).1
  have lim : s.heap.NoLimit := e0.mod.nolimit.keeps fun b o e => (e0.bs b o e).1
  have hk : ∀ y ∈ ps.zip us, (defScope st).names.lookup y.1 = some .local ∨ ((defScope st).names.lookup y.1 = some .cell ∧ ((cellsFrom (s.heap.objs.size + 1) (defScope st).names []).lookup y.1).isSome = true) := by
    rintro ⟨n, v⟩ hy
    exact (S.par n (List.of_mem_zip hy).1).elim .inl fun q => .inr ⟨q, PySem.W.cellsFrom_some _ _ _ (.inl q)⟩
  refine codeAny_call_function hr.depth (KX _ _ lk) rfl S.co S.gen rfl (PySem.W.codeRec_of KX hcd) (hb _ _ _ _ (wpAny_newFunctionEnv_cells S.kind hk fun env he s1 x => ?_))
  subst he
  obtain ⟨t, ht, hq⟩ := body cdv A outer s H vs Q E hg (hr.deeper _) hsp
  have I := inv_start (CX := CX) (E := E) S hr.hd e0 (len _ _ _ _ hsp) r x
  refine ⟨lim.keeps x.toInCall.keep, codeAny_func (wpAny_mono (ht.run [] s1 (start N vs) H _ I hq) (fun fl s' hs => ?_) fun e s' hs => hs)⟩
  cases fl
  case ret u =>
    obtain ⟨v, σ', H', J, rv, q⟩ := hs
    exact ⟨v, H', J.os, J.bare, J.base, J.hok, rv, q⟩
  case next =>
    obtain ⟨σ', H', J, q⟩ := hs
    exact ⟨V.non, H', J.os, J.bare, J.base, J.hok, rfl, q⟩
  case brk => exact hs.elim fun _ z => z.elim fun _ z => z.2.elim
  case cont => exact hs.elim fun _ z => z.elim fun _ z => z.2.elim
end
section
variable {X : Cx} {CX : CXT} {k : Nat} {f : Addr} {fd : FuncData} {ps : List Str} {sp : Sp} {dvs : List V} {ds : List Value} {E : XK} {x : Str} {p pos : Pos} {e : Expr} {es : List Expr} {t : TA}
theorem pe_callG (hgd : X.A.guards = some []) (F : FnG X.prog X.w X.K X.mg X.base CX k f fd ps sp) (hr : Room k X.A) (hg : Gl X x) (hm : X.mg x = some (.ref f)) (hk : PySem.W.keepIn X.K (.ref f) = true) (hb : Binds X.K fd ps ds) (hd : Vals dvs ds) (hx : Passes CX X E)
    (ha : PA X (e :: es) t) (hdb : (x == ("__debug__" : Str)) = false := by decide) (he : starEach (e :: es) X.env = (false, eval e X.env) :: starEach es X.env := by rfl)
    (hpl : (backTo pos (starEach es X.env)).any (·.1) = false := by rfl) : PE X (.Call (.Name x p) (e :: es) [] pos) (tCall sp dvs E t) := by
  refine ⟨fun pins s σ H Q I h => wpAny_Call_Name_kw (ld_glob I hg hm ?_ hdb)⟩
  refine PySem.W.callWith_K (h₀ := X.base) I.ok.mod.kin hk (thn (ha.run pos pins s σ H _ I h) fun us s1 ⟨vs, H1, I1, r, q⟩ => ⟨I1.kIn, ?_⟩) he hpl
  have r2 := r.append hd
  have hl : (us ++ ds).length = ps.length := r2.length.symm.trans (F.size _ _ _ _ q)
  refine wpAny_call (codeAny_mono (F.runs X.A X.stack s1 H1 ⟨us, []⟩ _ _ Q E hgd hr I1.env0 (hb s1 us I1.kIn hl) r2 q) fun r s' hq => ?_)
  cases r
  case error e => exact hx pins σ H1 s1 e s' I1 hq
  case ok fl =>
    cases fl
    case ret u => exact I1.after hq
    all_goals exact hq.elim
end
theorem law_callG {P : Program} {w : World} {K : PySem.W.Frag} {mg mb : Str → Option Value} {CX : CXT} {k : Nat} {fa a : Addr} {fd : FuncData} {x : Str} {sp : Sp} {s₁ : Shared} {vs : List Value} {ns : List Int}
    (KX : K.In s₁.heap) (hns : s₁.heap.Ns mainGlobals mg) (hb : s₁.heap.Ns builtinsNs mb) (hbb : ∀ x : Str, x ≠ "__name__" → mb x = bootBuiltins x) (hlim : s₁.heap.NoLimit) (hg : s₁.gens = #[])
    (ha : s₁.heap.get? a = some { cls := .type "list", data := .seq vs.toArray }) (hi : IntsAre vs ns) (hl : ns.length ≤ sizeLine) (hr : Room k callerA)
    (F : ∀ base : Heap, K.In base → base.Ns mainGlobals mg → FnG P w K mg base CX k fa fd [x] sp) (hbind : ∀ (s : Shared) (u : Value), BindsTo s fd ⟨[u], []⟩ [(x, u)])
    (hsp : ∀ H : Hp, Only H → SqL K H a (ns.map V.int) → sp [.ref a] H (fun v _ => v = .bl true) fun _ _ _ => False)
    (hCX : ∀ H e s', CX [] H s₁ (fun _ _ _ => False) e s' → False) :
    codeAny (model P w) callerA (.call (.ref fa) ⟨[.ref a], []⟩) (fun r s' => r = .ok (.ret (.bool true)) ∧ OldK s₁.heap s'.heap ∧ s'.os = s₁.os ∧ AllBare s'.gens) s₁ := by
  have rv := vals_ints hi
  have lenV := hi.length
  -- H tracks nothing, or the script alone
  have core : ∀ H : Hp, Only H → SqL K H a (ns.map V.int) → HOk P w H s₁.heap → (∀ b, H b ≠ none → b = a ∧ K.lookup a = none) →
      codeAny (model P w) callerA (.call (.ref fa) ⟨[.ref a], []⟩) (fun r s' => r = .ok (.ret (.bool true)) ∧ OldK s₁.heap s'.heap ∧ s'.os = s₁.os ∧ AllBare s'.gens) s₁ := by
    intro H hO hS hok hA
    have free : ∀ {b : Addr} {o : Obj}, s₁.heap.get? b = some o → (∀ l, o.data ≠ .seq vs.toArray l) → H b = none := fun {b o} e d => by
      cases q : H b with
      | none => rfl
      | some u =>
        obtain ⟨rfl, _⟩ := hA b (by rw [q]; exact Option.some_ne_none _)
        rw [ha] at e
        cases e
        exact absurd rfl (d _)
    have nsK : ∀ {b : Addr} {m : Str → Option Value}, s₁.heap.Ns b m → (hidT s₁.heap H).Ns b m := fun ⟨o, es, ep, e, d, r⟩ => ⟨o, es, ep, hidT_get e (free e fun l z => by rw [d] at z; cases z), d, r⟩
    have hKb : K.In (hidT s₁.heap H) := fun b o e => hidT_get (KX b o e) (by
      cases q : H b with
      | none => rfl
      | some u =>
        obtain ⟨rfl, z⟩ := hA b (by rw [q]; exact Option.some_ne_none _)
        rw [z] at e
        cases e)
    have hM : Mod K mg (hidT s₁.heap H) := ⟨hKb, nsK hns, ⟨mb, nsK hb, hbb⟩, hlim.elim fun mc h => ⟨mc, nsK h.1, h.2⟩⟩
    have e0 : Env0 P w K mg (hidT s₁.heap H) callerA [] s₁ H := ⟨rfl, hM, fun b o e => of_hidT e, Nat.le_of_eq (hidT_size _ _), trivial, fun b hb => absurd (show b ∈ ([] : List Addr) from hb) (by simp), hok, .of_eq hg⟩
    refine codeAny_mono ((F _ hKb (nsK hns)).runs callerA [] s₁ H ⟨[.ref a], []⟩ [.ref a] [.ref a] _ _ rfl hr e0 (hbind s₁ (.ref a)) (.cons rfl .nil) (hsp H hO hS)) fun r s' h => ?_
    cases r
    case error e => exact (hCX H e s' h).elim
    case ok fl =>
      cases fl
      case ret u =>
        obtain ⟨v, H', os, bare, un, hok', r', q⟩ := h
        obtain rfl : v = .bl true := q
        obtain rfl : u = Value.bool true := r'
        refine ⟨rfl, OldK.of_keep fun b o e => ?_, os, bare⟩
        rcases hO b with q | ⟨ob, xs, q⟩
        · exact un.keep b o e q (fun z => absurd (show b ∈ ([] : List Addr) from z) (by simp)) (by simp)
        · obtain ⟨e1, _⟩ := hok b _ q
          obtain ⟨e2, _⟩ := hok' b _ (un.frzs b ob _ q)
          rw [e] at e1
          cases e1
          exact e2
      all_goals exact h.elim
  cases hk : K.lookup a with
  | some o =>
    have e := KX a o hk
    rw [ha] at e
    cases e
    exact core (fun _ => none) (fun _ => .inl rfl) (.inr ⟨_, vs.toArray, _, hk, rfl, rfl, rfl, by rw [List.size_toArray, lenV]; exact hl, by simpa using rv⟩) (fun b u z => by cases (show (none : Option HO) = some u from z)) fun b z => absurd rfl z
  | none =>
    have at_ : ∀ b, (fun b => if b = a then some (HO.frz { cls := .type "list", data := .seq vs.toArray } (.lst (ns.map V.int))) else none) b ≠ none → b = a := fun b z => by
      by_cases q : b = a
      · exact q
      · exact absurd (if_neg q) z
    refine core (fun b => if b = a then some (.frz { cls := .type "list", data := .seq vs.toArray } (.lst (ns.map V.int))) else none) (fun b => ?_) (.inl (.inr ⟨{ cls := .type "list", data := .seq vs.toArray }, if_pos rfl⟩)) (fun b u z => ?_) fun b z => ⟨at_ b z, hk⟩
    · by_cases q : b = a
      · exact .inr ⟨_, _, if_pos q⟩
      · exact .inl (if_neg q)
    · have q : b = a := at_ b (by rw [z]; exact Option.some_ne_none _)
      subst q
      have z' := (if_pos rfl).symm.trans z
      cases z'
      exact ⟨ha, by rw [List.length_map]; exact hl, vs, _, rv, ha⟩
theorem walk_ofG {l : PySem.W.OpenLaw} {n k : Nat} {q : Program} {loose : List Str} {XP : (Str → Option Value) → Heap → Prop} {YP : World → Heap → Prop} {d : DefRec} {K : Params → PySem.W.Frag} {CX : World → CXT} {sp : World → Sp} {x : Str}
    (hn : l.most = some n) (hn2 : n ≤ sizeLine) (hdf : d.params.defaults = []) (hr : Room k callerA)
    (hY : ∀ (w : World) (h : Heap), YP w h → (K w.params).In h)
    (F : ∀ (w : World) (mg : Str → Option Value) (fa : Addr) (h : Heap), (K w.params).In h → h.Ns mainGlobals mg → mg d.name = some (.ref fa) →
      ∃ fd : FuncData, (∀ (s : Shared) (u : Value), BindsTo s fd ⟨[u], []⟩ [(x, u)]) ∧
        ∀ base : Heap, (K w.params).In base → base.Ns mainGlobals mg → FnG l.prog w (K w.params) mg base (CX w) k fa fd [x] (sp w))
    (hsp : ∀ (w : World) (H : Hp) (a : Addr) (ns : List Int), ns.length ≤ n → (∀ z ∈ ns, Builtin.Int.intBits z ≤ 1048576) → Only H → SqL (K w.params) H a (ns.map V.int) → sp w [.ref a] H (fun v _ => v = .bl true) fun _ _ _ => False)
    (hCX : ∀ (w : World) (H : Hp) (s : Shared) (e : Value) (s' : Shared), CX w [] H s (fun _ _ _ => False) e s' → False) :
    PySem.W.WalkO q loose XP YP l.row.toRowW d [] (fun f vs => PySem.call f vs) := by
  refine Att.attach_callB hn hdf fun w s₀ s₁ mg mb fa o pm cd doc a vs ns G Y ho hd hcd hmg hobj hints hlen hbits hg => ?_
  obtain ⟨fd, hb, hF⟩ := F w mg fa _ (hY w _ Y) G.T.g hmg
  exact law_callG (hY w _ Y) G.T.g G.T.b G.T.builtins G.T.nolimit hg hobj hints (Nat.le_trans hlen hn2) hr hF hb (fun H hO hS => hsp w H a ns hlen hbits hO hS) fun H e s' => hCX w H s₁ e s'
end L2
namespace L2
open PySem PySem.Spec PyProof.Rows
/-- a def of the module -/
structure Df (K : PySem.W.Frag) (mg : Str → Option Value) (x : Str) (st : Stmt) (ps : List Str) where
  f : Addr
  fd : FuncData
  F : Fun K x x st f fd
  g : mg x = some (.ref f)
  b : Binds K fd ps []
/-- a method without defaults -/
structure Dm (K : PySem.W.Frag) (C : Addr) (x qual : Str) (st : Stmt) (ps : List Str) where
  f : Addr
  fd : FuncData
  F : Fun K x qual st f fd
  m : Meth K C x f
  b : Binds K fd ps []
/-- a method whose last parameter has the default v -/
structure Dd (K : PySem.W.Frag) (C : Addr) (x qual : Str) (st : Stmt) (ps : List Str) (v : V) where
  f : Addr
  fd : FuncData
  F : FunD K x qual (defArgs st) (defBody st) (defScope st) [v] [] f fd
  m : Meth K C x f
  b : Binds K fd ps []
  b1 : ∃ ds, Vals [v] ds ∧ Binds K fd ps ds
/-- a property -/
structure Dp' (K : PySem.W.Frag) (C : Addr) (x qual : Str) (st : Stmt) where
  f : Addr
  fd : FuncData
  F : Fun K x qual st f fd
  p : Addr
  P : PropOf K C x p f
  b : Binds K fd ["self"] []
/-- a constant -/
structure Ci (mg : Str → Option Value) (x : Str) (n : Int) where
  t : Tok
  g : mg x = some (.int n t)
structure Cs (mg : Str → Option Value) (x : Str) (z : Str) where
  t : Tok
  g : mg x = some (.str z t)
structure Ct (K : PySem.W.Frag) (mg : Str → Option Value) (x : Str) (vs : List V) where
  a : Addr
  g : mg x = some (.ref a)
  q : ∀ H : Hp, SqT K H a vs
end L2
set_option autoImplicit false
namespace DL
open PySem PySem.Spec PyProof.Rows L2
inductive D where
  | non | bl (b : Bool) | int (i : Int) | str (x : Str)
  | tup (ds : List D) | lst (ds : List D)
  | dic (ks : List Key) (vs : List D) | dit (ks : List (List Key)) (vs : List D)
  | ins (C : Addr) (ns : List Str) (vs : List D)
  | cls (a : Addr) | ty (n : String) | scr (ns : List Int)
/-- what is frozen of a heap (the script) -/
def fz (H : Hp) : Hp := fun b => match H b with
  | some (.frz o u) => some (.frz o u)
  | _ => none
theorem fz_some {H : Hp} {b : Addr} {o : HO} (h : fz H b = some o) : ∃ ob u, o = .frz ob u ∧ H b = some (.frz ob u) := by
  unfold fz at h
  split at h
  · rename_i ob u e
    cases h
    exact ⟨ob, u, rfl, e⟩
  · cases h
theorem fz_of {H : Hp} {b : Addr} {ob : Obj} {u : HO} (h : H b = some (.frz ob u)) : fz H b = some (.frz ob u) := by
  unfold fz
  rw [h]
theorem fz_mono {K : PySem.W.Frag} {H H' : Hp} {a : Addr} {xs : List V} (e : ∀ b o u, H b = some (.frz o u) → H' b = some (.frz o u)) (h : SqL K (fz H) a xs) : SqL K (fz H') a xs := by
  rcases h with (h | ⟨o, h⟩) | h
  · obtain ⟨_, _, z, _⟩ := fz_some h
    cases z
  · obtain ⟨ob, u, z, w⟩ := fz_some h
    cases z
    exact .inl (.inr ⟨_, fz_of (e _ _ _ w)⟩)
  · exact .inr h
theorem fz_sub {K : PySem.W.Frag} {H : Hp} {a : Addr} {xs : List V} (h : SqL K (fz H) a xs) : SqL K H a xs := by
  rcases h with (h | ⟨o, h⟩) | h
  · obtain ⟨_, _, z, _⟩ := fz_some h
    cases z
  · obtain ⟨ob, u, z, w⟩ := fz_some h
    cases z
    exact .inl (.inr ⟨_, w⟩)
  · exact .inr h
instance : Inhabited D := ⟨.non⟩
mutual
/-- v stands for d, and leans on no list, dict or instance of M -/
inductive Dat (K : PySem.W.Frag) (M : Addr → Prop) (H : Hp) : V → D → Prop
  | non : Dat K M H .non .non
  | bl (b : Bool) : Dat K M H (.bl b) (.bl b)
  | int (i : Int) : Dat K M H (.int i) (.int i)
  | str (x : Str) : Dat K M H (.str x) (.str x)
  | tup {a : Addr} {xs : List V} {ds : List D} : SqT K H a xs → DatAll K M H xs ds → Dat K M H (.ref a) (.tup ds)
  | lst {a : Addr} {xs : List V} {ds : List D} : ¬ M a → H a = some (.lst xs) → DatAll K M H xs ds → Dat K M H (.ref a) (.lst ds)
  | dic {a : Addr} {kvs : List (Key × V)} {ks : List Key} {ds : List D} : ¬ M a → Rd H a (.dK kvs) → kvs.map (·.1) = ks → DatAll K M H (kvs.map (·.2)) ds → Dat K M H (.ref a) (.dic ks ds)
  | dit {a : Addr} {kvs : List (List Key × V)} {ks : List (List Key)} {ds : List D} : ¬ M a → Rd H a (.dT kvs) → kvs.map (·.1) = ks → DatAll K M H (kvs.map (·.2)) ds → Dat K M H (.ref a) (.dit ks ds)
  | ins {a C dx : Addr} {fs : List (Str × V)} {ns : List Str} {ds : List D} : ¬ M a → H a = some (.ins C dx fs) → fs.map (·.1) = ns → DatAll K M H (fs.map (·.2)) ds → Dat K M H (.ref a) (.ins C ns ds)
  | cls (a : Addr) : Dat K M H (.ref a) (.cls a)
  | ty (n : String) : Dat K M H (.ty n) (.ty n)
  | scr {a : Addr} {ns : List Int} : SqL K (fz H) a (ns.map V.int) → Dat K M H (.ref a) (.scr ns)
inductive DatAll (K : PySem.W.Frag) (M : Addr → Prop) (H : Hp) : List V → List D → Prop
  | nil : DatAll K M H [] []
  | cons {v : V} {vs : List V} {d : D} {ds : List D} : Dat K M H v d → DatAll K M H vs ds → DatAll K M H (v :: vs) (d :: ds)
end
/-- what may change -/
def MutK : HO → Prop
  | .lst _ | .dK _ | .dT _ | .ins _ _ _ => True
  | _ => False
/-- what stands at M may change -/
def Kind (M : Addr → Prop) (H : Hp) : Prop := ∀ b, M b → ∃ o, H b = some o ∧ MutK o
/-- from (M, H) on: what is not of M stays; only new objects come to M -/
structure Ev (M : Addr → Prop) (H : Hp) (M' : Addr → Prop) (H' : Hp) : Prop where
  m : ∀ b, M' b → M b ∨ H b = none
  h : ∀ b o, ¬ M b → H b = some o → H' b = some o
section
variable {K : PySem.W.Frag} {M M' M1 M2 : Addr → Prop} {H H' H1 H2 : Hp}
theorem Ev.refl : Ev M H M H := ⟨fun _ h => .inl h, fun _ _ _ h => h⟩
theorem Ev.trans (a : Ev M H M1 H1) (b : Ev M1 H1 M2 H2) : Ev M H M2 H2 := by
  refine ⟨fun c h => ?_, fun c o n e => ?_⟩
  · rcases b.m c h with h | h
    · exact a.m c h
    · by_cases z : M c
      · exact .inl z
      · cases q : H c with
        | none => exact .inr rfl
        | some o => rw [a.h c o z q] at h; cases h
  · refine b.h c o (fun z => ?_) (a.h c o n e)
    rcases a.m c z with z | z
    · exact n z
    · rw [e] at z; cases z
theorem Ev.same (s : Same H H') : Ev M H M H' := ⟨fun _ h => .inl h, fun b o _ e => s b o e⟩
theorem Ev.less (s : ∀ b, M' b → M b) : Ev M H M' H := ⟨fun b h => .inl (s b h), fun _ _ _ e => e⟩
theorem Ev.not (e : Ev M H M' H') {b : Addr} {o : HO} (n : ¬ M b) (h : H b = some o) : ¬ M' b := fun z => by
  rcases e.m b z with z | z
  · exact n z
  · rw [h] at z; cases z
theorem Ev.rd (e : Ev M H M' H') {b : Addr} {u : HO} (n : ¬ M b) (h : Rd H b u) : Rd H' b u := by
  rcases h with h | ⟨o, h⟩
  · exact .inl (e.h _ _ n h)
  · exact .inr ⟨o, e.h _ _ n h⟩
theorem rd_some {b : Addr} {u : HO} (h : Rd H b u) : ∃ o, H b = some o := by
  rcases h with h | ⟨o, h⟩
  · exact ⟨_, h⟩
  · exact ⟨_, h⟩
theorem Kind.notTup (k : Kind M H) {b : Addr} {xs : List V} (h : H b = some (.tup xs)) : ¬ M b := fun z => by
  obtain ⟨o, e, m⟩ := k b z
  rw [h] at e; cases e; exact m
theorem Kind.notFrz (k : Kind M H) {b : Addr} {o : Obj} {u : HO} (h : H b = some (.frz o u)) : ¬ M b := fun z => by
  obtain ⟨o', e, m⟩ := k b z
  rw [h] at e; cases e; exact m
theorem Kind.sqT (k : Kind M H) (e : Ev M H M' H') {a : Addr} {xs : List V} (h : SqT K H a xs) : SqT K H' a xs := by
  rcases h with (h | ⟨o, h⟩) | h
  · exact .inl (.inl (e.h _ _ (k.notTup h) h))
  · exact .inl (.inr ⟨o, e.h _ _ (k.notFrz h) h⟩)
  · exact .inr h
mutual
theorem Dat.ev (k : Kind M H) (e : Ev M H M' H') : ∀ {v : V} {d : D}, Dat K M H v d → Dat K M' H' v d
  | _, _, .non => .non
  | _, _, .bl b => .bl b
  | _, _, .int i => .int i
  | _, _, .str x => .str x
  | _, _, .tup h a => .tup (k.sqT e h) (DatAll.ev k e a)
  | _, _, .lst n h a => .lst (e.not n h) (e.h _ _ n h) (DatAll.ev k e a)
  | _, _, .dic n h q a => .dic ((rd_some h).elim fun _ z => e.not n z) (e.rd n h) q (DatAll.ev k e a)
  | _, _, .dit n h q a => .dit ((rd_some h).elim fun _ z => e.not n z) (e.rd n h) q (DatAll.ev k e a)
  | _, _, .ins n h q a => .ins (e.not n h) (e.h _ _ n h) q (DatAll.ev k e a)
  | _, _, .cls a => .cls a
  | _, _, .ty a => .ty a
  | _, _, .scr h => .scr (fz_mono (fun b o u q => e.h _ _ (k.notFrz q) q) h)
theorem DatAll.ev (k : Kind M H) (e : Ev M H M' H') : ∀ {vs : List V} {ds : List D}, DatAll K M H vs ds → DatAll K M' H' vs ds
  | _, _, .nil => .nil
  | _, _, .cons r t => .cons (Dat.ev k e r) (DatAll.ev k e t)
end
mutual
theorem Dat.less (s : ∀ b, M' b → M b) : ∀ {v : V} {d : D}, Dat K M H v d → Dat K M' H v d
  | _, _, .non => .non
  | _, _, .bl b => .bl b
  | _, _, .int i => .int i
  | _, _, .str x => .str x
  | _, _, .tup h a => .tup h (DatAll.less s a)
  | _, _, .lst n h a => .lst (fun z => n (s _ z)) h (DatAll.less s a)
  | _, _, .dic n h q a => .dic (fun z => n (s _ z)) h q (DatAll.less s a)
  | _, _, .dit n h q a => .dit (fun z => n (s _ z)) h q (DatAll.less s a)
  | _, _, .ins n h q a => .ins (fun z => n (s _ z)) h q (DatAll.less s a)
  | _, _, .cls a => .cls a
  | _, _, .ty a => .ty a
  | _, _, .scr h => .scr h
theorem DatAll.less (s : ∀ b, M' b → M b) : ∀ {vs : List V} {ds : List D}, DatAll K M H vs ds → DatAll K M' H vs ds
  | _, _, .nil => .nil
  | _, _, .cons r t => .cons (Dat.less s r) (DatAll.less s t)
end
theorem same_seqT {a : Addr} {xs : List V} (e : Same H H') (h : SqT K H a xs) : SqT K H' a xs := by
  rcases h with (h | ⟨o, h⟩) | h
  · exact .inl (.inl (e _ _ h))
  · exact .inl (.inr ⟨o, e _ _ h⟩)
  · exact .inr h
theorem same_rd {a : Addr} {u : HO} (e : Same H H') (h : Rd H a u) : Rd H' a u := by
  rcases h with h | ⟨o, h⟩
  · exact .inl (e _ _ h)
  · exact .inr ⟨o, e _ _ h⟩
mutual
theorem Dat.same (e : Same H H') : ∀ {v : V} {d : D}, Dat K M H v d → Dat K M H' v d
  | _, _, .non => .non
  | _, _, .bl b => .bl b
  | _, _, .int i => .int i
  | _, _, .str x => .str x
  | _, _, .tup h a => .tup (same_seqT e h) (DatAll.same e a)
  | _, _, .lst n h a => .lst n (e _ _ h) (DatAll.same e a)
  | _, _, .dic n h q a => .dic n (same_rd e h) q (DatAll.same e a)
  | _, _, .dit n h q a => .dit n (same_rd e h) q (DatAll.same e a)
  | _, _, .ins n h q a => .ins n (e _ _ h) q (DatAll.same e a)
  | _, _, .cls a => .cls a
  | _, _, .ty a => .ty a
  | _, _, .scr h => .scr (fz_mono (fun b o u q => e _ _ q) h)
theorem DatAll.same (e : Same H H') : ∀ {vs : List V} {ds : List D}, DatAll K M H vs ds → DatAll K M H' vs ds
  | _, _, .nil => .nil
  | _, _, .cons r t => .cons (Dat.same e r) (DatAll.same e t)
end
theorem DatAll.length : ∀ {vs : List V} {ds : List D}, DatAll K M H vs ds → vs.length = ds.length
  | _, _, .nil => rfl
  | _, _, .cons _ t => by rw [List.length_cons, List.length_cons, DatAll.length t]
theorem DatAll.get : ∀ {vs : List V} {ds : List D} {i : Nat} {v : V}, DatAll K M H vs ds → vs[i]? = some v → ∃ d, ds[i]? = some d ∧ Dat K M H v d
  | _, _, _, _, .nil, e => by simp at e
  | _, _, 0, _, .cons r _, e => by simp at e; subst e; exact ⟨_, rfl, r⟩
  | _, _, i + 1, v, .cons _ t, e => by
    obtain ⟨u, h1, h2⟩ := DatAll.get (i := i) (v := v) t (by simpa using e)
    exact ⟨u, by simpa using h1, h2⟩
theorem DatAll.getD : ∀ {vs : List V} {ds : List D} {i : Nat} {d : D}, DatAll K M H vs ds → ds[i]? = some d → ∃ v, vs[i]? = some v ∧ Dat K M H v d
  | _, _, _, _, .nil, e => by simp at e
  | _, _, 0, _, .cons r _, e => by simp at e; subst e; exact ⟨_, rfl, r⟩
  | _, _, i + 1, v, .cons _ t, e => by
    obtain ⟨u, h1, h2⟩ := DatAll.getD (i := i) (d := v) t (by simpa using e)
    exact ⟨u, by simpa using h1, h2⟩
theorem DatAll.append : ∀ {vs us : List V} {ds es : List D}, DatAll K M H vs ds → DatAll K M H us es → DatAll K M H (vs ++ us) (ds ++ es)
  | _, _, _, _, .nil, s => s
  | _, _, _, _, .cons r t, s => .cons r (DatAll.append t s)
theorem DatAll.take : ∀ {vs : List V} {ds : List D} (n : Nat), DatAll K M H vs ds → DatAll K M H (vs.take n) (ds.take n)
  | _, _, 0, _ => by simp only [List.take_zero]; exact .nil
  | _, _, _ + 1, .nil => .nil
  | _, _, n + 1, .cons r t => .cons r (DatAll.take n t)
theorem DatAll.drop : ∀ {vs : List V} {ds : List D} (n : Nat), DatAll K M H vs ds → DatAll K M H (vs.drop n) (ds.drop n)
  | _, _, 0, r => r
  | _, _, _ + 1, .nil => .nil
  | _, _, n + 1, .cons _ t => DatAll.drop n t
theorem DatAll.set {v : V} {d : D} (r : Dat K M H v d) : ∀ {vs : List V} {ds : List D} (i : Nat), DatAll K M H vs ds → DatAll K M H (vs.set i v) (ds.set i d)
  | _, _, _, .nil => .nil
  | _, _, 0, .cons _ t => .cons r t
  | _, _, i + 1, .cons q t => .cons q (DatAll.set r i t)
theorem DatAll.reverse : ∀ {vs : List V} {ds : List D}, DatAll K M H vs ds → DatAll K M H vs.reverse ds.reverse
  | _, _, .nil => .nil
  | _, _, .cons r t => by
    rw [List.reverse_cons, List.reverse_cons]
    exact (DatAll.reverse t).append (.cons r .nil)
theorem DatAll.ints : ∀ {vs : List V} {xs : List Int}, DatAll K M H vs (xs.map D.int) → vs = xs.map V.int
  | _, [], .nil => rfl
  | _, x :: xs, .cons r t => by cases r; rw [DatAll.ints t]; rfl
theorem DatAll.bls : ∀ {vs : List V} {xs : List Bool}, DatAll K M H vs (xs.map D.bl) → vs = xs.map V.bl
  | _, [], .nil => rfl
  | _, x :: xs, .cons r t => by cases r; rw [DatAll.bls t]; rfl
theorem DatAll.of_ints : ∀ (xs : List Int), DatAll K M H (xs.map V.int) (xs.map D.int)
  | [] => .nil
  | x :: xs => .cons (.int x) (DatAll.of_ints xs)
end
inductive Cont (K : PySem.W.Frag) (M : Addr → Prop) (H : Hp) : HO → D → Prop
  | lst {xs : List V} {ds : List D} : DatAll K M H xs ds → Cont K M H (.lst xs) (.lst ds)
  | dic {kvs : List (Key × V)} {ks : List Key} {ds : List D} : kvs.map (·.1) = ks → DatAll K M H (kvs.map (·.2)) ds → Cont K M H (.dK kvs) (.dic ks ds)
  | dit {kvs : List (List Key × V)} {ks : List (List Key)} {ds : List D} : kvs.map (·.1) = ks → DatAll K M H (kvs.map (·.2)) ds → Cont K M H (.dT kvs) (.dit ks ds)
  | ins {C dx : Addr} {fs : List (Str × V)} {ns : List Str} {ds : List D} : fs.map (·.1) = ns → DatAll K M H (fs.map (·.2)) ds → Cont K M H (.ins C dx fs) (.ins C ns ds)
def Own (K : PySem.W.Frag) (M : Addr → Prop) (H : Hp) (a : Addr) (d : D) : Prop := ∃ o, H a = some o ∧ Cont K M H o d
section
variable {K : PySem.W.Frag} {M M' : Addr → Prop} {H H' : Hp} {a : Addr} {d : D} {u : HO}
theorem Cont.mut (o : Cont K M H u d) : MutK u := by
  cases o <;> trivial
theorem Cont.ev (k : Kind M H) (e : Ev M H M' H') (o : Cont K M H u d) : Cont K M' H' u d := by
  cases o with
  | lst q => exact .lst (q.ev k e)
  | dic z q => exact .dic z (q.ev k e)
  | dit z q => exact .dit z (q.ev k e)
  | ins z q => exact .ins z (q.ev k e)
theorem Cont.same (e : Same H H') (o : Cont K M H u d) : Cont K M H' u d := by
  cases o with
  | lst q => exact .lst (q.same e)
  | dic z q => exact .dic z (q.same e)
  | dit z q => exact .dit z (q.same e)
  | ins z q => exact .ins z (q.same e)
theorem Cont.less (s : ∀ b, M' b → M b) (o : Cont K M H u d) : Cont K M' H u d := by
  cases o with
  | lst q => exact .lst (q.less s)
  | dic z q => exact .dic z (q.less s)
  | dit z q => exact .dit z (q.less s)
  | ins z q => exact .ins z (q.less s)
/-- it is data for whoever leaves it as it is -/
theorem Cont.dat (n : ¬ M a) (h : H a = some u) (o : Cont K M H u d) : Dat K M H (.ref a) d := by
  cases o with
  | lst q => exact .lst n h q
  | dic z q => exact .dic n (.inl h) z q
  | dit z q => exact .dit n (.inl h) z q
  | ins z q => exact .ins n h z q
end
end DL
set_option autoImplicit false
namespace DL
open PySem PySem.Spec PyProof.Rows L2
inductive Cell where
  | no | dat (d : D) | own (par : Bool) (d : D)
abbrev Cs := List Cell
abbrev Mo (α : Type) := Cs → Option (α × Cs)
/-- what the callers own (M0), what of it may be changed here (P), the heap at the entry -/
structure Ctx (K : PySem.W.Frag) where
  M0 : Addr → Prop
  P : Addr → Prop
  H0 : Hp
inductive CellR {K : PySem.W.Frag} (c : Ctx K) (M : Addr → Prop) (H : Hp) : Option V → Cell → Prop
  | no (x : Option V) : CellR c M H x .no
  | dat {v : V} {d : D} : Dat K M H v d → CellR c M H (some v) (.dat d)
  | own {p : Bool} {a : Addr} {d : D} : M a → (if p = true then c.P a else ¬ c.M0 a) → Own K M H a d → CellR c M H (some (.ref a)) (.own p d)
structure Sta {K : PySem.W.Frag} (c : Ctx K) (M : Addr → Prop) (σ : L2.St) (H : Hp) (ρ : Cs) : Prop where
  pm : ∀ b, c.P b → c.M0 b
  sub : ∀ b, c.M0 b → M b
  new : ∀ b, M b → ¬ c.M0 b → c.H0 b = none
  kind : Kind M H
  base : ∀ b o, ¬ c.P b → c.H0 b = some o → H b = some o
  len : ρ.length = σ.length
  cell : ∀ (i : Nat) x y, σ[i]? = some x → ρ[i]? = some y → CellR c M H x y
  inj : ∀ (i j : Nat) a p q d e, σ[i]? = some (some (.ref a)) → ρ[i]? = some (.own p d) → σ[j]? = some (some (.ref a)) → ρ[j]? = some (.own q e) → i = j
section
variable {K : PySem.W.Frag} {c : Ctx K} {M : Addr → Prop} {σ : L2.St} {H H' : Hp} {ρ : Cs}
theorem Sta.same (S : Sta c M σ H ρ) (e : Same H H') : Sta c M σ H' ρ := by
  refine ⟨S.pm, S.sub, S.new, fun b h => ?_, fun b o n h => e _ _ (S.base b o n h), S.len, fun i x y h1 h2 => ?_, S.inj⟩
  · obtain ⟨o, q, m⟩ := S.kind b h
    exact ⟨o, e _ _ q, m⟩
  · cases S.cell i x y h1 h2 with
    | no => exact .no _
    | dat q => exact .dat (q.same e)
    | own m p q => exact .own m p (q.elim fun o z => ⟨o, e _ _ z.1, z.2.same e⟩)
/-- the owned object of slot i is changed -/
theorem Sta.mut (S : Sta c M σ H ρ) {i : Nat} {a : Addr} {p : Bool} {d d' : D} (hi : σ[i]? = some (some (.ref a))) (hr : ρ[i]? = some (.own p d)) (ho : ∀ b o, b ≠ a → H b = some o → H' b = some o)
    (hn : Own K M H' a d') : Ev M H M H' ∧ Sta c M σ H' (ρ.set i (.own p d')) := by
  have hc := S.cell i _ _ hi hr
  have Ma : M a := by cases hc with | own m _ _ => exact m
  have Pa : if p = true then c.P a else ¬ c.M0 a := by cases hc with | own _ q _ => exact q
  have E : Ev M H M H' := ⟨fun b h => .inl h, fun b o n h => ho b o (fun z => n (by rw [z]; exact Ma)) h⟩
  refine ⟨E, S.pm, S.sub, S.new, fun b h => ?_, fun b o n h => ?_, by rw [List.length_set]; exact S.len, fun j x y h1 h2 => ?_, fun j k b p1 p2 d1 d2 a1 a2 a3 a4 => ?_⟩
  · by_cases z : b = a
    · subst z
      obtain ⟨u, q, w⟩ := hn
      exact ⟨u, q, w.mut⟩
    · obtain ⟨o, q, m⟩ := S.kind b h
      exact ⟨o, ho b o z q, m⟩
  · refine ho b o (fun z => ?_) (S.base b o n h)
    subst z
    cases p with
    | true => exact n Pa
    | false => rw [S.new b Ma (by simpa using Pa)] at h; cases h
  · by_cases z : j = i
    · subst z
      rw [hi] at h1; cases h1
      rw [List.getElem?_set_self (by
        obtain ⟨l, _⟩ := List.getElem?_eq_some_iff.mp hr
        exact l)] at h2
      cases h2
      exact .own Ma Pa hn
    · rw [List.getElem?_set_ne (Ne.symm z)] at h2
      have hcj := S.cell j x y h1 h2
      cases hcj with
      | no => exact .no _
      | dat q => exact .dat (q.ev S.kind E)
      | own m q w =>
        rename_i p' a' d''
        have ne : a' ≠ a := fun e => z (S.inj j i a p' p d'' d (by rw [← e]; exact h1) h2 hi hr)
        exact .own m q (w.elim fun o r => ⟨o, ho _ _ ne r.1, r.2.ev S.kind E⟩)
  · by_cases z1 : j = i
    · by_cases z2 : k = i
      · rw [z1, z2]
      · subst z1
        rw [List.getElem?_set_ne (Ne.symm z2)] at a4
        rw [hi] at a1; cases a1
        exact S.inj j k _ p p2 d d2 hi hr a3 a4
    · rw [List.getElem?_set_ne (Ne.symm z1)] at a2
      by_cases z2 : k = i
      · subst z2
        rw [hi] at a3; cases a3
        exact S.inj j k _ p1 p d1 d a1 a2 hi hr
      · rw [List.getElem?_set_ne (Ne.symm z2)] at a4
        exact S.inj j k b p1 p2 d1 d2 a1 a2 a3 a4
theorem Sta.setDat (S : Sta c M σ H ρ) (i : Nat) {v : V} {d : D} (h : Dat K M H v d) : Sta c M (σ.set i (some v)) H (ρ.set i (.dat d)) := by
  refine ⟨S.pm, S.sub, S.new, S.kind, S.base, by rw [List.length_set, List.length_set]; exact S.len, fun j x y h1 h2 => ?_, fun j k b p1 p2 d1 d2 a1 a2 a3 a4 => ?_⟩
  · by_cases z : i = j
    · subst z
      have l : i < ρ.length := by
        have := (List.getElem?_eq_some_iff.mp h2).1
        simpa using this
      rw [List.getElem?_set_self (by rw [← S.len]; exact l)] at h1
      rw [List.getElem?_set_self l] at h2
      cases h1; cases h2
      exact .dat h
    · rw [List.getElem?_set_ne z] at h1 h2
      exact S.cell j x y h1 h2
  · have one : ∀ {n : Nat} {q : Bool} {e : D}, (ρ.set i (.dat d))[n]? = some (.own q e) → i ≠ n := fun {n q e} h z => by
      subst z
      have l : i < ρ.length := by
        have := (List.getElem?_eq_some_iff.mp h).1
        simpa using this
      rw [List.getElem?_set_self l] at h
      cases h
    have z1 := one a2
    have z2 := one a4
    rw [List.getElem?_set_ne z1] at a1 a2
    rw [List.getElem?_set_ne z2] at a3 a4
    exact S.inj j k b p1 p2 d1 d2 a1 a2 a3 a4
/-- the owned object of slot i is changed no more -/
theorem Sta.freeze (S : Sta c M σ H ρ) {i : Nat} {a : Addr} {d : D} (hi : σ[i]? = some (some (.ref a))) (hr : ρ[i]? = some (.own false d)) :
    Ev M H (fun b => M b ∧ b ≠ a) H ∧ Sta c (fun b => M b ∧ b ≠ a) σ H (ρ.set i (.dat d)) ∧ Dat K (fun b => M b ∧ b ≠ a) H (.ref a) d := by
  have hc := S.cell i _ _ hi hr
  obtain ⟨na, o, ho, hd⟩ : ¬ c.M0 a ∧ Own K M H a d := by
    cases hc with | own _ q w => exact ⟨by simpa using q, w⟩
  have L : ∀ b, (M b ∧ b ≠ a) → M b := fun b h => h.1
  have E : Ev M H (fun b => M b ∧ b ≠ a) H := Ev.less L
  have Q : Dat K (fun b => M b ∧ b ≠ a) H (.ref a) d := (hd.less L).dat (fun z => z.2 rfl) ho
  refine ⟨E, ⟨S.pm, fun b h => ⟨S.sub b h, fun z => na (by rw [← z]; exact h)⟩, fun b h n => S.new b h.1 n, fun b h => S.kind b h.1, S.base, by rw [List.length_set]; exact S.len, fun j x y h1 h2 => ?_, fun j k b p1 p2 d1 d2 a1 a2 a3 a4 => ?_⟩, Q⟩
  · by_cases z : j = i
    · subst z
      rw [hi] at h1; cases h1
      rw [List.getElem?_set_self (by
        obtain ⟨l, _⟩ := List.getElem?_eq_some_iff.mp hr
        exact l)] at h2
      cases h2
      exact .dat Q
    · rw [List.getElem?_set_ne (Ne.symm z)] at h2
      cases hcj : S.cell j x y h1 h2 with
      | no => exact .no _
      | dat q => exact .dat (q.less L)
      | own m q w =>
        rename_i p' a' d''
        have ne : a' ≠ a := fun e => z (S.inj j i a p' false d'' d (by rw [← e]; exact h1) h2 hi hr)
        exact .own ⟨m, ne⟩ q (w.elim fun o r => ⟨o, r.1, r.2.less L⟩)
  · have one : ∀ {n : Nat} {q : Bool} {e : D}, (ρ.set i (.dat d))[n]? = some (.own q e) → i ≠ n := fun {n q e} h z => by
      subst z
      have l : i < ρ.length := by
        have := (List.getElem?_eq_some_iff.mp h).1
        simpa using this
      rw [List.getElem?_set_self l] at h
      cases h
    have z1 := one a2
    have z2 := one a4
    rw [List.getElem?_set_ne z1] at a2
    rw [List.getElem?_set_ne z2] at a4
    exact S.inj j k b p1 p2 d1 d2 a1 a2 a3 a4
theorem Sta.dat (S : Sta c M σ H ρ) {i : Nat} {d : D} (h : ρ[i]? = some (.dat d)) : ∃ v, σ[i]? = some (some v) ∧ Dat K M H v d := by
  have l : i < σ.length := by rw [← S.len]; exact (List.getElem?_eq_some_iff.mp h).1
  have e : σ[i]? = some σ[i] := List.getElem?_eq_getElem l
  generalize σ[i] = x at e
  cases S.cell i x _ e h with
  | dat q => exact ⟨_, e, q⟩
theorem Sta.own (S : Sta c M σ H ρ) {i : Nat} {p : Bool} {d : D} (h : ρ[i]? = some (.own p d)) : ∃ a, σ[i]? = some (some (.ref a)) ∧ M a ∧ (if p = true then c.P a else ¬ c.M0 a) ∧ Own K M H a d := by
  have l : i < σ.length := by rw [← S.len]; exact (List.getElem?_eq_some_iff.mp h).1
  have e : σ[i]? = some σ[i] := List.getElem?_eq_getElem l
  generalize σ[i] = x at e
  cases S.cell i x _ e h with
  | own m q w => exact ⟨_, e, m, q, w⟩
end
def Held (σ : L2.St) (ρ : Cs) (a : Addr) : Prop := ∃ (i : Nat) (p : Bool) (d : D), σ[i]? = some (some (V.ref a)) ∧ ρ[i]? = some (Cell.own p d)
structure Es (σ : L2.St) (M : Addr → Prop) (H : Hp) (ρ : Cs) (σ' : L2.St) (M' : Addr → Prop) (H' : Hp) (ρ' : Cs) : Prop where
  ev : Ev M H M' H'
  kp : ∀ b o, ¬ Held σ ρ b → H b = some o → H' b = some o
  hs : ∀ b o, H b = some o → Held σ' ρ' b → Held σ ρ b
  mc : ∀ b, M b → ¬ Held σ ρ b → M' b
  dm : ∀ b, H' b = none → H b = none
section
variable {σ σ1 σ2 : L2.St} {M M1 M2 : Addr → Prop} {H H1 H2 : Hp} {ρ ρ1 ρ2 : Cs}
theorem Es.refl : Es σ M H ρ σ M H ρ := ⟨.refl, fun _ _ _ h => h, fun _ _ _ h => h, fun _ h _ => h, fun _ h => h⟩
theorem Es.trans (a : Es σ M H ρ σ1 M1 H1 ρ1) (b : Es σ1 M1 H1 ρ1 σ2 M2 H2 ρ2) (k : Kind M H) : Es σ M H ρ σ2 M2 H2 ρ2 := by
  have hs : ∀ c o, H c = some o → ¬ Held σ ρ c → ¬ Held σ1 ρ1 c := fun c o h n z => n (a.hs c o h z)
  refine ⟨a.ev.trans b.ev, fun c o n h => b.kp c o (hs c o h n) (a.kp c o n h), fun c o h z => ?_, fun c h n => ?_, fun c h => a.dm c (b.dm c h)⟩
  · by_cases n : Held σ ρ c
    · exact n
    · exact (n (a.hs c o h (b.hs c o (a.kp c o n h) z))).elim
  · obtain ⟨o, e, _⟩ := k c h
    exact b.mc c (a.mc c h n) (hs c o e n)
theorem Es.same (s : Same H H1) : Es σ M H ρ σ M H1 ρ := ⟨.same s, fun b o _ h => s b o h, fun _ _ _ h => h, fun _ h _ => h, fun _ h => s.free h⟩
end
theorem held_freeze {σ : L2.St} {ρ : Cs} {i : Nat} {d : D} (b : Addr) (h : Held σ (ρ.set i (.dat d)) b) : Held σ ρ b := by
  obtain ⟨j, p, e, h1, h2⟩ := h
  by_cases z : i = j
  · subst z
    have l : i < ρ.length := by
      have := (List.getElem?_eq_some_iff.mp h2).1
      simpa using this
    rw [List.getElem?_set_self l] at h2
    cases h2
  · rw [List.getElem?_set_ne z] at h2
    exact ⟨j, p, e, h1, h2⟩
theorem held_mut {σ : L2.St} {ρ : Cs} {i : Nat} {p : Bool} {d d' : D} (hr : ρ[i]? = some (.own p d)) (b : Addr) (h : Held σ (ρ.set i (.own p d')) b) : Held σ ρ b := by
  obtain ⟨j, q, e, h1, h2⟩ := h
  by_cases z : i = j
  · subst z
    exact ⟨i, p, d, h1, hr⟩
  · rw [List.getElem?_set_ne z] at h2
    exact ⟨j, q, e, h1, h2⟩
theorem Sta.freezeE {K : PySem.W.Frag} {c : Ctx K} {M : Addr → Prop} {σ : L2.St} {H : Hp} {ρ : Cs} (S : Sta c M σ H ρ) {i : Nat} {a : Addr} {d : D} (hi : σ[i]? = some (some (.ref a))) (hr : ρ[i]? = some (.own false d)) :
    Es σ M H ρ σ (fun b => M b ∧ b ≠ a) H (ρ.set i (.dat d)) ∧ Sta c (fun b => M b ∧ b ≠ a) σ H (ρ.set i (.dat d)) ∧ Dat K (fun b => M b ∧ b ≠ a) H (.ref a) d := by
  obtain ⟨E, S', h⟩ := S.freeze hi hr
  exact ⟨⟨E, fun _ _ _ h => h, fun b _ _ => held_freeze b, fun b h n => ⟨h, fun z => n ⟨i, false, d, by rw [z]; exact hi, hr⟩⟩, fun _ h => h⟩, S', h⟩
theorem Sta.mutE {K : PySem.W.Frag} {c : Ctx K} {M : Addr → Prop} {σ : L2.St} {H H' : Hp} {ρ : Cs} (S : Sta c M σ H ρ) {i : Nat} {a : Addr} {p : Bool} {d d' : D} (hi : σ[i]? = some (some (.ref a))) (hr : ρ[i]? = some (.own p d)) (ho : ∀ b o, b ≠ a → H b = some o → H' b = some o)
    (hn : Own K M H' a d') : Es σ M H ρ σ M H' (ρ.set i (.own p d')) ∧ Sta c M σ H' (ρ.set i (.own p d')) := by
  obtain ⟨E, S'⟩ := S.mut hi hr ho hn
  refine ⟨⟨E, fun b o n h => ho b o (fun z => n ⟨i, p, d, by rw [z]; exact hi, hr⟩) h, fun b _ _ => held_mut hr b, fun _ h _ => h, fun b h => ?_⟩, S'⟩
  by_cases z : b = a
  · subst z
    obtain ⟨u, q, _⟩ := hn
    rw [q] at h; cases h
  · cases q : H b with
    | none => rfl
    | some o => rw [ho b o z q] at h; cases h
/-- an object that no slot holds yet -/
theorem Sta.hold {K : PySem.W.Frag} {c : Ctx K} {M : Addr → Prop} {σ : L2.St} {H H' : Hp} {ρ : Cs} (S : Sta c M σ H ρ) {a : Addr} {o : HO} (hf : H a = none) (e : Same H H') (ho : H' a = some o) (hm : MutK o) :
    Es σ M H ρ σ (fun b => M b ∨ b = a) H' ρ ∧ Sta c (fun b => M b ∨ b = a) σ H' ρ ∧ ¬ Held σ ρ a := by
  have nM : ¬ M a := fun z => by
    obtain ⟨u, q, _⟩ := S.kind a z
    rw [hf] at q; cases q
  have E : Ev M H (fun b => M b ∨ b = a) H' := ⟨fun b h => h.elim .inl fun z => .inr (by rw [z]; exact hf), fun b u _ h => e _ _ h⟩
  have h0 : c.H0 a = none := by
    cases q : c.H0 a with
    | none => rfl
    | some u =>
      by_cases z : c.P a
      · exact absurd (S.sub a (S.pm a z)) nM
      · rw [S.base a u z q] at hf; cases hf
  refine ⟨⟨E, fun b u _ h => e _ _ h, fun _ _ _ h => h, fun b h _ => .inl h, fun _ h => e.free h⟩, ⟨S.pm, fun b h => .inl (S.sub b h), fun b h n => h.elim (fun z => S.new b z n) (fun z => by rw [z]; exact h0), fun b h => ?_, fun b u n h => e _ _ (S.base b u n h), S.len, fun j x y h1 h2 => ?_, S.inj⟩, ?_⟩
  · rcases h with h | h
    · obtain ⟨u, q, m⟩ := S.kind b h
      exact ⟨u, e _ _ q, m⟩
    · rw [h]; exact ⟨o, ho, hm⟩
  · cases S.cell j x y h1 h2 with
    | no => exact .no _
    | dat q => exact .dat (q.ev S.kind E)
    | own m p q => exact .own (.inl m) p (q.elim fun u w => ⟨u, e _ _ w.1, w.2.ev S.kind E⟩)
  · rintro ⟨j, p, d, h1, h2⟩
    cases S.cell j _ _ h1 h2 with
    | own m _ _ => exact nM m
/-- .. comes to slot i -/
theorem Sta.take {K : PySem.W.Frag} {c : Ctx K} {M : Addr → Prop} {σ : L2.St} {H : Hp} {ρ : Cs} (S : Sta c M σ H ρ) {a : Addr} {d : D} (i : Nat) (hM : M a) (h0 : c.H0 a = none) (n0 : ¬ c.M0 a) (ho : Own K M H a d) (hh : ¬ Held σ ρ a) :
    Sta c M (σ.set i (some (.ref a))) H (ρ.set i (.own false d)) := by
  refine ⟨S.pm, S.sub, S.new, S.kind, S.base, by rw [List.length_set, List.length_set]; exact S.len, fun j x y h1 h2 => ?_, fun j k b p1 p2 d1 d2 a1 a2 a3 a4 => ?_⟩
  · by_cases z : i = j
    · subst z
      have l : i < ρ.length := by
        have := (List.getElem?_eq_some_iff.mp h2).1
        simpa using this
      rw [List.getElem?_set_self (by rw [← S.len]; exact l)] at h1
      rw [List.getElem?_set_self l] at h2
      cases h1; cases h2
      exact .own hM (by simpa using n0) ho
    · rw [List.getElem?_set_ne z] at h1 h2
      exact S.cell j x y h1 h2
  · by_cases z1 : i = j
    · by_cases z2 : i = k
      · rw [← z1, ← z2]
      · subst z1
        have l : i < ρ.length := by
          have := (List.getElem?_eq_some_iff.mp a2).1
          simpa using this
        rw [List.getElem?_set_self (by rw [← S.len]; exact l)] at a1
        cases a1
        rw [List.getElem?_set_ne z2] at a3 a4
        exact (hh ⟨k, p2, d2, a3, a4⟩).elim
    · by_cases z2 : i = k
      · subst z2
        have l : i < ρ.length := by
          have := (List.getElem?_eq_some_iff.mp a4).1
          simpa using this
        rw [List.getElem?_set_self (by rw [← S.len]; exact l)] at a3
        cases a3
        rw [List.getElem?_set_ne z1] at a1 a2
        exact (hh ⟨j, p1, d1, a1, a2⟩).elim
      · rw [List.getElem?_set_ne z1] at a1 a2
        rw [List.getElem?_set_ne z2] at a3 a4
        exact S.inj j k b p1 p2 d1 d2 a1 a2 a3 a4
/-- what is free at the entry -/
theorem Sta.free0 {K : PySem.W.Frag} {c : Ctx K} {M : Addr → Prop} {σ : L2.St} {H : Hp} {ρ : Cs} (S : Sta c M σ H ρ) {a : Addr} (hf : H a = none) : c.H0 a = none ∧ ¬ c.M0 a := by
  have nM : ¬ M a := fun z => by
    obtain ⟨u, q, _⟩ := S.kind a z
    rw [hf] at q; cases q
  refine ⟨?_, fun z => nM (S.sub a z)⟩
  cases q : c.H0 a with
  | none => rfl
  | some u =>
    by_cases z : c.P a
    · exact absurd (S.sub a (S.pm a z)) nM
    · rw [S.base a u z q] at hf; cases hf
/-- an object that no slot holds is given up -/
theorem Sta.unhold {K : PySem.W.Frag} {c : Ctx K} {M : Addr → Prop} {σ : L2.St} {H : Hp} {ρ : Cs} (S : Sta c M σ H ρ) {a : Addr} (n0 : ¬ c.M0 a) (nh : ¬ Held σ ρ a) : Sta c (fun b => M b ∧ b ≠ a) σ H ρ := by
  have L : ∀ b, (M b ∧ b ≠ a) → M b := fun b h => h.1
  refine ⟨S.pm, fun b h => ⟨S.sub b h, fun z => n0 (by rw [← z]; exact h)⟩, fun b h n => S.new b h.1 n, fun b h => S.kind b h.1, S.base, S.len, fun j x y h1 h2 => ?_, S.inj⟩
  cases S.cell j x y h1 h2 with
  | no => exact .no _
  | dat q => exact .dat (q.less L)
  | own m q w =>
    rename_i p' a' d''
    exact .own ⟨m, fun e => nh ⟨j, p', d'', by rw [← e]; exact h1, h2⟩⟩ q (w.elim fun o r => ⟨o, r.1, r.2.less L⟩)
def REv {K : PySem.W.Frag} (c : Ctx K) (t : TE) (m : Mo D) : Prop := ∀ M σ H ρ, Sta c M σ H ρ → ∀ d ρ', m ρ = some (d, ρ') → ∀ Q : VK, (∀ M' v H', Es σ M H ρ σ M' H' ρ' → Sta c M' σ H' ρ' → Dat K M' H' v d → Q v H') → t σ H Q
def RTt {K : PySem.W.Frag} (c : Ctx K) (t : TT) (m : Mo Bool) : Prop := ∀ M σ H ρ, Sta c M σ H ρ → ∀ b ρ', m ρ = some (b, ρ') → ∀ Q : Bool → Hp → Prop, (∀ M' H', Es σ M H ρ σ M' H' ρ' → Sta c M' σ H' ρ' → Q b H') → t σ H Q
def RAv {K : PySem.W.Frag} (c : Ctx K) (t : TA) (m : Mo (List D)) : Prop := ∀ M σ H ρ, Sta c M σ H ρ → ∀ ds ρ', m ρ = some (ds, ρ') → ∀ Q : List V → Hp → Prop, (∀ M' vs H', Es σ M H ρ σ M' H' ρ' → Sta c M' σ H' ρ' → DatAll K M' H' vs ds → Q vs H') → t σ H Q
/-- a new object, which no slot holds yet -/
structure Nw {K : PySem.W.Frag} (c : Ctx K) (M : Addr → Prop) (σ : L2.St) (H : Hp) (ρ : Cs) (a : Addr) (d : D) : Prop where
  m : M a
  nh : ¬ Held σ ρ a
  h0 : c.H0 a = none
  n0 : ¬ c.M0 a
  o : Own K M H a d
def RNw {K : PySem.W.Frag} (c : Ctx K) (t : TE) (m : Mo D) : Prop := ∀ M σ H ρ, Sta c M σ H ρ → ∀ d ρ', m ρ = some (d, ρ') → ∀ Q : VK,
  (∀ M' a H', H a = none → Es σ M H ρ σ M' H' ρ' → Sta c M' σ H' ρ' → Nw c M' σ H' ρ' a d → Q (.ref a) H') → t σ H Q
/-- it stays while other things are reckoned -/
theorem Nw.es {K : PySem.W.Frag} {c : Ctx K} {M M' : Addr → Prop} {σ σ' : L2.St} {H H' : Hp} {ρ ρ' : Cs} {a : Addr} {d : D} (n : Nw c M σ H ρ a d) (k : Kind M H) (e : Es σ M H ρ σ' M' H' ρ') : Nw c M' σ' H' ρ' a d := by
  obtain ⟨o, ho, hc⟩ := n.o
  exact ⟨e.mc a n.m n.nh, fun z => n.nh (e.hs a o ho z), n.h0, n.n0, o, e.kp a o n.nh ho, hc.ev k e.ev⟩
theorem Sta.nw {K : PySem.W.Frag} {c : Ctx K} {M : Addr → Prop} {σ : L2.St} {H H' : Hp} {ρ : Cs} (S : Sta c M σ H ρ) {a : Addr} {o : HO} {d : D} (hf : H a = none) (e : Same H H') (ho : H' a = some o) (hd : Cont K M H o d) :
    Es σ M H ρ σ (fun b => M b ∨ b = a) H' ρ ∧ Sta c (fun b => M b ∨ b = a) σ H' ρ ∧ Nw c (fun b => M b ∨ b = a) σ H' ρ a d := by
  obtain ⟨E, S', n⟩ := S.hold hf e ho hd.mut
  exact ⟨E, S', .inr rfl, n, (S.free0 hf).1, (S.free0 hf).2, o, ho, hd.ev S.kind E.ev⟩
theorem Sta.takeN {K : PySem.W.Frag} {c : Ctx K} {M : Addr → Prop} {σ : L2.St} {H : Hp} {ρ : Cs} (S : Sta c M σ H ρ) {a : Addr} {d : D} (n : Nw c M σ H ρ a d) (i : Nat) : Sta c M (σ.set i (some (.ref a))) H (ρ.set i (.own false d)) := S.take i n.m n.h0 n.n0 n.o n.nh
/-- given up: it is data -/
theorem Nw.give {K : PySem.W.Frag} {c : Ctx K} {M : Addr → Prop} {σ : L2.St} {H : Hp} {ρ : Cs} {a : Addr} {d : D} (n : Nw c M σ H ρ a d) (S : Sta c M σ H ρ) :
    Ev M H (fun b => M b ∧ b ≠ a) H ∧ Sta c (fun b => M b ∧ b ≠ a) σ H ρ ∧ Dat K (fun b => M b ∧ b ≠ a) H (.ref a) d := by
  obtain ⟨o, ho, hc⟩ := n.o
  exact ⟨Ev.less fun b h => h.1, S.unhold n.n0 n.nh, (hc.less fun b h => h.1).dat (fun z => z.2 rfl) ho⟩
theorem RNw.ev {K : PySem.W.Frag} {c : Ctx K} {t : TE} {m : Mo D} (h : RNw c t m) : REv c t m := fun M σ H ρ S d ρ' e Q q => h M σ H ρ S d ρ' e Q fun M' a H' f E S1 n => by
  obtain ⟨E2, S2, D2⟩ := n.give S1
  refine q _ (.ref a) H' ⟨E.ev.trans E2, E.kp, E.hs, fun b h1 h2 => ⟨E.mc b h1 h2, fun z => ?_⟩, E.dm⟩ S2 D2
  subst z
  obtain ⟨o, w, _⟩ := S.kind b h1
  rw [f] at w; cases w
inductive Fl where
  | nx | rt (d : D) | rn (d : D) | bk | ct
def Post {K : PySem.W.Frag} (c : Ctx K) (M : Addr → Prop) (H : Hp) (D : Ends) : Fl → Cs → Prop
  | .nx, ρ' => ∀ M' σ' H', Ev M H M' H' → Sta c M' σ' H' ρ' → D.nx σ' H'
  | .rt d, ρ' => ∀ M' σ' v H', Ev M H M' H' → Sta c M' σ' H' ρ' → Dat K M' H' v d → D.rt v H'
  | .rn d, ρ' => ∀ M' σ' a H', Ev M H M' H' → Sta c M' σ' H' ρ' → Nw c M' σ' H' ρ' a d → D.rt (.ref a) H'
  | .bk, ρ' => ∀ M' σ' H', Ev M H M' H' → Sta c M' σ' H' ρ' → D.bk σ' H'
  | .ct, ρ' => ∀ M' σ' H', Ev M H M' H' → Sta c M' σ' H' ρ' → D.ct σ' H'
def RSt {K : PySem.W.Frag} (c : Ctx K) (t : TS) (m : Mo Fl) : Prop := ∀ M σ H ρ, Sta c M σ H ρ → ∀ f ρ', m ρ = some (f, ρ') → ∀ D : Ends, Post c M H D f ρ' → t D σ H
/-- a target takes a value -/
def RTg {K : PySem.W.Frag} (c : Ctx K) (g : TG) (m : D → Mo Unit) : Prop := ∀ M σ H ρ, Sta c M σ H ρ → ∀ v d, Dat K M H v d → ∀ u ρ', m d ρ = some (u, ρ') → ∀ Q : L2.St → Hp → Prop, (∀ M' σ' H', Es σ M H ρ σ' M' H' ρ' → Sta c M' σ' H' ρ' → Q σ' H') → g v σ H Q
def RTgs {K : PySem.W.Frag} (c : Ctx K) (g : TGs) (m : List D → Mo Unit) : Prop := ∀ M σ H ρ, Sta c M σ H ρ → ∀ vs ds, DatAll K M H vs ds → ∀ u ρ', m ds ρ = some (u, ρ') → ∀ Q : L2.St → Hp → Prop, (∀ M' σ' H', Es σ M H ρ σ' M' H' ρ' → Sta c M' σ' H' ρ' → Q σ' H') → g vs σ H Q
theorem Post.ev {K : PySem.W.Frag} {c : Ctx K} {M M' : Addr → Prop} {H H' : Hp} {D : Ends} {f : Fl} {ρ : Cs} (E : Ev M H M' H') (p : Post c M H D f ρ) : Post c M' H' D f ρ := by
  cases f with
  | nx => exact fun M' σ' H' e s => p M' σ' H' (E.trans e) s
  | rt d => exact fun M' σ' v H' e s h => p M' σ' v H' (E.trans e) s h
  | rn d => exact fun M' σ' a H' e s => p M' σ' a H' (E.trans e) s
  | bk => exact fun M' σ' H' e s => p M' σ' H' (E.trans e) s
  | ct => exact fun M' σ' H' e s => p M' σ' H' (E.trans e) s
structure DE (X : Cx) {K : PySem.W.Frag} (c : Ctx K) (e : Expr) (t : TE) (m : Mo D) : Prop where
  p : PE X e t
  r : REv c t m
structure DN (X : Cx) {K : PySem.W.Frag} (c : Ctx K) (e : Expr) (t : TE) (m : Mo D) : Prop where
  p : PE X e t
  r : RNw c t m
structure DT (X : Cx) {K : PySem.W.Frag} (c : Ctx K) (e : Expr) (t : TT) (m : Mo Bool) : Prop where
  p : PT X e t
  r : RTt c t m
structure DW (X : Cx) {K : PySem.W.Frag} (c : Ctx K) (e : Expr) (t : TT) (m : Mo Bool) : Prop where
  p : PW X e t
  r : RTt c t m
structure DA (X : Cx) {K : PySem.W.Frag} (c : Ctx K) (es : List Expr) (t : TA) (m : Mo (List D)) : Prop where
  p : PA X es t
  r : RAv c t m
structure DS (X : Cx) {K : PySem.W.Frag} (c : Ctx K) (s : Stmt) (t : TS) (m : Mo Fl) : Prop where
  p : PS X s t
  r : RSt c t m
structure DB (X : Cx) {K : PySem.W.Frag} (c : Ctx K) (s : List Stmt) (t : TS) (m : Mo Fl) : Prop where
  p : PSs X s t
  r : RSt c t m
structure DG (X : Cx) {K : PySem.W.Frag} (c : Ctx K) (e : Expr) (t : TG) (m : D → Mo Unit) : Prop where
  p : PG X e t
  r : RTg c t m
structure DGs (X : Cx) {K : PySem.W.Frag} (c : Ctx K) (es : List Expr) (t : TGs) (m : List D → Mo Unit) : Prop where
  p : PGs X es t
  r : RTgs c t m
theorem DN.e {X : Cx} {K : PySem.W.Frag} {c : Ctx K} {e : Expr} {t : TE} {m : Mo D} (h : DN X c e t m) : DE X c e t m := ⟨h.p, h.r.ev⟩
end DL
set_option autoImplicit false
namespace DL
open PySem PySem.Spec PyProof.Rows L2
mutual
def toP : D → PyData
  | .non => .none | .bl b => .bool b | .int i => .int i | .str x => .str x
  | .tup ds => .tuple (toPs ds) | .lst ds => .list (toPs ds)
  | .dic _ _ | .dit _ _ | .ins _ _ _ | .cls _ | .ty _ | .scr _ => .none
def toPs : List D → List PyData
  | [] => []
  | d :: r => toP d :: toPs r
end
mutual
def plain : D → Bool
  | .non | .bl _ | .int _ | .str _ => true
  | .tup ds | .lst ds => plains ds
  | .dic _ _ | .dit _ _ | .ins _ _ _ | .cls _ | .ty _ | .scr _ => false
def plains : List D → Bool
  | [] => true
  | d :: r => plain d && plains r
end
mutual
theorem noDict : ∀ d : D, plain d = true → (toP d).hasDict = false
  | .non, _ | .bl _, _ | .int _, _ | .str _, _ => by simp [toP, PyData.hasDict]
  | .tup ds, h | .lst ds, h => by simp only [toP, PyData.hasDict]; exact noDicts ds (by simpa only [plain] using h)
  | .dic _ _, h | .dit _ _, h | .ins _ _ _, h | .cls _, h | .ty _, h | .scr _, h => by simp [plain] at h
theorem noDicts : ∀ ds : List D, plains ds = true → PyData.hasDictAll (toPs ds) = false
  | [], _ => by simp [toPs, PyData.hasDictAll]
  | d :: r, h => by
    simp only [plains, Bool.and_eq_true] at h
    simp only [toPs, PyData.hasDictAll, noDict d h.1, noDicts r h.2]
    rfl
end
section
variable {X : Cx} {pins : List (Addr × Obj)} {σ : L2.St} {M : Addr → Prop} {H : Hp} {s : Shared}
mutual
theorem Dat.reads (I : Inv X pins σ H s) : ∀ (d : D) (v : V) (u : Value), plain d = true → Dat X.K M H v d → RelV v u → ∃ as, Reads s.heap u (toP d) as
  | .non, _, _, _, .non, r => by cases r; exact ⟨_, by simp only [toP]; exact Reads.none⟩
  | .bl b, _, _, _, .bl _, r => by cases r; exact ⟨_, by simp only [toP]; exact Reads.bool b⟩
  | .int i, _, _, _, .int _, r => by obtain ⟨t, rfl⟩ := r; exact ⟨_, by simp only [toP]; exact Reads.int i t⟩
  | .str x, _, _, _, .str _, r => by obtain ⟨t, rfl⟩ := r; exact ⟨_, by simp only [toP]; exact Reads.str x t⟩
  | .lst ds, _, _, z, .lst _ h a, r => by
    cases r
    obtain ⟨its, rv, ⟨o, n, ho, hc, _, hd⟩, _⟩ := I.list (SqL.of h)
    obtain ⟨as, hr⟩ := Dat.readsAll I ds _ its (by simpa only [plain] using z) a rv
    exact ⟨_, by simp only [toP]; exact Reads.list ho hc hd hr⟩
  | .tup ds, _, _, z, .tup h a, r => by
    cases r
    obtain ⟨its, rv, ⟨o, ho, hc, n, hd⟩, _⟩ := I.tuple h
    obtain ⟨as, hr⟩ := Dat.readsAll I ds _ its (by simpa only [plain] using z) a rv
    exact ⟨_, by simp only [toP]; exact Reads.tuple ho hc hd hr⟩
  | .dic _ _, _, _, z, _, _ | .dit _ _, _, _, z, _, _ | .ins _ _ _, _, _, z, _, _ | .cls _, _, _, z, _, _ | .ty _, _, _, z, _, _ | .scr _, _, _, z, _, _ => by simp [plain] at z
theorem Dat.readsAll (I : Inv X pins σ H s) : ∀ (ds : List D) (vs : List V) (us : List Value), plains ds = true → DatAll X.K M H vs ds → Vals vs us → ∃ as, ReadsAll s.heap us (toPs ds) as
  | [], _, _, _, .nil, r => by cases r; exact ⟨_, by simp only [toPs]; exact ReadsAll.nil⟩
  | d :: ds, _, _, z, .cons h1 h2, r => by
    have z' : plain d = true ∧ plains ds = true := by simpa [plains] using z
    cases r with
    | cons r1 r2 =>
      obtain ⟨as, q1⟩ := Dat.reads I d _ _ z'.1 h1 r1
      obtain ⟨bs, q2⟩ := Dat.readsAll I ds _ _ z'.2 h2 r2
      exact ⟨_, by simp only [toPs]; exact ReadsAll.cons q1 q2⟩
end
end
def rD (K : PySem.W.Frag) (g : D → D → Option D) : R2 := fun x y H Q => ∃ M d e r, Kind M H ∧ Dat K M H x d ∧ Dat K M H y e ∧ g d e = some r ∧ ∀ u H', Same H H' → Dat K M H' u r → Q u H'
/-- .. that give a new object -/
def rN (K : PySem.W.Frag) (g : D → D → Option D) : R2 := fun x y H Q => ∃ M d e r, Kind M H ∧ Dat K M H x d ∧ Dat K M H y e ∧ g d e = some r ∧ ∀ a H' o, H a = none → Same H H' → H' a = some o → Cont K M H o r → Q (.ref a) H'
def rU1 (K : PySem.W.Frag) (g : D → Option D) : V → Hp → VK → Prop := fun x H Q => ∃ M d r, Kind M H ∧ Dat K M H x d ∧ g d = some r ∧ ∀ u H', Same H H' → Dat K M H' u r → Q u H'
/-- calls -/
def rC (K : PySem.W.Frag) (g : List D → Option D) : List V → Hp → VK → Prop := fun xs H Q => ∃ M ds r, Kind M H ∧ DatAll K M H xs ds ∧ g ds = some r ∧ ∀ u H', Same H H' → Dat K M H' u r → Q u H'
def rCN (K : PySem.W.Frag) (g : List D → Option D) : List V → Hp → VK → Prop := fun xs H Q => ∃ M ds r, Kind M H ∧ DatAll K M H xs ds ∧ g ds = some r ∧ ∀ a H' o, H a = none → Same H H' → H' a = some o → Cont K M H o r → Q (.ref a) H'
/-- slices -/
def rS (K : PySem.W.Frag) (g : D → Option Int → Option Int → Option D) : V → Option Int → Option Int → Hp → VK → Prop := fun x lo hi H Q => ∃ M d r, Kind M H ∧ Dat K M H x d ∧ g d lo hi = some r ∧ ∀ u H', Same H H' → Dat K M H' u r → Q u H'
theorem Kind.fresh {M : Addr → Prop} {H : Hp} (k : Kind M H) {a : Addr} (h : H a = none) : ¬ M a := fun z => by
  obtain ⟨u, q, _⟩ := k a z
  rw [h] at q; cases q
/-- a new tuple, a new list -/
theorem dat_tup {K : PySem.W.Frag} {M : Addr → Prop} {H : Hp} {p : Addr} {xs : List V} {ds : List D} (hp : H p = none) (h : DatAll K M H xs ds) : Same H (upd H p (.tup xs)) ∧ Dat K M (upd H p (.tup xs)) (.ref p) (.tup ds) :=
  ⟨same_new hp, .tup (.inl (.inl upd_same)) (h.same (same_new hp))⟩
theorem dat_lst {K : PySem.W.Frag} {M : Addr → Prop} {H : Hp} {p : Addr} {xs : List V} {ds : List D} (k : Kind M H) (hp : H p = none) (h : DatAll K M H xs ds) : Same H (upd H p (.lst xs)) ∧ Dat K M (upd H p (.lst xs)) (.ref p) (.lst ds) :=
  ⟨same_new hp, .lst (k.fresh hp) upd_same (h.same (same_new hp))⟩
def dAdd : D → D → Option D
  | .int i, .int j => some (.int (i + j))
  | .str x, .str y => if x.length + y.length ≤ sizeLine then some (.str (x ++ y)) else none
  | .tup a, .tup b => if a.length + b.length ≤ sizeLine then some (.tup (a ++ b)) else none
  | .lst a, .lst b => if a.length + b.length ≤ sizeLine then some (.lst (a ++ b)) else none
  | _, _ => none
def dCat : D → D → Option D
  | .lst a, .lst b => if a.length + b.length ≤ sizeLine then some (.lst (a ++ b)) else none
  | _, _ => none
def dSub : D → D → Option D
  | .int i, .int j => some (.int (i - j))
  | _, _ => none
def dMul : D → D → Option D
  | .int i, .int j => if Builtin.Int.intBits i + Builtin.Int.intBits j ≤ 100000000 then some (.int (i * j)) else none
  | .lst a, .int j => if -(2 ^ 63) ≤ j ∧ j < 2 ^ 63 ∧ a.length * j.toNat ≤ sizeLine then some (.lst (List.replicate j.toNat a).flatten) else none
  | _, _ => none
theorem DatAll.rep {K : PySem.W.Frag} {M : Addr → Prop} {H : Hp} {vs : List V} {ds : List D} (h : DatAll K M H vs ds) : ∀ n : Nat, DatAll K M H (List.replicate n vs).flatten (List.replicate n ds).flatten
  | 0 => .nil
  | n + 1 => by
    rw [List.replicate_succ, List.replicate_succ, List.flatten_cons, List.flatten_cons]
    exact h.append (DatAll.rep h n)
def dDiv : D → D → Option D
  | .int i, .int j => if 0 < j ∧ j.natAbs.log2 < 9000 then some (.int (i / j)) else none
  | _, _ => none
def dMod : D → D → Option D
  | .int i, .int j => if 0 < j then some (.int (i % j)) else none
  | _, _ => none
def dPow : D → D → Option D
  | .int i, .int j => if 0 ≤ j ∧ j ≤ 1000000 ∧ i.natAbs < 2 ^ 64 then some (.int (i ^ j.toNat)) else none
  | _, _ => none
def dNeg : D → Option D
  | .int i => some (.int (-i))
  | _ => none
section
variable {X : Cx}
theorem if_some {α : Type} {c : Prop} [Decidable c] {a b : α} (h : (if c then some a else none) = some b) : c ∧ a = b := by
  split at h
  · exact ⟨by assumption, Option.some.inj h⟩
  · cases h
theorem op_ADD : OpR X (binaryOp .Add) (rD X.K dAdd) := by
  intro pins s σ H x y v u Q I rx ry h
  obtain ⟨M, d, e, r, k, hd, he, hg, q⟩ := h
  cases d <;> cases e <;> try (simp [dAdd] at hg; done)
  case int.int i j =>
    cases hd; cases he
    cases hg
    exact op_add pins s σ H _ _ v u Q I rx ry ⟨i, j, rfl, rfl, q _ H (.refl H) (.int _)⟩
  case str.str a b =>
    cases hd; cases he
    obtain ⟨z, rfl⟩ := if_some hg
    exact op_add_str pins s σ H _ _ v u Q I rx ry ⟨a, b, rfl, rfl, z, q _ H (.refl H) (.str _)⟩
  case tup.tup a b =>
    obtain ⟨z, rfl⟩ := if_some hg
    cases hd with
    | tup h1 a1 =>
      cases he with
      | tup h2 a2 =>
        rw [← a1.length, ← a2.length] at z
        refine op_catA pins s σ H _ _ v u Q I rx ry ⟨_, _, _, _, rfl, rfl, h1, h2, z, fun e => ?_, fun _ e => ?_, fun _ _ p hp => ?_⟩
        · subst e; cases a1; exact q _ H (.refl H) (.tup h2 a2)
        · subst e; cases a2; rw [List.append_nil] at q; exact q _ H (.refl H) (.tup h1 a1)
        · exact q _ _ (dat_tup hp (a1.append a2)).1 (dat_tup hp (a1.append a2)).2
  case lst.lst a b =>
    obtain ⟨z, rfl⟩ := if_some hg
    cases hd with
    | lst n1 h1 a1 =>
      cases he with
      | lst n2 h2 a2 =>
        rw [← a1.length, ← a2.length] at z
        refine op_cat pins s σ H _ _ v u Q I rx ry ⟨_, _, _, _, rfl, rfl, h1, h2, z, fun p hp => ?_⟩
        exact q _ _ (dat_lst k hp (a1.append a2)).1 (dat_lst k hp (a1.append a2)).2
theorem op_CAT : OpR X (binaryOp .Add) (rN X.K dCat) := by
  intro pins s σ H x y v u Q I rx ry h
  obtain ⟨M, d, e, r, k, hd, he, hg, q⟩ := h
  cases d <;> cases e <;> try (simp [dCat] at hg; done)
  case lst.lst a b =>
    obtain ⟨z, rfl⟩ := if_some hg
    cases hd with
    | lst n1 h1 a1 =>
      cases he with
      | lst n2 h2 a2 =>
        rw [← a1.length, ← a2.length] at z
        refine op_cat pins s σ H _ _ v u Q I rx ry ⟨_, _, _, _, rfl, rfl, h1, h2, z, fun p hp => ?_⟩
        exact q p _ _ hp (same_new hp) upd_same (.lst (a1.append a2))
theorem op_SUB : OpR X (binaryOp .Sub) (rD X.K dSub) := by
  intro pins s σ H x y v u Q I rx ry h
  obtain ⟨M, d, e, r, k, hd, he, hg, q⟩ := h
  cases d <;> cases e <;> try (simp [dSub] at hg; done)
  cases hd; cases he; cases hg
  exact op_sub pins s σ H _ _ v u Q I rx ry ⟨_, _, rfl, rfl, q _ H (.refl H) (.int _)⟩
theorem op_MUL : OpR X (binaryOp .Mult) (rD X.K dMul) := by
  intro pins s σ H x y v u Q I rx ry h
  obtain ⟨M, d, e, r, k, hd, he, hg, q⟩ := h
  cases d <;> cases e <;> try (simp [dMul] at hg; done)
  case int.int =>
    cases hd; cases he
    obtain ⟨z, rfl⟩ := if_some hg
    exact op_mulKb pins s σ H _ _ v u Q I rx ry ⟨_, _, rfl, rfl, z, q _ H (.refl H) (.int _)⟩
  case lst.int =>
    cases he
    obtain ⟨⟨z1, z2, z3⟩, rfl⟩ := if_some hg
    cases hd with
    | lst n h1 a1 =>
      rw [← a1.length] at z3
      refine op_rep pins s σ H _ _ v u Q I rx ry ⟨_, _, _, rfl, rfl, h1, z1, z2, z3, fun p hp => ?_⟩
      exact q _ _ (dat_lst k hp (a1.rep _)).1 (dat_lst k hp (a1.rep _)).2
theorem op_DIV : OpR X (binaryOp .FloorDiv) (rD X.K dDiv) := by
  intro pins s σ H x y v u Q I rx ry h
  obtain ⟨M, d, e, r, k, hd, he, hg, q⟩ := h
  cases d <;> cases e <;> try (simp [dDiv] at hg; done)
  cases hd; cases he
  obtain ⟨z, rfl⟩ := if_some hg
  exact op_fdivW pins s σ H _ _ v u Q I rx ry ⟨_, _, rfl, rfl, z, q _ H (.refl H) (.int _)⟩
theorem op_MOD : OpR X (binaryOp .Mod) (rD X.K dMod) := by
  intro pins s σ H x y v u Q I rx ry h
  obtain ⟨M, d, e, r, k, hd, he, hg, q⟩ := h
  cases d <;> cases e <;> try (simp [dMod] at hg; done)
  cases hd; cases he
  obtain ⟨z, rfl⟩ := if_some hg
  exact op_mod pins s σ H _ _ v u Q I rx ry ⟨_, _, rfl, rfl, z, q _ H (.refl H) (.int _)⟩
theorem op_POW : OpR X (binaryOp .Pow) (rD X.K dPow) := by
  intro pins s σ H x y v u Q I rx ry h
  obtain ⟨M, d, e, r, k, hd, he, hg, q⟩ := h
  cases d <;> cases e <;> try (simp [dPow] at hg; done)
  cases hd; cases he
  obtain ⟨z, rfl⟩ := if_some hg
  exact op_pow pins s σ H _ _ v u Q I rx ry ⟨_, _, rfl, rfl, z, q _ H (.refl H) (.int _)⟩
theorem un_NEG : UnR X (unaryOp .USub) (rU1 X.K dNeg) := by
  intro pins s σ H x v Q I rx h
  obtain ⟨M, d, r, k, hd, hg, q⟩ := h
  cases d <;> try (simp [dNeg] at hg; done)
  cases hd; cases hg
  exact un_neg pins s σ H _ v Q I rx ⟨_, rfl, q _ H (.refl H) (.int _)⟩
end
def dLt : D → D → Option D
  | .int i, .int j => some (.bl (decide (i < j)))
  | .str x, .str y => some (.bl (decide (x.cps.toList < y.cps.toList)))
  | _, _ => none
def dLe : D → D → Option D
  | .int i, .int j => some (.bl (decide (i ≤ j)))
  | _, _ => none
def dGt : D → D → Option D
  | .int i, .int j => some (.bl (decide (j < i)))
  | _, _ => none
def dGe : D → D → Option D
  | .int i, .int j => some (.bl (decide (j ≤ i)))
  | _, _ => none
/-- data that == looks at -/
def eqs (d e : D) : Option Bool :=
  if plain d = true ∧ plain e = true ∧ SeqAt.shaped (toP d) = true ∧ SeqAt.shaped (toP e) = true then some (PyData.eqv (toP d) (toP e)) else none
def dEq : D → D → Option D
  | .int i, .int j => some (.bl (i == j))
  | .str x, .str y => some (.bl (decide (x = y)))
  | .bl x, .bl y => some (.bl (x == y))
  | d, e => (eqs d e).map .bl
def dNe : D → D → Option D
  | .int i, .int j => some (.bl (!(i == j)))
  | .str x, .str y => some (.bl (!decide (x = y)))
  | .bl x, .bl y => some (.bl (!(x == y)))
  | d, e => (eqs d e).map fun b => .bl (!b)
def isNon : D → Bool
  | .non => true
  | _ => false
def dIs : D → D → Option D
  | d, .non => some (.bl (isNon d))
  | _, _ => none
def dIsNot : D → D → Option D
  | d, .non => some (.bl (!isNon d))
  | _, _ => none
theorem isNon_v {K : PySem.W.Frag} {M : Addr → Prop} {H : Hp} {v : V} {d : D} (h : Dat K M H v d) : decide (v = V.non) = isNon d := by
  cases h <;> simp [isNon]
section
variable {X : Cx}
theorem op_LT : OpR X (compareOp .Lt) (rD X.K dLt) := by
  intro pins s σ H x y v u Q I rx ry h
  obtain ⟨M, d, e, r, k, hd, he, hg, q⟩ := h
  cases d <;> cases e <;> try (simp [dLt] at hg; done)
  case int.int =>
    cases hd; cases he; cases hg
    exact op_lt pins s σ H _ _ v u Q I rx ry ⟨_, _, rfl, rfl, q _ H (.refl H) (.bl _)⟩
  case str.str =>
    cases hd; cases he; cases hg
    exact op_lt_str pins s σ H _ _ v u Q I rx ry ⟨_, _, rfl, rfl, q _ H (.refl H) (.bl _)⟩
theorem op_LE : OpR X (compareOp .LtE) (rD X.K dLe) := by
  intro pins s σ H x y v u Q I rx ry h
  obtain ⟨M, d, e, r, k, hd, he, hg, q⟩ := h
  cases d <;> cases e <;> try (simp [dLe] at hg; done)
  cases hd; cases he; cases hg
  exact op_le pins s σ H _ _ v u Q I rx ry ⟨_, _, rfl, rfl, q _ H (.refl H) (.bl _)⟩
theorem op_GT : OpR X (compareOp .Gt) (rD X.K dGt) := by
  intro pins s σ H x y v u Q I rx ry h
  obtain ⟨M, d, e, r, k, hd, he, hg, q⟩ := h
  cases d <;> cases e <;> try (simp [dGt] at hg; done)
  cases hd; cases he; cases hg
  exact op_gt pins s σ H _ _ v u Q I rx ry ⟨_, _, rfl, rfl, q _ H (.refl H) (.bl _)⟩
theorem op_GE : OpR X (compareOp .GtE) (rD X.K dGe) := by
  intro pins s σ H x y v u Q I rx ry h
  obtain ⟨M, d, e, r, k, hd, he, hg, q⟩ := h
  cases d <;> cases e <;> try (simp [dGe] at hg; done)
  cases hd; cases he; cases hg
  exact op_ge pins s σ H _ _ v u Q I rx ry ⟨_, _, rfl, rfl, q _ H (.refl H) (.bl _)⟩
theorem eqs_some {d e : D} {b : Bool} (h : eqs d e = some b) : plain d = true ∧ plain e = true ∧ SeqAt.shaped (toP d) = true ∧ SeqAt.shaped (toP e) = true ∧ PyData.eqv (toP d) (toP e) = b := by
  unfold eqs at h
  obtain ⟨⟨a, b, c, e⟩, f⟩ := if_some h
  exact ⟨a, b, c, e, f⟩
theorem op_EQ (hu : X.A.units + 64 < cLine) : OpR X (compareOp .Eq) (rD X.K dEq) := by
  intro pins s σ H x y v u Q I rx ry h
  obtain ⟨M, d, e, r, k, hd, he, hg, q⟩ := h
  by_cases c : ∃ b, eqs d e = some b ∧ r = .bl b
  · obtain ⟨b, eb, rfl⟩ := c
    obtain ⟨p1, p2, s1, s2, e3⟩ := eqs_some eb
    obtain ⟨as, r1⟩ := hd.reads I _ _ _ p1 rx
    obtain ⟨bs, r2⟩ := he.reads I _ _ _ p2 ry
    refine SeqAt.compareEq_shaped r1 r2 s1 s2 hu ?_
    rw [e3]
    exact ⟨.bl b, H, I, rfl, q _ H (.refl H) (.bl b)⟩
  · have nogen : ∀ z : Option D, z = (eqs d e).map D.bl → z = some r → False := fun z h1 h2 => by
      rw [h2] at h1
      cases w : eqs d e with
      | none => rw [w] at h1; cases h1
      | some b => rw [w] at h1; cases h1; exact c ⟨b, w, rfl⟩
    cases d <;> cases e <;> first
      | (exact (nogen _ rfl hg).elim)
      | (cases hd; cases he; cases hg
         refine op_eq pins s σ H _ _ v u Q I rx ry ⟨rfl, ?_⟩
         first
           | (rw [dec_int]; exact q _ H (.refl H) (.bl _))
           | (rw [dec_bl]; exact q _ H (.refl H) (.bl _))
           | (simp only [V.str.injEq]; exact q _ H (.refl H) (.bl _)))
theorem op_NE (hu : X.A.units + 64 < cLine) : OpR X (compareOp .NotEq) (rD X.K dNe) := by
  intro pins s σ H x y v u Q I rx ry h
  obtain ⟨M, d, e, r, k, hd, he, hg, q⟩ := h
  by_cases c : ∃ b, eqs d e = some b ∧ r = .bl (!b)
  · obtain ⟨b, eb, rfl⟩ := c
    obtain ⟨p1, p2, s1, s2, e3⟩ := eqs_some eb
    obtain ⟨as, r1⟩ := hd.reads I _ _ _ p1 rx
    obtain ⟨bs, r2⟩ := he.reads I _ _ _ p2 ry
    refine SeqAt.compareNe_shaped r1 r2 s1 s2 hu ?_
    rw [e3]
    exact ⟨.bl (!b), H, I, rfl, q _ H (.refl H) (.bl _)⟩
  · have nogen : ∀ z : Option D, z = (eqs d e).map (fun b => D.bl (!b)) → z = some r → False := fun z h1 h2 => by
      rw [h2] at h1
      cases w : eqs d e with
      | none => rw [w] at h1; cases h1
      | some b => rw [w] at h1; cases h1; exact c ⟨b, w, rfl⟩
    cases d <;> cases e <;> first
      | (exact (nogen _ rfl hg).elim)
      | (cases hd; cases he; cases hg
         refine op_ne pins s σ H _ _ v u Q I rx ry ⟨rfl, ?_⟩
         first
           | (rw [dec_int]; exact q _ H (.refl H) (.bl _))
           | (rw [dec_bl]; exact q _ H (.refl H) (.bl _))
           | (simp only [V.str.injEq]; exact q _ H (.refl H) (.bl _)))
theorem op_IS : OpR X (compareOp .Is) (rD X.K dIs) := by
  intro pins s σ H x y v u Q I rx ry h
  obtain ⟨M, d, e, r, k, hd, he, hg, q⟩ := h
  cases e <;> try (simp [dIs] at hg; done)
  cases he
  have hg : some (D.bl (isNon d)) = some r := hg
  cases hg
  refine op_isN pins s σ H _ _ v u Q I rx ry ⟨rfl, ?_⟩
  rw [isNon_v hd]
  exact q _ H (.refl H) (.bl _)
theorem op_ISNOT : OpR X (compareOp .IsNot) (rD X.K dIsNot) := by
  intro pins s σ H x y v u Q I rx ry h
  obtain ⟨M, d, e, r, k, hd, he, hg, q⟩ := h
  cases e <;> try (simp [dIsNot] at hg; done)
  cases he
  have hg : some (D.bl (!isNon d)) = some r := hg
  cases hg
  refine op_notN pins s σ H _ _ v u Q I rx ry ⟨rfl, ?_⟩
  rw [isNon_v hd]
  exact q _ H (.refl H) (.bl _)
end
end DL
set_option autoImplicit false
namespace DL
open PySem PySem.Spec PyProof.Rows L2
def sign1 (x : Str) : Option Nat := match x.cps.toList with
  | [c] => some c
  | _ => none
theorem sign1_eq {x : Str} {c : Nat} (h : sign1 x = some c) : x = ⟨#[c]⟩ := by
  unfold sign1 at h
  split at h
  · rename_i e
    cases h
    obtain ⟨a⟩ := x
    congr 1
    have h2 : a.toList = [c] := e
    rw [← Array.toArray_toList (xs := a), h2]
  · cases h
def dInB : D → D → Option Bool
  | .str x, .str z => (sign1 x).map fun c => decide (c ∈ z.cps.toList)
  | d, .lst ds => if plain d = true ∧ plains ds = true ∧ SeqAt.shaped (toP d) = true ∧ SeqAt.shaped (.list (toPs ds)) = true then some ((toPs ds).any fun e => PyData.eqv e (toP d)) else none
  | d, .tup ds => if plain d = true ∧ plains ds = true ∧ SeqAt.shaped (toP d) = true ∧ SeqAt.shaped (.tuple (toPs ds)) = true then some ((toPs ds).any fun e => PyData.eqv e (toP d)) else none
  | _, _ => none
def dIn (d e : D) : Option D := (dInB d e).map .bl
theorem map_some {α β : Type} {o : Option α} {f : α → β} {r : β} (h : o.map f = some r) : ∃ a, o = some a ∧ f a = r := by
  cases o with
  | none => cases h
  | some a => exact ⟨a, rfl, Option.some.inj h⟩
theorem room_in {A : Around} {xs : List PyData} {d : PyData} (h : SeqAt.shaped d = true) (hu : A.units + 100 < cLine) : A.units + 1 + min (PyData.depthAll xs) d.depth < cLine := by
  have h1 := SeqAt.depth_of_shaped h
  have : min (PyData.depthAll xs) d.depth ≤ 64 := Nat.le_trans (Nat.min_le_right _ _) h1
  omega
section
variable {X : Cx}
theorem op_IN (hu : X.A.units + 100 < cLine) : OpR X (compareOp .In) (rD X.K dIn) := by
  intro pins s σ H x y v u Q I rx ry h
  obtain ⟨M, d, e, r, k, hd, he, hg, q⟩ := h
  obtain ⟨b, hb, rfl⟩ := map_some hg
  by_cases c : ∃ x z, d = .str x ∧ e = .str z
  · obtain ⟨x, z, rfl, rfl⟩ := c
    cases hd; cases he
    obtain ⟨c, hc, rfl⟩ := map_some (show (sign1 x).map _ = some b from hb)
    obtain rfl := sign1_eq hc
    exact op_in_sign pins s σ H _ _ v u Q I rx ry ⟨c, z, rfl, rfl, q _ H (.refl H) (.bl _)⟩
  · cases e with
    | lst ds =>
      have hb' : (if plain d = true ∧ plains ds = true ∧ SeqAt.shaped (toP d) = true ∧ SeqAt.shaped (.list (toPs ds)) = true then some ((toPs ds).any fun e => PyData.eqv e (toP d)) else none) = some b := by
        cases d <;> first | exact hb | (exfalso; exact c ⟨_, _, rfl, rfl⟩)
      obtain ⟨⟨a1, a2, a3, a4⟩, rfl⟩ := if_some hb'
      obtain ⟨as, r1⟩ := hd.reads I _ _ _ a1 rx
      obtain ⟨bs, r2⟩ := he.reads I (.lst ds) _ _ (by simpa only [plain] using a2) ry
      simp only [toP] at r2
      exact SeqAt.in_list_reads r2 r1 (SeqAt.canLay_of_shaped a4) (SeqAt.canLay_of_shaped a3) (room_in a3 hu) ⟨.bl _, H, I, rfl, q _ H (.refl H) (.bl _)⟩
    | tup ds =>
      have hb' : (if plain d = true ∧ plains ds = true ∧ SeqAt.shaped (toP d) = true ∧ SeqAt.shaped (.tuple (toPs ds)) = true then some ((toPs ds).any fun e => PyData.eqv e (toP d)) else none) = some b := by
        cases d <;> first | exact hb | (exfalso; exact c ⟨_, _, rfl, rfl⟩)
      obtain ⟨⟨a1, a2, a3, a4⟩, rfl⟩ := if_some hb'
      obtain ⟨as, r1⟩ := hd.reads I _ _ _ a1 rx
      obtain ⟨bs, r2⟩ := he.reads I (.tup ds) _ _ (by simpa only [plain] using a2) ry
      simp only [toP] at r2
      exact SeqAt.in_tuple_reads r2 r1 (SeqAt.canLay_of_shaped a4) (SeqAt.canLay_of_shaped a3) (room_in a3 hu) ⟨.bl _, H, I, rfl, q _ H (.refl H) (.bl _)⟩
    | str z => cases d <;> first | (exfalso; exact c ⟨_, _, rfl, rfl⟩) | (simp [dInB] at hb)
    | _ => cases d <;> simp [dInB] at hb
end
def dIx : D → D → Option D
  | .tup ds, .int i => atI ds i
  | .lst ds, .int i => atI ds i
  | .scr ns, .int i => (atI ns i).map .int
  | .str z, .int i => if z.length ≤ sizeLine then (atI z.cps.toList i).map fun c => .str ⟨#[c]⟩ else none
  | _, _ => none
theorem atI_dat {K : PySem.W.Frag} {M : Addr → Prop} {H : Hp} {xs : List V} {ds : List D} {i : Int} {d : D} (h : DatAll K M H xs ds) (e : atI ds i = some d) : ∃ v, atI xs i = some v ∧ Dat K M H v d := by
  unfold atI at e ⊢
  rw [h.length]
  cases q : ixN ds.length i with
  | none => rw [q] at e; cases e
  | some j =>
    rw [q] at e
    exact h.getD e
theorem atI_map {α β : Type} (f : α → β) (xs : List α) (i : Int) : atI (xs.map f) i = (atI xs i).map f := by
  unfold atI
  rw [List.length_map]
  cases ixN xs.length i with
  | none => rfl
  | some j => simp
def cutD {α : Type} (xs : List α) (lo hi : Option Int) : List α := (xs.drop (HT.sIx xs.length 0 lo)).take (HT.sIx xs.length xs.length hi - HT.sIx xs.length 0 lo)
theorem cut_dat {K : PySem.W.Frag} {M : Addr → Prop} {H : Hp} {xs : List V} {ds : List D} (lo hi : Option Int) (h : DatAll K M H xs ds) : DatAll K M H (cutV xs lo hi) (cutD ds lo hi) := by
  unfold cutV cutD
  rw [h.length]
  exact (h.drop _).take _
theorem cut_map {β : Type} (f : β → V) (xs : List β) (lo hi : Option Int) : cutV (xs.map f) lo hi = (cutD xs lo hi).map f := by
  unfold cutV cutD
  rw [List.length_map, ← List.map_drop, ← List.map_take]
/-- the whole of it -/
theorem cut_whole {α : Type} {xs : List α} {lo hi : Option Int} (h : HT.sIx xs.length 0 lo = 0 ∧ HT.sIx xs.length xs.length hi = xs.length) : cutD xs lo hi = xs := by
  unfold cutD
  rw [h.1, h.2, Nat.sub_zero, List.drop_zero, List.take_length]
def dSl : D → Option Int → Option Int → Option D
  | .tup ds, lo, hi => some (.tup (cutD ds lo hi))
  | .lst ds, lo, hi => some (.lst (cutD ds lo hi))
  | .scr ns, lo, hi => some (.lst ((cutD ns lo hi).map .int))
  | .str z, lo, hi => if z.length ≤ sizeLine then some (.str (cutS z lo hi)) else none
  | _, _, _ => none
section
variable {X : Cx}
theorem ix_ALL : IxR X (rD X.K dIx) := by
  intro value slice pins s σ H x y v u Q I rx ry h hs
  obtain ⟨M, d, e, r, k, hd, he, hg, q⟩ := h
  cases d <;> cases e <;> try (simp [dIx] at hg; done)
  case tup.int ds i =>
    cases he
    cases hd with
    | tup h1 a1 =>
      obtain ⟨w, e1, w1⟩ := atI_dat a1 hg
      exact ix_tup value slice pins s σ H _ _ v u Q I rx ry ⟨_, _, i, w, rfl, rfl, h1, e1, q _ H (.refl H) w1⟩ hs
  case lst.int ds i =>
    cases he
    cases hd with
    | lst n h1 a1 =>
      obtain ⟨w, e1, w1⟩ := atI_dat a1 hg
      exact ix_list value slice pins s σ H _ _ v u Q I rx ry ⟨_, _, i, w, rfl, rfl, SqL.of h1, e1, q _ H (.refl H) w1⟩ hs
  case scr.int ns i =>
    cases he
    cases hd with
    | scr h1 =>
      obtain ⟨n, e1, rfl⟩ := map_some hg
      exact ix_list value slice pins s σ H _ _ v u Q I rx ry ⟨_, _, i, .int n, rfl, rfl, fz_sub h1, by rw [atI_map, e1]; rfl, q _ H (.refl H) (.int n)⟩ hs
  case str.int z i =>
    cases he; cases hd
    have hg : (if z.length ≤ sizeLine then (atI z.cps.toList i).map fun c => D.str ⟨#[c]⟩ else none) = some r := hg
    split at hg
    · rename_i hz
      obtain ⟨c, e1, rfl⟩ := map_some hg
      exact ix_str value slice pins s σ H _ _ v u Q I rx ry ⟨z, i, c, rfl, rfl, hz, e1, q _ H (.refl H) (.str _)⟩ hs
    · cases hg
theorem sl_ALL : SlR X (rS X.K dSl) := by
  intro pins s σ H x v vl vu lo hi sl Q I rx hs pl pu h
  obtain ⟨M, d, r, k, hd, hg, q⟩ := h
  cases d <;> try (simp [dSl] at hg; done)
  case tup ds =>
    cases hg
    cases hd with
    | tup h1 a1 =>
      refine sl_tupA pins s σ H _ v vl vu lo hi sl Q I rx hs pl pu ⟨_, _, rfl, h1, fun w => ?_, fun _ p hp => ?_⟩
      · rw [a1.length] at w
        refine q _ H (.refl H) ?_
        rw [cut_whole w]
        exact .tup h1 a1
      · exact q _ _ (dat_tup hp (cut_dat lo hi a1)).1 (dat_tup hp (cut_dat lo hi a1)).2
  case lst ds =>
    cases hg
    cases hd with
    | lst n h1 a1 =>
      refine sl_list pins s σ H _ v vl vu lo hi sl Q I rx hs pl pu ⟨_, _, rfl, SqL.of h1, fun p hp => ?_⟩
      exact q _ _ (dat_lst k hp (cut_dat lo hi a1)).1 (dat_lst k hp (cut_dat lo hi a1)).2
  case scr ns =>
    cases hg
    cases hd with
    | scr h1 =>
      refine sl_list pins s σ H _ v vl vu lo hi sl Q I rx hs pl pu ⟨_, _, rfl, fz_sub h1, fun p hp => ?_⟩
      rw [cut_map]
      have a := dat_lst k hp (DatAll.of_ints (K := X.K) (M := M) (H := H) (cutD ns lo hi))
      exact q _ _ a.1 a.2
  case str z =>
    cases hd
    obtain ⟨hz, rfl⟩ := if_some hg
    exact sl_str pins s σ H _ v vl vu lo hi sl Q I rx hs pl pu ⟨z, rfl, hz, q _ H (.refl H) (.str _)⟩
end
def dLen : List D → Option D
  | [.tup ds] => some (.int ds.length)
  | [.lst ds] => some (.int ds.length)
  | [.scr ns] => some (.int ns.length)
  | [.str z] => if z.length ≤ sizeLine then some (.int z.length) else none
  | _ => none
def dAbs : List D → Option D
  | [.int i] => some (.int (if i < 0 then -i else i))
  | _ => none
def dMax : List D → Option D
  | [.int i, .int j] => some (.int (if j > i then j else i))
  | _ => none
def dMin : List D → Option D
  | [.int i, .int j] => some (.int (if j < i then j else i))
  | _ => none
def dInt : List D → Option D
  | [.int i] => some (.int i)
  | [.bl k] => some (.int (if k then 1 else 0))
  | [.str a] => if a.length ≤ 640 then (PySem.intText? a).map .int else none
  | _ => none
def dTuple : List D → Option D
  | [.lst ds] => some (.tup ds)
  | [.tup ds] => some (.tup ds)
  | _ => none
def dDivmod : List D → Option D
  | [.int i, .int j] => if 0 < j ∧ j.natAbs.log2 < 9000 then some (.tup [.int (i / j), .int (i % j)]) else none
  | _ => none
def dGcd : List D → Option D
  | [.int a, .int b] => some (.int ((Nat.gcd a.natAbs b.natAbs : Nat) : Int))
  | _ => none
def bls? : List D → Option (List Bool)
  | [] => some []
  | .bl b :: r => (bls? r).map (b :: ·)
  | _ => none
def dAll : List D → Option D
  | [.lst ds] => (bls? ds).map fun bs => .bl (bs.all id)
  | _ => none
def dRepr : List D → Option D
  | [.lst ds] => if plains ds = true ∧ PyData.showableAll (toPs ds) = true ∧ (toP (.lst ds)).depth ≤ 60 ∧ (toP (.lst ds)).shown.length ≤ sizeLine then some (.str (toP (.lst ds)).shown) else none
  | [.tup ds] => if plains ds = true ∧ PyData.showableAll (toPs ds) = true ∧ (toP (.tup ds)).depth ≤ 60 ∧ (toP (.tup ds)).shown.length ≤ sizeLine then some (.str (toP (.tup ds)).shown) else none
  | [.int i] => if i.natAbs.log2 < 1920 then some (.str (toString i)) else none
  | _ => none
theorem bls_eq : ∀ {ds : List D} {bs : List Bool}, bls? ds = some bs → ds = bs.map D.bl
  | [], _, h => by cases h; rfl
  | .bl b :: r, _, h => by
    obtain ⟨t, e, rfl⟩ := map_some (show (bls? r).map _ = _ from h)
    rw [bls_eq e]; rfl
  | .non :: _, _, h | .int _ :: _, _, h | .str _ :: _, _, h | .tup _ :: _, _, h | .lst _ :: _, _, h | .dic _ _ :: _, _, h | .dit _ _ :: _, _, h | .ins _ _ _ :: _, _, h | .cls _ :: _, _, h | .ty _ :: _, _, h | .scr _ :: _, _, h => by simp [bls?] at h
section
variable {X : Cx}
/-- what the value list of one argument is -/
theorem one_of {K : PySem.W.Frag} {M : Addr → Prop} {H : Hp} {xs : List V} {d : D} (h : DatAll K M H xs [d]) : ∃ v, xs = [v] ∧ Dat K M H v d := by
  cases h with
  | cons a t => cases t; exact ⟨_, rfl, a⟩
theorem two_of {K : PySem.W.Frag} {M : Addr → Prop} {H : Hp} {xs : List V} {d e : D} (h : DatAll K M H xs [d, e]) : ∃ v w, xs = [v, w] ∧ Dat K M H v d ∧ Dat K M H w e := by
  cases h with
  | cons a t => cases t with | cons b t => cases t; exact ⟨_, _, rfl, a, b⟩
theorem dat_ii {K : PySem.W.Frag} {M : Addr → Prop} {H : Hp} (i j : Int) : DatAll K M H [.int i, .int j] [.int i, .int j] := .cons (.int i) (.cons (.int j) .nil)
theorem dat_ii_put {K : PySem.W.Frag} {M : Addr → Prop} {H : Hp} {i j : Int} {p : Addr} {Q : VK} (hp : H p = none) (q : ∀ u H', Same H H' → Dat K M H' u (.tup [.int i, .int j]) → Q u H') : Q (.ref p) (upd H p (.tup [.int i, .int j])) :=
  q _ _ (dat_tup hp (dat_ii (K := K) (M := M) i j)).1 (dat_tup hp (dat_ii i j)).2
theorem call_LEN : CallR X (.builtin "len") (rC X.K dLen) := by
  intro pins s σ H xs us Q I r h
  obtain ⟨M, ds, z, k, hd, hg, q⟩ := h
  unfold dLen at hg
  split at hg <;> try (cases hg; done)
  · cases hg
    obtain ⟨v, rfl, hv⟩ := one_of hd
    cases hv with
    | tup h1 a1 => exact call_len pins s σ H _ us Q I r ⟨_, _, rfl, .inr ⟨_, h1, rfl⟩, by rw [a1.length]; exact q _ H (.refl H) (.int _)⟩
  · cases hg
    obtain ⟨v, rfl, hv⟩ := one_of hd
    cases hv with
    | lst n h1 a1 => exact call_len pins s σ H _ us Q I r ⟨_, _, rfl, .inl ⟨_, SqL.of h1, rfl⟩, by rw [a1.length]; exact q _ H (.refl H) (.int _)⟩
  · cases hg
    obtain ⟨v, rfl, hv⟩ := one_of hd
    cases hv with
    | scr h1 => exact call_len pins s σ H _ us Q I r ⟨_, _, rfl, .inl ⟨_, fz_sub h1, rfl⟩, by rw [List.length_map]; exact q _ H (.refl H) (.int _)⟩
  · obtain ⟨hz, rfl⟩ := if_some hg
    obtain ⟨v, rfl, hv⟩ := one_of hd
    cases hv
    exact call_len pins s σ H _ us Q I r ⟨_, _, rfl, ⟨hz, rfl⟩, q _ H (.refl H) (.int _)⟩
theorem call_ABS : CallR X (.builtin "abs") (rC X.K dAbs) := by
  intro pins s σ H xs us Q I r h
  obtain ⟨M, ds, z, k, hd, hg, q⟩ := h
  unfold dAbs at hg
  split at hg <;> try (cases hg; done)
  cases hg
  obtain ⟨v, rfl, hv⟩ := one_of hd
  cases hv
  exact call_abs pins s σ H _ us Q I r ⟨_, rfl, q _ H (.refl H) (.int _)⟩
theorem call_MAX (hc : X.calm = true) : CallR X (.builtin "max") (rC X.K dMax) := by
  intro pins s σ H xs us Q I r h
  obtain ⟨M, ds, z, k, hd, hg, q⟩ := h
  unfold dMax at hg
  split at hg <;> try (cases hg; done)
  cases hg
  obtain ⟨v, w, rfl, hv, hw⟩ := two_of hd
  cases hv; cases hw
  exact call_max2 hc pins s σ H _ us Q I r ⟨_, _, rfl, q _ H (.refl H) (.int _)⟩
theorem call_MIN (hc : X.calm = true) : CallR X (.builtin "min") (rC X.K dMin) := by
  intro pins s σ H xs us Q I r h
  obtain ⟨M, ds, z, k, hd, hg, q⟩ := h
  unfold dMin at hg
  split at hg <;> try (cases hg; done)
  cases hg
  obtain ⟨v, w, rfl, hv, hw⟩ := two_of hd
  cases hv; cases hw
  exact call_min2 hc pins s σ H _ us Q I r ⟨_, _, rfl, q _ H (.refl H) (.int _)⟩
theorem call_INT : CallR X (.type "int") (rC X.K dInt) := by
  intro pins s σ H xs us Q I r h
  obtain ⟨M, ds, z, k, hd, hg, q⟩ := h
  unfold dInt at hg
  split at hg <;> try (cases hg; done)
  · cases hg
    obtain ⟨v, rfl, hv⟩ := one_of hd
    cases hv
    exact call_int1 pins s σ H _ us Q I r (.inl ⟨_, rfl, q _ H (.refl H) (.int _)⟩)
  · cases hg
    obtain ⟨v, rfl, hv⟩ := one_of hd
    cases hv
    exact call_int1 pins s σ H _ us Q I r (.inr ⟨_, rfl, q _ H (.refl H) (.int _)⟩)
  · split at hg
    · obtain ⟨v, rfl, hv⟩ := one_of hd
      cases hv
      obtain ⟨n, e, rfl⟩ := map_some hg
      exact call_int_str pins s σ H _ us Q I r ⟨_, n, rfl, e, by assumption, q _ H (.refl H) (.int _)⟩
    · cases hg
theorem call_TUPLE : CallR X (.type "tuple") (rC X.K dTuple) := by
  intro pins s σ H xs us Q I r h
  obtain ⟨M, ds, z, k, hd, hg, q⟩ := h
  unfold dTuple at hg
  split at hg <;> try (cases hg; done)
  · cases hg
    obtain ⟨v, rfl, hv⟩ := one_of hd
    cases hv with
    | lst n h1 a1 => exact call_tuple_of pins s σ H _ us Q I r ⟨_, _, rfl, .inl ⟨SqL.of h1, fun l hl => q _ _ (dat_tup hl a1).1 (dat_tup hl a1).2⟩⟩
  · cases hg
    obtain ⟨v, rfl, hv⟩ := one_of hd
    cases hv with
    | tup h1 a1 => exact call_tuple_of pins s σ H _ us Q I r ⟨_, _, rfl, .inr ⟨h1, q _ H (.refl H) (.tup h1 a1)⟩⟩
theorem call_DIVMOD : CallR X (.builtin "divmod") (rC X.K dDivmod) := by
  intro pins s σ H xs us Q I r h
  obtain ⟨M, ds, z, k, hd, hg, q⟩ := h
  unfold dDivmod at hg
  split at hg <;> try (cases hg; done)
  obtain ⟨hz, rfl⟩ := if_some hg
  obtain ⟨v, w, rfl, hv, hw⟩ := two_of hd
  cases hv; cases hw
  refine call_divmodW pins s σ H _ us Q I r ⟨_, _, rfl, ⟨hz.1, PyProof.noPylong_of_log2 hz.2⟩, fun p hp => ?_⟩
  exact dat_ii_put hp q
theorem call_GCD : CallR X (.builtin "math.gcd") (rC X.K dGcd) := by
  intro pins s σ H xs us Q I r h
  obtain ⟨M, ds, z, k, hd, hg, q⟩ := h
  unfold dGcd at hg
  split at hg <;> try (cases hg; done)
  cases hg
  obtain ⟨v, w, rfl, hv, hw⟩ := two_of hd
  cases hv; cases hw
  exact cr_gcd pins s σ H _ us Q I r ⟨_, _, rfl, q _ H (.refl H) (.int _)⟩
theorem call_ALL (hc : X.calm = true) : CallR X (.builtin "all") (rC X.K dAll) := by
  intro pins s σ H xs us Q I r h
  obtain ⟨M, ds, z, k, hd, hg, q⟩ := h
  unfold dAll at hg
  split at hg <;> try (cases hg; done)
  obtain ⟨bs, e, rfl⟩ := map_some hg
  obtain ⟨v, rfl, hv⟩ := one_of hd
  cases hv with
  | lst n h1 a1 =>
    rw [bls_eq e] at a1
    rw [a1.bls] at h1
    exact cr_all hc pins s σ H _ us Q I r ⟨_, bs, rfl, SqL.of h1, q _ H (.refl H) (.bl _)⟩
theorem call_REPR (hg : X.A.guards = some []) (hu : X.A.units + 64 < cLine) : CallR X (.builtin "repr") (rC X.K dRepr) := by
  intro pins s σ H xs us Q I r h
  obtain ⟨M, ds, z, k, hd, hg', q⟩ := h
  have core : ∀ (d : D) (a : Addr) (u : Value), Dat X.K M H (.ref a) d → RelV (.ref a) u → plain d = true → (toP d).showable = true → (toP d).depth ≤ 60 → (toP d).shown.length ≤ sizeLine → Q (.str (toP d).shown) H → us = [u] → wpAny (model X.prog X.w) X.A (call (.builtin "repr") us) (EP X pins σ Q) X.xe s := by
    intro d a u hv ru hp hs hdp hl hq e
    subst e
    obtain ⟨as, hr⟩ := hv.reads I _ _ _ hp ru
    cases ru
    refine repr_of_reads' (h₀ := s.heap) hr hs (PyData.noDict_hsm (noDict d hp)) hg (by omega) (fun b o e => e) (fun h' u tk k => ?_) hl
    exact ⟨.str (toP d).shown, H, I.kept (t' := tk) k, ⟨u, rfl⟩, hq⟩
  unfold dRepr at hg'
  split at hg' <;> try (cases hg'; done)
  · obtain ⟨⟨a1, a2, a3, a4⟩, rfl⟩ := if_some hg'
    obtain ⟨v, rfl, hv⟩ := one_of hd
    obtain ⟨u, rfl, ru⟩ := vals1 r
    obtain ⟨a, rfl⟩ : ∃ a, v = .ref a := by cases hv <;> exact ⟨_, rfl⟩
    exact core _ a u hv ru (by simpa only [plain] using a1) (by simp only [toP, PyData.showable]; exact a2) a3 a4 (q _ H (.refl H) (.str _)) rfl
  · obtain ⟨⟨a1, a2, a3, a4⟩, rfl⟩ := if_some hg'
    obtain ⟨v, rfl, hv⟩ := one_of hd
    obtain ⟨u, rfl, ru⟩ := vals1 r
    obtain ⟨a, rfl⟩ : ∃ a, v = .ref a := by cases hv <;> exact ⟨_, rfl⟩
    exact core _ a u hv ru (by simpa only [plain] using a1) (by simp only [toP, PyData.showable]; exact a2) a3 a4 (q _ H (.refl H) (.str _)) rfl
  · obtain ⟨hz, rfl⟩ := if_some hg'
    obtain ⟨v, rfl, hv⟩ := one_of hd
    cases hv
    exact SkE.call_repr_int pins s σ H _ us Q I r ⟨_, rfl, hz, q _ H (.refl H) (.str _)⟩
end
def tyName : D → Option String
  | .non => some "NoneType" | .bl _ => some "bool" | .int _ => some "int" | .str _ => some "str" | .tup _ => some "tuple"
  | .lst _ | .scr _ => some "list" | .dic _ _ => some "dict" | .dit _ _ | .ins _ _ _ | .cls _ | .ty _ => none
def tyNames : List String := ["NoneType", "bool", "int", "str", "tuple", "list", "dict"]
def isTy (n T : String) : Bool := n == T || (n == "bool" && T == "int")
def dIsT : List D → Option D
  | [d, .ty T] => if T ∈ tyNames then (tyName d).map fun n => .bl (isTy n T) else none
  | _ => none
theorem kit_all : ∀ n ∈ tyNames, ∀ T ∈ tyNames, kitB n T = some (isTy n T) := by decide +kernel
theorem tyName_mem {d : D} {n : String} (h : tyName d = some n) : n ∈ tyNames := by
  cases d <;> simp only [tyName, Option.some.injEq, reduceCtorEq] at h <;> subst h <;> decide
theorem tyX_of {K : PySem.W.Frag} {M : Addr → Prop} {H : Hp} {v : V} {d : D} {n : String} (h : Dat K M H v d) (e : tyName d = some n) : TyX K H v (.type n) := by
  cases h with
  | non => cases e; exact .base .non
  | bl b => cases e; exact .base (.bl b)
  | int b => cases e; exact .base (.int b)
  | str b => cases e; exact .base (.str b)
  | tup h a =>
    cases e
    rcases h with (h | ⟨o, h⟩) | ⟨o, its, n, h, c, _⟩
    · exact .base (.tup h)
    · exact .fTuple h
    · exact .kTuple h c
  | lst n h a => cases e; exact .base (.lst h)
  | dic n h q a =>
    cases e
    rcases h with h | ⟨o, h⟩
    · exact .base (.dK h)
    · exact .fDict h
  | dit n h q a => cases e
  | ins n h q a => cases e
  | cls a => cases e
  | ty a => cases e
  | scr h =>
    cases e
    rcases h with (h | ⟨o, h⟩) | ⟨o, its, n, h, c, _⟩
    · obtain ⟨_, _, z, _⟩ := fz_some h
      cases z
    · obtain ⟨ob, u, z, w⟩ := fz_some h
      cases z
      exact .base (.frz w)
    · exact .kList h c
section
variable {X : Cx}
/-- isinstance(x, T) -/
theorem call_ISIT : CallR X (.builtin "isinstance") (rC X.K dIsT) := by
  intro pins s σ H xs us Q I r h
  obtain ⟨M, ds, z, k, hd, hg, q⟩ := h
  unfold dIsT at hg
  split at hg
  · rename_i d T
    split at hg
    · rename_i hT
      obtain ⟨n, hn, rfl⟩ := map_some hg
      obtain ⟨v, w, rfl, hv, hw⟩ := two_of hd
      cases hw
      exact call_isi pins s σ H _ us Q I r ⟨v, .ty T, _, _, _, rfl, .ty T, tyX_of hv hn, kit_ty (kit_all n (tyName_mem hn) T hT), q _ H (.refl H) (.bl _)⟩
    · cases hg
  · cases hg
end
end DL
set_option autoImplicit false
namespace DL
open PySem PySem.Spec PyProof.Rows L2
def mC {α : Type} (a : α) : Mo α := fun ρ => some (a, ρ)
def mBd {α β : Type} (m : Mo α) (f : α → Mo β) : Mo β := fun ρ => match m ρ with
  | some (a, ρ') => f a ρ'
  | none => none
def mL {α : Type} (o : Option α) : Mo α := fun ρ => match o with
  | some a => some (a, ρ)
  | none => none
def mVar (i : Nat) : Mo D := fun ρ => match ρ[i]? with
  | some (.dat d) => some (d, ρ)
  | some (.own false d) => some (d, ρ.set i (.dat d))
  | _ => none
def mOp (g : D → D → Option D) (a b : Mo D) : Mo D := mBd a fun x => mBd b fun y => mL (g x y)
def mUn (g : D → Option D) (a : Mo D) : Mo D := mBd a fun x => mL (g x)
def bl? : D → Option Bool
  | .bl b => some b
  | _ => none
/-- a bool, as a test -/
def mTst (a : Mo D) : Mo Bool := mBd a fun x => mL (bl? x)
def mAndV (a b : Mo D) : Mo D := mBd (mTst a) fun x => if x = true then b else mC (.bl false)
def mOrV (a b : Mo D) : Mo D := mBd (mTst a) fun x => if x = true then mC (.bl true) else b
def mNotV (a : Mo D) : Mo D := mBd (mTst a) fun x => mC (.bl (!x))
def mAnd (a b : Mo Bool) : Mo Bool := mBd a fun x => if x = true then b else mC false
def mOr (a b : Mo Bool) : Mo Bool := mBd a fun x => if x = true then mC true else b
def mNot (a : Mo Bool) : Mo Bool := mBd a fun x => mC (!x)
def mIf (t : Mo Bool) (a b : Mo D) : Mo D := mBd t fun x => if x = true then a else b
def mChain (g h : D → D → Option D) (a b c : Mo D) : Mo D := mBd a fun x => mBd b fun y => mBd (mL (g x y)) fun z => mBd (mL (bl? z)) fun k => if k = true then mBd c fun w => mL (h y w) else mC z
def aNil : Mo (List D) := mC []
def aCons (a : Mo D) (r : Mo (List D)) : Mo (List D) := mBd a fun x => mBd r fun xs => mC (x :: xs)
def mTup (a : Mo (List D)) : Mo D := mBd a fun xs => mL (if xs.length ≤ sizeLine then some (.tup xs) else none)
def mLst (a : Mo (List D)) : Mo D := mBd a fun xs => mL (if xs.length ≤ sizeLine then some (.lst xs) else none)
def mFn (g : List D → Option D) (a : Mo (List D)) : Mo D := mBd a fun xs => mL (g xs)
def int? : D → Option Int
  | .int i => some i
  | _ => none
def mNo : Mo (Option Int) := mC none
def mPart (a : Mo D) : Mo (Option Int) := mBd a fun x => mBd (mL (int? x)) fun i => mC (some i)
def mSl (g : D → Option Int → Option Int → Option D) (a : Mo D) (l h : Mo (Option Int)) : Mo D := mBd a fun x => mBd l fun i => mBd h fun j => mL (g x i j)
theorem mBd_some {α β : Type} {m : Mo α} {f : α → Mo β} {ρ ρ' : Cs} {b : β} (h : mBd m f ρ = some (b, ρ')) : ∃ a ρ1, m ρ = some (a, ρ1) ∧ f a ρ1 = some (b, ρ') := by
  unfold mBd at h
  split at h
  · exact ⟨_, _, by assumption, h⟩
  · cases h
theorem mL_some {α : Type} {o : Option α} {ρ ρ' : Cs} {a : α} (h : mL o ρ = some (a, ρ')) : o = some a ∧ ρ' = ρ := by
  unfold mL at h
  split at h
  · cases h; exact ⟨rfl, rfl⟩
  · cases h
theorem mC_some {α : Type} {x : α} {ρ ρ' : Cs} {a : α} (h : mC x ρ = some (a, ρ')) : a = x ∧ ρ' = ρ := by
  unfold mC at h
  cases h; exact ⟨rfl, rfl⟩
def ROv {K : PySem.W.Frag} (c : Ctx K) (t : TO) (m : Mo (Option Int)) : Prop := ∀ M σ H ρ, Sta c M σ H ρ → ∀ o ρ', m ρ = some (o, ρ') → ∀ Q : Option Int → Hp → Prop, (∀ M' H', Es σ M H ρ σ M' H' ρ' → Sta c M' σ H' ρ' → Q o H') → t σ H Q
structure DO' (X : Cx) {K : PySem.W.Frag} (c : Ctx K) (e : Option Expr) (t : TO) (m : Mo (Option Int)) : Prop where
  p : PO X e t
  r : ROv c t m
section
variable {K : PySem.W.Frag} {c : Ctx K} {ta tb tc : TE} {ma mb mc : Mo D} {t t' : TT} {m m' : Mo Bool} {tl : TA} {ml : Mo (List D)}
theorem r_const {v : V} {d : D} (h : ∀ M H, Dat K M H v d) : REv c (tC v) (mC d) := by
  intro M σ H ρ S e ρ' hm Q q
  obtain ⟨rfl, rfl⟩ := mC_some hm
  exact q M v H .refl S (h M H)
theorem r_var (i : Nat) : REv c (tVar i) (mVar i) := by
  intro M σ H ρ S d ρ' hm Q q
  unfold mVar at hm
  split at hm
  · rename_i e
    cases hm
    obtain ⟨v, hv, hd⟩ := S.dat e
    exact ⟨v, hv, q M v H .refl S hd⟩
  · rename_i e
    cases hm
    obtain ⟨a, ha, _, _, _⟩ := S.own e
    obtain ⟨E, S', hd⟩ := S.freezeE ha e
    exact ⟨_, ha, q _ _ H E S' hd⟩
  · cases hm
theorem r_op {g : D → D → Option D} (ha : REv c ta ma) (hb : REv c tb mb) : REv c (tOp (rD K g) ta tb) (mOp g ma mb) := by
  intro M σ H ρ S d ρ' hm Q q
  obtain ⟨x, ρ1, h1, hm⟩ := mBd_some hm
  obtain ⟨y, ρ2, h2, hm⟩ := mBd_some hm
  obtain ⟨hg, rfl⟩ := mL_some hm
  refine ha M σ H ρ S x ρ1 h1 _ fun M1 v H1 E1 S1 d1 => hb M1 σ H1 ρ1 S1 y _ h2 _ fun M2 w H2 E2 S2 d2 => ?_
  exact ⟨M2, x, y, d, S2.kind, d1.ev S1.kind E2.ev, d2, hg, fun u H3 s h => q M2 u H3 ((E1.trans E2 S.kind).trans (.same s) S.kind) (S2.same s) h⟩
theorem r_new {M M1 : Addr → Prop} {σ : L2.St} {H H1 H2 : Hp} {ρ ρ1 : Cs} {a : Addr} {o : HO} {d : D} {Q : VK} (S : Sta c M σ H ρ) (E : Es σ M H ρ σ M1 H1 ρ1) (S1 : Sta c M1 σ H1 ρ1) (n : H1 a = none) (s : Same H1 H2) (ho : H2 a = some o) (h : Cont K M1 H1 o d)
    (q : ∀ M' a H', H a = none → Es σ M H ρ σ M' H' ρ1 → Sta c M' σ H' ρ1 → Nw c M' σ H' ρ1 a d → Q (.ref a) H') : Q (.ref a) H2 := by
  obtain ⟨E2, S2, N⟩ := S1.nw n s ho h
  exact q _ a H2 (E.dm a n) (E.trans E2 S.kind) S2 N
theorem r_opN {g : D → D → Option D} (ha : REv c ta ma) (hb : REv c tb mb) : RNw c (tOp (rN K g) ta tb) (mOp g ma mb) := by
  intro M σ H ρ S d ρ' hm Q q
  obtain ⟨x, ρ1, h1, hm⟩ := mBd_some hm
  obtain ⟨y, ρ2, h2, hm⟩ := mBd_some hm
  obtain ⟨hg, rfl⟩ := mL_some hm
  refine ha M σ H ρ S x ρ1 h1 _ fun M1 v H1 E1 S1 d1 => hb M1 σ H1 ρ1 S1 y _ h2 _ fun M2 w H2 E2 S2 d2 => ?_
  exact ⟨M2, x, y, d, S2.kind, d1.ev S1.kind E2.ev, d2, hg, fun a H3 o n s ho h => r_new S (E1.trans E2 S.kind) S2 n s ho h q⟩
theorem r_un {g : D → Option D} (ha : REv c ta ma) : REv c (tUn (rU1 K g) ta) (mUn g ma) := by
  intro M σ H ρ S d ρ' hm Q q
  obtain ⟨x, ρ1, h1, hm⟩ := mBd_some hm
  obtain ⟨hg, rfl⟩ := mL_some hm
  refine ha M σ H ρ S x _ h1 _ fun M1 v H1 E1 S1 d1 => ?_
  exact ⟨M1, x, d, S1.kind, d1, hg, fun u H3 s h => q M1 u H3 (E1.trans (.same s) S.kind) (S1.same s) h⟩
theorem bl_of {K : PySem.W.Frag} {M : Addr → Prop} {H : Hp} {v : V} {d : D} {b : Bool} (h : Dat K M H v d) (e : bl? d = some b) : v = .bl b := by
  cases h <;> simp [bl?] at e
  subst e; rfl
theorem r_tst (ha : REv c ta ma) : RTt c (tB ta) (mTst ma) := by
  intro M σ H ρ S b ρ' hm Q q
  obtain ⟨x, ρ1, h1, hm⟩ := mBd_some hm
  obtain ⟨hg, rfl⟩ := mL_some hm
  exact ha M σ H ρ S x _ h1 _ fun M1 v H1 E1 S1 d1 => ⟨b, bl_of d1 hg, q M1 H1 E1 S1⟩
theorem r_test (ha : REv c ta ma) : RTt c (tTest ta) (mTst ma) := r_tst ha
theorem r_andV (ha : REv c ta ma) (hb : REv c tb mb) : REv c (tAndV ta tb) (mAndV ma mb) := by
  intro M σ H ρ S d ρ' hm Q q
  obtain ⟨x, ρ1, h1, hm⟩ := mBd_some hm
  obtain ⟨z, ρ2, h2, h1⟩ := mBd_some h1
  obtain ⟨hg, rfl⟩ := mL_some h1
  refine ha M σ H ρ S z _ h2 _ fun M1 v H1 E1 S1 d1 => ⟨x, bl_of d1 hg, ?_⟩
  cases x with
  | true => exact hb M1 σ H1 _ S1 d ρ' hm Q fun M2 w H2 E2 S2 d2 => q M2 w H2 (E1.trans E2 S.kind) S2 d2
  | false =>
    obtain ⟨rfl, rfl⟩ := mC_some (show mC (D.bl false) ρ1 = some (d, ρ') from hm)
    exact q M1 _ H1 E1 S1 (.bl _)
theorem r_notV (ha : REv c ta ma) : REv c (tNotV ta) (mNotV ma) := by
  intro M σ H ρ S d ρ' hm Q q
  obtain ⟨x, ρ1, h1, hm⟩ := mBd_some hm
  obtain ⟨z, ρ2, h2, h1⟩ := mBd_some h1
  obtain ⟨hg, rfl⟩ := mL_some h1
  obtain ⟨rfl, rfl⟩ := mC_some hm
  exact ha M σ H ρ S z _ h2 _ fun M1 v H1 E1 S1 d1 => ⟨x, bl_of d1 hg, q M1 _ H1 E1 S1 (.bl _)⟩
theorem r_and (ha : RTt c t m) (hb : RTt c t' m') : RTt c (tAnd t t') (mAnd m m') := by
  intro M σ H ρ S b ρ' hm Q q
  obtain ⟨x, ρ1, h1, hm⟩ := mBd_some hm
  refine ha M σ H ρ S x ρ1 h1 _ fun M1 H1 E1 S1 => ?_
  cases x with
  | true => exact hb M1 σ H1 ρ1 S1 b ρ' hm Q fun M2 H2 E2 S2 => q M2 H2 (E1.trans E2 S.kind) S2
  | false =>
    obtain ⟨rfl, rfl⟩ := mC_some (show mC false ρ1 = some (b, ρ') from hm)
    exact q M1 H1 E1 S1
theorem r_or (ha : RTt c t m) (hb : RTt c t' m') : RTt c (tOr t t') (mOr m m') := by
  intro M σ H ρ S b ρ' hm Q q
  obtain ⟨x, ρ1, h1, hm⟩ := mBd_some hm
  refine ha M σ H ρ S x ρ1 h1 _ fun M1 H1 E1 S1 => ?_
  cases x with
  | false => exact hb M1 σ H1 ρ1 S1 b ρ' hm Q fun M2 H2 E2 S2 => q M2 H2 (E1.trans E2 S.kind) S2
  | true =>
    obtain ⟨rfl, rfl⟩ := mC_some (show mC true ρ1 = some (b, ρ') from hm)
    exact q M1 H1 E1 S1
theorem r_not (ha : RTt c t m) : RTt c (tNot t) (mNot m) := by
  intro M σ H ρ S b ρ' hm Q q
  obtain ⟨x, ρ1, h1, hm⟩ := mBd_some hm
  obtain ⟨rfl, rfl⟩ := mC_some hm
  exact ha M σ H ρ S x _ h1 _ fun M1 H1 E1 S1 => q M1 H1 E1 S1
theorem r_if (ht : RTt c t m) (ha : REv c ta ma) (hb : REv c tb mb) : REv c (tIf t ta tb) (mIf m ma mb) := by
  intro M σ H ρ S d ρ' hm Q q
  obtain ⟨x, ρ1, h1, hm⟩ := mBd_some hm
  refine ht M σ H ρ S x ρ1 h1 _ fun M1 H1 E1 S1 => ?_
  cases x with
  | true => exact ha M1 σ H1 ρ1 S1 d ρ' hm Q fun M2 w H2 E2 S2 d2 => q M2 w H2 (E1.trans E2 S.kind) S2 d2
  | false => exact hb M1 σ H1 ρ1 S1 d ρ' hm Q fun M2 w H2 E2 S2 d2 => q M2 w H2 (E1.trans E2 S.kind) S2 d2
theorem r_chain {g h : D → D → Option D} (ha : REv c ta ma) (hb : REv c tb mb) (hc : REv c tc mc) : REv c (tChain (rD K g) (rD K h) ta tb tc) (mChain g h ma mb mc) := by
  intro M σ H ρ S d ρ' hm Q q
  obtain ⟨x, ρ1, h1, hm1⟩ := mBd_some hm
  obtain ⟨y, ρ2, h2, hm2⟩ := mBd_some hm1
  obtain ⟨z, ρ3, h3, hm3⟩ := mBd_some hm2
  obtain ⟨hg, e3⟩ := mL_some h3
  subst e3
  obtain ⟨k, ρ4, h4, hm4⟩ := mBd_some hm3
  obtain ⟨hk, e4⟩ := mL_some h4
  subst e4
  refine ha M σ H ρ S x ρ1 h1 _ fun M1 v H1 E1 S1 d1 => hb M1 σ H1 ρ1 S1 y _ h2 _ fun M2 w H2 E2 S2 d2 => ?_
  refine ⟨M2, x, y, z, S2.kind, d1.ev S1.kind E2.ev, d2, hg, fun u H3 s hu => ⟨k, bl_of hu hk, ?_⟩⟩
  cases k with
  | true =>
    rw [if_pos rfl] at hm4
    obtain ⟨w', ρ5, h5, hm5⟩ := mBd_some hm4
    obtain ⟨hh, e5⟩ := mL_some hm5
    subst e5
    show if true = true then _ else _
    rw [if_pos rfl]
    refine hc M2 σ H3 _ (S2.same s) w' _ h5 _ fun M3 x3 H4 E3 S3 d3 => ?_
    exact ⟨M3, y, w', d, S3.kind, (d2.same s).ev (S2.same s).kind E3.ev, d3, hh, fun u H5 s5 h => q M3 u H5 (((E1.trans E2 S.kind).trans (.same s) S.kind).trans (E3.trans (.same s5) (S2.same s).kind) S.kind) (S3.same s5) h⟩
  | false =>
    rw [if_neg (by decide)] at hm4
    obtain ⟨e6, e7⟩ := mC_some hm4
    subst e6 e7
    show if false = true then _ else _
    rw [if_neg (by decide)]
    have eu := bl_of hu hk
    rw [eu] at hu
    exact q M2 _ H3 ((E1.trans E2 S.kind).trans (.same s) S.kind) (S2.same s) hu
theorem r_anil : RAv c tNil aNil := by
  intro M σ H ρ S d ρ' hm Q q
  obtain ⟨rfl, rfl⟩ := mC_some hm
  exact q M [] H .refl S .nil
theorem r_acons (ha : REv c ta ma) (hr : RAv c tl ml) : RAv c (tCons ta tl) (aCons ma ml) := by
  intro M σ H ρ S ds ρ' hm Q q
  obtain ⟨x, ρ1, h1, hm⟩ := mBd_some hm
  obtain ⟨xs, ρ2, h2, hm⟩ := mBd_some hm
  obtain ⟨rfl, rfl⟩ := mC_some hm
  exact ha M σ H ρ S x ρ1 h1 _ fun M1 v H1 E1 S1 d1 => hr M1 σ H1 ρ1 S1 xs _ h2 _ fun M2 vs H2 E2 S2 d2 => q M2 _ H2 (E1.trans E2 S.kind) S2 (.cons (d1.ev S1.kind E2.ev) d2)
theorem r_tup (h : RAv c tl ml) : REv c (tTup tl) (mTup ml) := by
  intro M σ H ρ S d ρ' hm Q q
  obtain ⟨xs, ρ1, h1, hm⟩ := mBd_some hm
  obtain ⟨hg, rfl⟩ := mL_some hm
  obtain ⟨hl, rfl⟩ := if_some hg
  refine h M σ H ρ S xs _ h1 _ fun M1 vs H1 E1 S1 d1 => ⟨by rw [d1.length]; exact hl, fun p hp => ?_⟩
  have a := dat_tup hp d1
  exact q M1 _ _ (E1.trans (.same a.1) S.kind) (S1.same a.1) a.2
theorem r_lst (h : RAv c tl ml) : RNw c (tLst tl) (mLst ml) := by
  intro M σ H ρ S d ρ' hm Q q
  obtain ⟨xs, ρ1, h1, hm⟩ := mBd_some hm
  obtain ⟨hg, rfl⟩ := mL_some hm
  obtain ⟨hl, rfl⟩ := if_some hg
  exact h M σ H ρ S xs _ h1 _ fun M1 vs H1 E1 S1 d1 => ⟨by rw [d1.length]; exact hl, fun p hp => r_new S E1 S1 hp (same_new hp) upd_same (.lst d1) q⟩
theorem r_fn {g : List D → Option D} (h : RAv c tl ml) : REv c (tCB (rC K g) tl) (mFn g ml) := by
  intro M σ H ρ S d ρ' hm Q q
  obtain ⟨xs, ρ1, h1, hm⟩ := mBd_some hm
  obtain ⟨hg, rfl⟩ := mL_some hm
  exact h M σ H ρ S xs _ h1 _ fun M1 vs H1 E1 S1 d1 => ⟨M1, xs, d, S1.kind, d1, hg, fun u H' s h => q M1 u H' (E1.trans (.same s) S.kind) (S1.same s) h⟩
theorem r_fnN {g : List D → Option D} (h : RAv c tl ml) : RNw c (tCB (rCN K g) tl) (mFn g ml) := by
  intro M σ H ρ S d ρ' hm Q q
  obtain ⟨xs, ρ1, h1, hm⟩ := mBd_some hm
  obtain ⟨hg, rfl⟩ := mL_some hm
  exact h M σ H ρ S xs _ h1 _ fun M1 vs H1 E1 S1 d1 => ⟨M1, xs, d, S1.kind, d1, hg, fun a H' o n s ho h => r_new S E1 S1 n s ho h q⟩
theorem r_no : ROv c tNoPart mNo := by
  intro M σ H ρ S d ρ' hm Q q
  obtain ⟨rfl, rfl⟩ := mC_some hm
  exact q M H .refl S
theorem int_of {K : PySem.W.Frag} {M : Addr → Prop} {H : Hp} {v : V} {d : D} {b : Int} (h : Dat K M H v d) (e : int? d = some b) : v = .int b := by
  cases h <;> simp [int?] at e
  subst e; rfl
theorem r_part (ha : REv c ta ma) : ROv c (tPart ta) (mPart ma) := by
  intro M σ H ρ S o ρ' hm Q q
  obtain ⟨x, ρ1, h1, hm1⟩ := mBd_some hm
  obtain ⟨i, ρ2, h2, hm2⟩ := mBd_some hm1
  obtain ⟨hg, e1⟩ := mL_some h2
  obtain ⟨e2, e3⟩ := mC_some hm2
  subst e1 e2 e3
  exact ha M σ H ρ S x _ h1 _ fun M1 v H1 E1 S1 d1 => ⟨i, int_of d1 hg, q M1 H1 E1 S1⟩
theorem r_sl {g : D → Option Int → Option Int → Option D} {tl th : TO} {ml mh : Mo (Option Int)} (ha : REv c ta ma) (hl : ROv c tl ml) (hh : ROv c th mh) : REv c (tSl (rS K g) ta tl th) (mSl g ma ml mh) := by
  intro M σ H ρ S d ρ' hm Q q
  obtain ⟨x, ρ1, h1, hm⟩ := mBd_some hm
  obtain ⟨i, ρ2, h2, hm⟩ := mBd_some hm
  obtain ⟨j, ρ3, h3, hm⟩ := mBd_some hm
  obtain ⟨hg, rfl⟩ := mL_some hm
  refine ha M σ H ρ S x ρ1 h1 _ fun M1 v H1 E1 S1 d1 => hl M1 σ H1 ρ1 S1 i ρ2 h2 _ fun M2 H2 E2 S2 => hh M2 σ H2 ρ2 S2 j _ h3 _ fun M3 H3 E3 S3 => ?_
  exact ⟨M3, x, d, S3.kind, (d1.ev S1.kind E2.ev).ev S2.kind E3.ev, hg, fun u H' s h => q M3 u H' (((E1.trans E2 S.kind).trans E3 S.kind).trans (.same s) S.kind) (S3.same s) h⟩
end
section
variable {X : Cx} {K : PySem.W.Frag} {c : Ctx K} {a b e : Expr} {es : List Expr} {pos : Pos} {ta tb tc : TE} {ma mb mc : Mo D} {t t' : TT} {m m' : Mo Bool} {tl : TA} {ml : Mo (List D)} {rest : List Expr}
theorem dv (i : Nat) {x : Str} {pos : Pos} (hN : X.N[i]? = some x := by rfl) (hv : Vis X.env.scope x := by first | exact Or.inl rfl | exact Or.inr (Or.inl rfl) | exact Or.inr (Or.inr rfl)) (hd : (x == ("__debug__" : Str)) = false := by decide)
    (hcd : (x == ("__classdict__" : Str)) = false := by decide) : DE X c (.Name x pos) (tVar i) (mVar i) := ⟨pv i hN hv hd hcd, r_var i⟩
theorem d_int {i : Int} {j pos} : DE X c (.Constant (.int i) j pos) (tC (.int i)) (mC (.int i)) := ⟨pe_int, r_const fun _ _ => .int i⟩
theorem d_bl {b j pos} : DE X c (.Constant (.bool b) j pos) (tC (.bl b)) (mC (.bl b)) := ⟨pe_bl, r_const fun _ _ => .bl b⟩
theorem d_non {j pos} : DE X c (.Constant .none j pos) (tC .non) (mC .non) := ⟨pe_non, r_const fun _ _ => .non⟩
theorem d_str {x j pos} : DE X c (.Constant (.str x) j pos) (tC (.str x)) (mC (.str x)) := ⟨pe_str, r_const fun _ _ => .str x⟩
theorem d_gi {x : Str} {n : Int} {pos : Pos} (T : L2.Ci X.mg x n) (hg : Gl X x := by rfl) (hd : (x == ("__debug__" : Str)) = false := by decide) : DE X c (.Name x pos) (tC (.int n)) (mC (.int n)) := ⟨pe_glob hg T.g ⟨_, rfl⟩ hd, r_const fun _ _ => .int n⟩
theorem d_gs {x z : Str} {pos : Pos} (T : L2.Cs X.mg x z) (hg : Gl X x := by rfl) (hd : (x == ("__debug__" : Str)) = false := by decide) : DE X c (.Name x pos) (tC (.str z)) (mC (.str z)) := ⟨pe_glob hg T.g ⟨_, rfl⟩ hd, r_const fun _ _ => .str z⟩
/-- a constant of the top by what is known of its value -/
theorem d_gd {x : Str} {v : V} {u : Value} {d : D} {pos : Pos} (hm : X.mg x = some u) (r : RelV v u) (h : ∀ M H, Dat K M H v d) (hg : Gl X x := by rfl) (hd : (x == ("__debug__" : Str)) = false := by decide) : DE X c (.Name x pos) (tC v) (mC d) := ⟨pe_glob hg hm r hd, r_const h⟩
theorem d_ty {x : Str} {n : String} {pos : Pos} (hm : X.mg x = none) (hv : bootBuiltins x = some (.type n)) (hg : Gl X x := by rfl) (hn : x ≠ "__name__" := by decide) (hd : (x == ("__debug__" : Str)) = false := by decide) : DE X c (.Name x pos) (tC (.ty n)) (mC (.ty n)) := ⟨pe_bltn hg hm hv rfl hn hd, r_const fun _ _ => .ty n⟩
theorem d_cls {x : Str} {C : Addr} {pos : Pos} (hm : X.mg x = some (.ref C)) (hg : Gl X x := by rfl) (hd : (x == ("__debug__" : Str)) = false := by decide) : DE X c (.Name x pos) (tC (.ref C)) (mC (.cls C)) := ⟨pe_glob hg hm rfl hd, r_const fun _ _ => .cls C⟩
theorem d_op {op : Operator} {g : D → D → Option D} (ho : OpR X (binaryOp op) (rD X.K g)) (ha : DE X c a ta ma) (hb : DE X c b tb mb) (hK : X.K = K := by rfl) : DE X c (.BinOp a op b pos) (tOp (rD K g) ta tb) (mOp g ma mb) := ⟨by rw [← hK]; exact pe_op ho ha.p hb.p, r_op ha.r hb.r⟩
theorem d_cat (ha : DE X c a ta ma) (hb : DE X c b tb mb) (hK : X.K = K := by rfl) : DN X c (.BinOp a .Add b pos) (tOp (rN K dCat) ta tb) (mOp dCat ma mb) := ⟨by rw [← hK]; exact pe_op op_CAT ha.p hb.p, r_opN ha.r hb.r⟩
theorem d_neg (ha : DE X c a ta ma) (hK : X.K = K := by rfl) : DE X c (.UnaryOp .USub a pos) (tUn (rU1 K dNeg) ta) (mUn dNeg ma) := ⟨by rw [← hK]; exact pe_un un_NEG ha.p, r_un ha.r⟩
theorem d_notV (ha : DE X c a ta ma) : DE X c (.UnaryOp .Not a pos) (tNotV ta) (mNotV ma) := ⟨pe_not ha.p, r_notV ha.r⟩
theorem d_cmp {op : CmpOp} {g : D → D → Option D} (ho : OpR X (compareOp op) (rD X.K g)) (ha : DE X c a ta ma) (hb : DE X c b tb mb) (hm : behindInMarks op b = false) (hK : X.K = K := by rfl) : DE X c (.Compare a [op] [b] pos) (tOp (rD K g) ta tb) (mOp g ma mb) := ⟨by rw [← hK]; exact pe_cmpR ho ha.p hb.p hm, r_op ha.r hb.r⟩
theorem d_tcmp {op : CmpOp} {g : D → D → Option D} (ho : OpR X (compareOp op) (rD X.K g)) (ha : DE X c a ta ma) (hb : DE X c b tb mb) (hm : behindInMarks op b = false) (hK : X.K = K := by rfl) : DT X c (.Compare a [op] [b] pos) (tTest (tOp (rD K g) ta tb)) (mTst (mOp g ma mb)) := ⟨by rw [← hK]; exact pt_cmpR ho ha.p hb.p hm, r_test (r_op ha.r hb.r)⟩
theorem d_chain {op op' : CmpOp} {g h : D → D → Option D} {d : Expr} (ho : OpR X (compareOp op) (rD X.K g)) (ho' : OpR X (compareOp op') (rD X.K h)) (ha : DE X c a ta ma) (hb : DE X c b tb mb) (hc : DE X c d tc mc) (hm : lastMarks [op, op'] [b, d] = false := by rfl) (hK : X.K = K := by rfl) :
    DE X c (.Compare a [op, op'] [b, d] pos) (tChain (rD K g) (rD K h) ta tb tc) (mChain g h ma mb mc) := ⟨by rw [← hK]; exact pe_chain ho ho' ha.p hb.p hc.p hm, r_chain ha.r hb.r hc.r⟩
theorem d_tchain {op op' : CmpOp} {g h : D → D → Option D} {d : Expr} (ho : OpR X (compareOp op) (rD X.K g)) (ho' : OpR X (compareOp op') (rD X.K h)) (ha : DE X c a ta ma) (hb : DE X c b tb mb) (hc : DE X c d tc mc) (hm : lastMarks [op, op'] [b, d] = false := by rfl) (hK : X.K = K := by rfl) :
    DT X c (.Compare a [op, op'] [b, d] pos) (tTest (tChain (rD K g) (rD K h) ta tb tc)) (mTst (mChain g h ma mb mc)) := ⟨by rw [← hK]; exact pt_chain ho ho' ha.p hb.p hc.p hm, r_test (r_chain ha.r hb.r hc.r)⟩
theorem d_tval (ha : DE X c e ta ma) (he : ∀ whole, isTrue e X.env whole = (do let v ← whole; standAt e.pos; holding [v] (truthy v)) := by intro _; rfl) : DT X c e (tB ta) (mTst ma) := ⟨pt_val ha.p he, r_tst ha.r⟩
theorem d_one {op} (h : DE X c a ta ma) : DE X c (.BoolOp op [a] pos) ta ma := ⟨pe_one h.p, h.r⟩
theorem d_andV (ha : DE X c a ta ma) (hb : DE X c (.BoolOp .And (b :: rest) pos) tb mb) : DE X c (.BoolOp .And (a :: b :: rest) pos) (tAndV ta tb) (mAndV ma mb) := ⟨pe_and ha.p hb.p, r_andV ha.r hb.r⟩
theorem d_and1 (ha : DT X c a t m) : DW X c (.BoolOp .And [a] pos) t m := ⟨pw_and1 ha.p, ha.r⟩
theorem d_or1 (ha : DT X c a t m) : DW X c (.BoolOp .Or [a] pos) t m := ⟨pw_or1 ha.p, ha.r⟩
theorem d_and (ha : DT X c a t m) (hb : DW X c (.BoolOp .And (b :: rest) pos) t' m') : DW X c (.BoolOp .And (a :: b :: rest) pos) (tAnd t t') (mAnd m m') := ⟨pw_and ha.p hb.p, r_and ha.r hb.r⟩
theorem d_or (ha : DT X c a t m) (hb : DW X c (.BoolOp .Or (b :: rest) pos) t' m') : DW X c (.BoolOp .Or (a :: b :: rest) pos) (tOr t t') (mOr m m') := ⟨pw_or ha.p hb.p, r_or ha.r hb.r⟩
theorem DW.dt (h : DW X c e t m) : DT X c e t m := ⟨h.p.pt, h.r⟩
theorem d_not (ha : DT X c a t m) : DT X c (.UnaryOp .Not a pos) (tNot t) (mNot m) := ⟨pt_not ha.p, r_not ha.r⟩
theorem d_if (ht : DT X c e t m) (ha : DE X c a ta ma) (hb : DE X c b tb mb) : DE X c (.IfExp e a b pos) (tIf t ta tb) (mIf m ma mb) := ⟨pe_ifExp ht.p ha.p hb.p, r_if ht.r ha.r hb.r⟩
theorem d_anil : DA X c [] tNil aNil := ⟨pa_nil, r_anil⟩
theorem d_acons (ha : DE X c e ta ma) (hr : DA X c es tl ml) (hs : starEach (e :: es) X.env = (false, eval e X.env) :: starEach es X.env := by rfl) : DA X c (e :: es) (tCons ta tl) (aCons ma ml) := ⟨pa_cons ha.p hr.p hs, r_acons ha.r hr.r⟩
theorem d_tup {x1} (h : DA X c es tl ml) : DE X c (.Tuple es x1 pos) (tTup tl) (mTup ml) := ⟨pe_tup h.p, r_tup h.r⟩
theorem d_lst (h : DA X c es tl ml) : DN X c (.List es pos) (tLst tl) (mLst ml) := ⟨pe_lst h.p, r_lst h.r⟩
theorem d_ix (ha : DE X c a ta ma) (hb : DE X c b tb mb) (hs : PlainIx b) (hK : X.K = K := by rfl) : DE X c (.Subscript a b pos) (tOp (rD K dIx) ta tb) (mOp dIx ma mb) := ⟨by rw [← hK]; exact pe_ix ix_ALL ha.p hb.p hs, r_op ha.r hb.r⟩
theorem d_no : DO' X c none tNoPart mNo := ⟨po_none, r_no⟩
theorem d_part (h : DE X c e ta ma) : DO' X c (some e) (tPart ta) (mPart ma) := ⟨po_some h.p, r_part h.r⟩
theorem d_sl {lo hi : Option Expr} {p2 : Pos} {tl th : TO} {mlo mhi : Mo (Option Int)} (ha : DE X c a ta ma) (hl : DO' X c lo tl mlo) (hh : DO' X c hi th mhi) (hK : X.K = K := by rfl) : DE X c (.Subscript a (.Slice lo hi none p2) pos) (tSl (rS K dSl) ta tl th) (mSl dSl ma mlo mhi) := ⟨by rw [← hK]; exact pe_slice sl_ALL ha.p hl.p hh.p, r_sl ha.r hl.r hh.r⟩
theorem d_blt {x : Str} {id : String} {g : List D → Option D} {p : Pos} (hc : CallR X (.builtin id) (rC X.K g)) (hm : X.mg x = none) (hv : bootBuiltins x = some (.builtin id)) (ha : DA X c (e :: es) tl ml) (hg : Gl X x := by rfl) (hn : x ≠ "__name__" := by decide) (hdb : (x == ("__debug__" : Str)) = false := by decide)
    (he : starEach (e :: es) X.env = (false, eval e X.env) :: starEach es X.env := by rfl) (hpl : (backTo pos (starEach es X.env)).any (·.1) = false := by rfl) (hK : X.K = K := by rfl) : DE X c (.Call (.Name x p) (e :: es) [] pos) (tCB (rC K g) tl) (mFn g ml) := ⟨by rw [← hK]; exact pe_callB hc hg hm hv ha.p hn hdb he hpl, r_fn ha.r⟩
theorem d_cty {x : Str} {T : String} {g : List D → Option D} {p : Pos} (hc : CallR X (.type T) (rC X.K g)) (hm : X.mg x = none) (hv : bootBuiltins x = some (.type T)) (ha : DA X c (e :: es) tl ml) (hg : Gl X x := by rfl) (hn : x ≠ "__name__" := by decide) (hdb : (x == ("__debug__" : Str)) = false := by decide)
    (he : starEach (e :: es) X.env = (false, eval e X.env) :: starEach es X.env := by rfl) (hpl : (backTo pos (starEach es X.env)).any (·.1) = false := by rfl) (hK : X.K = K := by rfl) : DE X c (.Call (.Name x p) (e :: es) [] pos) (tCB (rC K g) tl) (mFn g ml) := ⟨by rw [← hK]; exact pe_callTy hc hg hm hv ha.p hn hdb he hpl, r_fn ha.r⟩
theorem d_ctyN {x : Str} {T : String} {g : List D → Option D} {p : Pos} (hc : CallR X (.type T) (rCN X.K g)) (hm : X.mg x = none) (hv : bootBuiltins x = some (.type T)) (ha : DA X c (e :: es) tl ml) (hg : Gl X x := by rfl) (hn : x ≠ "__name__" := by decide) (hdb : (x == ("__debug__" : Str)) = false := by decide)
    (he : starEach (e :: es) X.env = (false, eval e X.env) :: starEach es X.env := by rfl) (hpl : (backTo pos (starEach es X.env)).any (·.1) = false := by rfl) (hK : X.K = K := by rfl) : DN X c (.Call (.Name x p) (e :: es) [] pos) (tCB (rCN K g) tl) (mFn g ml) := ⟨by rw [← hK]; exact pe_callTy hc hg hm hv ha.p hn hdb he hpl, r_fnN ha.r⟩
theorem d_bfun {x : Str} {id : String} {g : List D → Option D} {p : Pos} (hc : CallR X (.builtin id) (rC X.K g)) (hm : X.mg x = some (.builtin id)) (ha : DA X c (e :: es) tl ml) (hg : Gl X x := by rfl) (hdb : (x == ("__debug__" : Str)) = false := by decide)
    (he : starEach (e :: es) X.env = (false, eval e X.env) :: starEach es X.env := by rfl) (hpl : (backTo pos (starEach es X.env)).any (·.1) = false := by rfl) (hK : X.K = K := by rfl) : DE X c (.Call (.Name x p) (e :: es) [] pos) (tCB (rC K g) tl) (mFn g ml) := ⟨by rw [← hK]; exact pe_callBfun hc hg hm ha.p hdb he hpl, r_fn ha.r⟩
end
end DL
set_option autoImplicit false
namespace DL
open PySem PySem.Spec PyProof.Rows L2
def sNx : Mo Fl := mC .nx
def sSeq (a b : Mo Fl) : Mo Fl := fun ρ => match a ρ with
  | some (.nx, ρ') => b ρ'
  | r => r
def sSet (i : Nat) (a : Mo D) : Mo Fl := mBd a fun d ρ => some (.nx, ρ.set i (.dat d))
def sSetN (i : Nat) (a : Mo D) : Mo Fl := mBd a fun d ρ => some (.nx, ρ.set i (.own false d))
def sRet (a : Mo D) : Mo Fl := mBd a fun d => mC (.rt d)
def sRetN : Mo Fl := mC (.rt .non)
def sRetNew (a : Mo D) : Mo Fl := mBd a fun d => mC (.rn d)
def sIf (t : Mo Bool) (a b : Mo Fl) : Mo Fl := mBd t fun x => if x = true then a else b
def sDrop (a : Mo D) : Mo Fl := mBd a fun _ => sNx
def sNo : Mo Fl := fun _ => none
def sBk : Mo Fl := mC .bk
def sCt : Mo Fl := mC .ct
def sAsg (a : Mo D) (g : D → Mo Unit) : Mo Fl := mBd a fun d => mBd (g d) fun _ => sNx
def gNm (i : Nat) (d : D) : Mo Unit := fun ρ => some ((), ρ.set i (.dat d))
def gsNil (ds : List D) : Mo Unit := match ds with
  | [] => mC ()
  | _ => fun _ => none
def gsCons (g : D → Mo Unit) (r : List D → Mo Unit) (ds : List D) : Mo Unit := match ds with
  | d :: ds => mBd (g d) fun _ => r ds
  | [] => fun _ => none
def gTp (n : Nat) (r : List D → Mo Unit) (d : D) : Mo Unit := match d with
  | .tup ds => if ds.length = n then r ds else fun _ => none
  | _ => fun _ => none
/-- o[k] = v, o an owned list in slot i -/
def putL (i : Nat) (k : D) (d : D) : Mo Unit := fun ρ => match ρ[i]? with
  | some (.own p (.lst ds)) => match int? k with
    | some n => match ixN ds.length n with
      | some j => some ((), ρ.set i (.own p (.lst (ds.set j d))))
      | none => none
    | none => none
  | _ => none
def owns (i : Nat) (ρ : Cs) : Bool := match ρ[i]? with
  | some (.own _ _) => true
  | _ => false
def gPut (i : Nat) (k : Mo D) (d : D) : Mo Unit := fun ρ => if owns i ρ = true then mBd k (fun n => putL i n d) ρ else none
/-- f of what slot i owns (a list's append ..) -/
def sApp (i : Nat) (a : Mo D) : Mo Fl := mBd a fun d ρ => match ρ[i]? with
  | some (.own p (.lst ds)) => if ds.length < sizeLine then some (.nx, ρ.set i (.own p (.lst (ds ++ [d])))) else none
  | _ => none
def sExt (i : Nat) (a : Mo D) : Mo Fl := mBd a fun d ρ => match d with
  | .lst es => match ρ[i]? with
    | some (.own p (.lst ds)) => if ds.length + es.length ≤ sizeLine then some (.nx, ρ.set i (.own p (.lst (ds ++ es)))) else none
    | _ => none
  | _ => none
def goFor (g : D → Mo Unit) (b : Mo Fl) : List D → Mo Fl
  | [], ρ => some (.nx, ρ)
  | d :: ds, ρ => match g d ρ with
    | none => none
    | some (_, ρ1) => match b ρ1 with
      | none => none
      | some (.nx, ρ2) => goFor g b ds ρ2
      | some (.ct, ρ2) => goFor g b ds ρ2
      | some (.bk, ρ2) => some (.nx, ρ2)
      | some (.rt d, ρ2) => some (.rt d, ρ2)
      | some (.rn d, ρ2) => some (.rn d, ρ2)
def sFor (it : Mo (List D)) (g : D → Mo Unit) (b : Mo Fl) : Mo Fl := mBd it fun ds => goFor g b ds
def goWh (t : Mo Bool) (b : Mo Fl) : Nat → Mo Fl
  | 0, _ => none
  | n + 1, ρ => match t ρ with
    | none => none
    | some (false, ρ1) => some (.nx, ρ1)
    | some (true, ρ1) => match b ρ1 with
      | none => none
      | some (.nx, ρ2) => goWh t b n ρ2
      | some (.ct, ρ2) => goWh t b n ρ2
      | some (.bk, ρ2) => some (.nx, ρ2)
      | some (.rt d, ρ2) => some (.rt d, ρ2)
      | some (.rn d, ρ2) => some (.rn d, ρ2)
/-- at most n turns, n by the slots -/
def sWh (n : Cs → Nat) (t : Mo Bool) (b : Mo Fl) : Mo Fl := fun ρ => goWh t b (n ρ) ρ
section
variable {K : PySem.W.Frag} {c : Ctx K} {t u : TS} {m k : Mo Fl} {te : TE} {me : Mo D} {tt : TT} {mt : Mo Bool}
theorem r_nx : RSt c tNext sNx := by
  intro M σ H ρ S f ρ' hm D q
  obtain ⟨e1, e2⟩ := mC_some hm
  subst e1 e2
  exact q M σ H .refl S
theorem r_seq (h1 : RSt c t m) (h2 : RSt c u k) : RSt c (tSeq t u) (sSeq m k) := by
  intro M σ H ρ S f ρ' hm D q
  unfold sSeq at hm
  cases e : m ρ with
  | none => rw [e] at hm; cases hm
  | some r =>
    obtain ⟨f1, ρ1⟩ := r
    rw [e] at hm
    cases f1 with
    | nx => exact h1 M σ H ρ S .nx ρ1 e { D with nx := u D } fun M' σ' H' E S' => h2 M' σ' H' ρ1 S' f ρ' hm D (q.ev E)
    | rt d => cases hm; exact h1 M σ H ρ S _ _ e { D with nx := u D } q
    | rn d => cases hm; exact h1 M σ H ρ S _ _ e { D with nx := u D } q
    | bk => cases hm; exact h1 M σ H ρ S _ _ e { D with nx := u D } q
    | ct => cases hm; exact h1 M σ H ρ S _ _ e { D with nx := u D } q
theorem r_set (h : REv c te me) (i : Nat) : RSt c (tAsg te (gName i)) (sSet i me) := by
  intro M σ H ρ S f ρ' hm D q
  obtain ⟨d, ρ1, h1, h2⟩ := mBd_some hm
  cases h2
  exact h M σ H ρ S d ρ1 h1 _ fun M' v H' E S' hd => q M' _ H' E.ev (S'.setDat i hd)
theorem r_setN (h : RNw c te me) (i : Nat) : RSt c (tAsg te (gName i)) (sSetN i me) := by
  intro M σ H ρ S f ρ' hm D q
  obtain ⟨d, ρ1, h1, h2⟩ := mBd_some hm
  cases h2
  exact h M σ H ρ S d ρ1 h1 _ fun M' a H' _ E S' n => q M' _ H' E.ev (S'.takeN n i)
theorem r_ret (h : REv c te me) : RSt c (tRet te) (sRet me) := by
  intro M σ H ρ S f ρ' hm D q
  obtain ⟨d, ρ1, h1, h2⟩ := mBd_some hm
  obtain ⟨e1, e2⟩ := mC_some h2
  subst e1 e2
  exact h M σ H ρ S d _ h1 _ fun M' v H' E S' hd => q M' σ v H' E.ev S' hd
theorem r_retNew (h : RNw c te me) : RSt c (tRet te) (sRetNew me) := by
  intro M σ H ρ S f ρ' hm D q
  obtain ⟨d, ρ1, h1, h2⟩ := mBd_some hm
  obtain ⟨e1, e2⟩ := mC_some h2
  subst e1 e2
  exact h M σ H ρ S d _ h1 _ fun M' a H' _ E S' n => q M' σ a H' E.ev S' n
theorem r_ifS (ht : RTt c tt mt) (ha : RSt c t m) (hb : RSt c u k) : RSt c (tIfS tt t u) (sIf mt m k) := by
  intro M σ H ρ S f ρ' hm D q
  obtain ⟨x, ρ1, h1, h2⟩ := mBd_some hm
  refine ht M σ H ρ S x ρ1 h1 _ fun M1 H1 E1 S1 => ?_
  cases x with
  | true => exact ha M1 σ H1 ρ1 S1 f ρ' h2 D (q.ev E1.ev)
  | false => exact hb M1 σ H1 ρ1 S1 f ρ' h2 D (q.ev E1.ev)
theorem r_drop (h : REv c te me) : RSt c (tDrop te) (sDrop me) := by
  intro M σ H ρ S f ρ' hm D q
  obtain ⟨d, ρ1, h1, h2⟩ := mBd_some hm
  obtain ⟨e1, e2⟩ := mC_some (show mC Fl.nx ρ1 = some (f, ρ') from h2)
  subst e1 e2
  exact h M σ H ρ S d _ h1 _ fun M' v H' E S' _ => q M' σ H' E.ev S'
theorem r_never : RSt c tNever sNo := fun M σ H ρ S f ρ' hm D q => by cases hm
theorem r_asg {g : TG} {mg : D → Mo Unit} (h : REv c te me) (hg : RTg c g mg) : RSt c (tAsg te g) (sAsg me mg) := by
  intro M σ H ρ S f ρ' hm D q
  obtain ⟨d, ρ1, h1, h2⟩ := mBd_some hm
  obtain ⟨x, ρ2, h3, h4⟩ := mBd_some h2
  obtain ⟨e1, e2⟩ := mC_some (show mC Fl.nx ρ2 = some (f, ρ') from h4)
  subst e1 e2
  exact h M σ H ρ S d ρ1 h1 _ fun M' v H' E S' hd => hg M' σ H' ρ1 S' v d hd x _ h3 _ fun M2 σ2 H2 E2 S2 => q M2 σ2 H2 (E.ev.trans E2.ev) S2
theorem held_setDat {σ : L2.St} {ρ : Cs} {i : Nat} {x : Option V} {d : D} (b : Addr) (l : σ.length = ρ.length) (h : Held (σ.set i x) (ρ.set i (.dat d)) b) : Held σ ρ b := by
  obtain ⟨j, p, e, h1, h2⟩ := h
  by_cases z : i = j
  · subst z
    have l : i < ρ.length := by
      have := (List.getElem?_eq_some_iff.mp h2).1
      simpa using this
    rw [List.getElem?_set_self l] at h2
    cases h2
  · rw [List.getElem?_set_ne z] at h1 h2
    exact ⟨j, p, e, h1, h2⟩
theorem r_gname (i : Nat) : RTg c (gName i) (gNm i) := by
  intro M σ H ρ S v d hd u ρ' hm Q q
  cases hm
  exact q M _ H ⟨.refl, fun _ _ _ h => h, fun b _ _ => held_setDat b S.len.symm, fun _ h _ => h, fun _ h => h⟩ (S.setDat i hd)
theorem r_gnil : RTgs c gNil gsNil := by
  intro M σ H ρ S vs ds hd u ρ' hm Q q
  cases hd with
  | nil => cases hm; exact ⟨rfl, q M σ H .refl S⟩
  | cons _ _ => cases hm
theorem r_gcons {g : TG} {gs : TGs} {mg : D → Mo Unit} {ms : List D → Mo Unit} (h : RTg c g mg) (hs : RTgs c gs ms) : RTgs c (gCons g gs) (gsCons mg ms) := by
  intro M σ H ρ S vs ds hd u ρ' hm Q q
  cases hd with
  | nil => cases hm
  | cons h1 h2 =>
    obtain ⟨x, ρ1, e1, e2⟩ := mBd_some (show mBd (mg _) (fun _ => ms _) ρ = some (u, ρ') from hm)
    refine ⟨_, _, rfl, h M σ H ρ S _ _ h1 x ρ1 e1 _ fun M1 σ1 H1 E1 S1 => ?_⟩
    exact hs M1 σ1 H1 ρ1 S1 _ _ (h2.ev S.kind E1.ev) u ρ' e2 Q fun M2 σ2 H2 E2 S2 => q M2 σ2 H2 (E1.trans E2 S.kind) S2
theorem r_gtup {n : Nat} {gs : TGs} {ms : List D → Mo Unit} (hs : RTgs c gs ms) : RTg c (gTup K n gs) (gTp n ms) := by
  intro M σ H ρ S v d hd u ρ' hm Q q
  cases hd with
  | tup h a =>
    unfold gTp at hm
    simp only at hm
    split at hm
    · rename_i hl
      exact ⟨_, _, rfl, h, by rw [a.length]; exact hl, hs M σ H ρ S _ _ a u ρ' hm Q q⟩
    · cases hm
  | _ => cases hm
theorem owns_some {i : Nat} {ρ : Cs} (h : owns i ρ = true) : ∃ p d, ρ[i]? = some (.own p d) := by
  unfold owns at h
  split at h
  · exact ⟨_, _, by assumption⟩
  · cases h
/-- o[k] = v -/
theorem r_gput {i : Nat} {ti : TE} {mi : Mo D} (hi : REv c ti mi) : RTg c (gSub (tVar i) ti rSetL) (gPut i mi) := by
  intro M σ H ρ S v d hd u ρ' hm Q q
  unfold gPut at hm
  split at hm
  · rename_i hw
    obtain ⟨p0, d0, e0⟩ := owns_some hw
    obtain ⟨a, ha, _⟩ := S.own e0
    obtain ⟨n, ρ1, h1, h2⟩ := mBd_some hm
    unfold putL at h2
    split at h2
    · rename_i p ds e
      split at h2
      · rename_i n' hn
        split at h2
        · rename_i j hj
          cases h2
          refine ⟨_, ha, hi M σ H ρ S _ _ h1 _ fun M1 w H1 E1 S1 hw => ?_⟩
          obtain ⟨a', ha', hM, _, o, ho, hc⟩ := S1.own e
          rw [ha] at ha'
          cases ha'
          cases hc with
          | lst hx =>
            rename_i xs
            refine ⟨a, xs, n', j, rfl, int_of hw hn, ho, by rw [hx.length]; exact hj, ?_⟩
            have hv := (hd.ev S.kind E1.ev)
            have k2 : Kind M1 (upd H1 a (.lst (xs.set j v))) := fun b hb => by
              by_cases z : b = a
              · subst z; exact ⟨_, upd_same, trivial⟩
              · obtain ⟨o, q, m⟩ := S1.kind b hb
                exact ⟨o, by rw [upd_ne z]; exact q, m⟩
            have ev2 : Ev M1 H1 M1 (upd H1 a (.lst (xs.set j v))) := ⟨fun b h => .inl h, fun b o nb h => by rw [upd_ne (fun z => nb (by rw [z]; exact hM))]; exact h⟩
            have E2 := S1.mutE (d' := .lst (ds.set j d)) (H' := upd H1 a (.lst (xs.set j v))) ha e (fun b o nb h => by rw [upd_ne nb]; exact h) ⟨_, upd_same, .lst ((hx.set hv j).ev S1.kind ev2)⟩
            exact q M1 σ _ (E1.trans E2.1 S.kind) E2.2
        · cases h2
      · cases h2
    · cases h2
  · cases hm
end
end DL
namespace L2
open PySem PySem.Spec PyProof.Rows
def Pu (m : Nat) (H : Hp) (p : Addr) : Prop := ∃ d s c : Int, H p = some (.lst [.int d, .int s, .int c]) ∧ Builtin.Int.intBits d ≤ 1048576 ∧ 0 ≤ s ∧ s < 2147483648 ∧ 0 ≤ c ∧ c + (m : Int) ≤ 1000000000
theorem Pu.mono {m n : Nat} {H : Hp} {p : Addr} (h : Pu m H p) (k : n ≤ m) : Pu n H p := by
  obtain ⟨d, s, c, e, a, b, f, g, i⟩ := h
  exact ⟨d, s, c, e, a, b, f, g, by omega⟩
theorem Pu.same {m : Nat} {H H' : Hp} {p : Addr} (h : Pu m H p) (e : Same H H') : Pu m H' p := by
  obtain ⟨d, s, c, q, r⟩ := h
  exact ⟨d, s, c, e _ _ q, r⟩
theorem Pu.ne {m : Nat} {H : Hp} {p q : Addr} (h : Pu m H p) (e : H q = none) : q ≠ p := by
  obtain ⟨d, s, c, z, _⟩ := h
  intro x; subst x; rw [z] at e; cases e
theorem Pu.free {m : Nat} {H H' : Hp} {p q : Addr} (h : Pu m H' p) (e : Sm p H H') (z : H' q = none) : H q = none := by
  obtain ⟨d, s, c, k, _⟩ := h
  exact e.free k z
theorem bits_mono {i j : Int} (h : i.natAbs ≤ j.natAbs) : Builtin.Int.intBits i ≤ Builtin.Int.intBits j := by
  unfold Builtin.Int.intBits
  by_cases hi : i = 0
  · simp [hi]
  · have hj : j ≠ 0 := by omega
    simp only [beq_iff_eq, hi, hj, if_false]
    have a : i.natAbs ≠ 0 := by omega
    have b : j.natAbs ≠ 0 := by omega
    have : 2 ^ i.natAbs.log2 ≤ j.natAbs := Nat.le_trans (Nat.log2_self_le a) h
    have := (Nat.le_log2 b).mpr this
    omega
theorem bits_div {d n : Int} (hd : 0 ≤ d) (hn : 0 < n) : Builtin.Int.intBits (d / n) ≤ Builtin.Int.intBits d := by
  refine bits_mono ?_
  have h1 : 0 ≤ d / n := Int.ediv_nonneg hd (by omega)
  have h2 : d / n ≤ d := Int.ediv_le_self n hd
  omega
end L2
namespace PySem
open Sem (wp)
open AutoSeq1 (wpAny_loadPart')
theorem my_enum_meets (l : Addr) (items : Array Value) (n : Nat) (dct : Option Addr) (sl : Array (Option Value)) :
    Meets (Builtin.«enumerate.__new__» ⟨[.type "enumerate", .ref l], []⟩) (fun _ R s => s.heap.get? l = some { cls := .type "tuple", dict := dct, data := .seq items n, slots := sl } ∧
      R (.ok (.ret (.ref (s.heap.push { cls := .type "tuple_iterator", data := .fields #[.ref l, .int 0 0] }).objs.size)))
        { s with heap := (s.heap.push { cls := .type "tuple_iterator", data := .fields #[.ref l, .int 0 0] }).push { cls := .type "enumerate", data := .fields #[.none, .bool false, .ref s.heap.objs.size, rawInt 0, .none, .none] } }) := by
  refine .of_wp fun prog w A R s h => ?_
  obtain ⟨hp, g, d, tk, os⟩ := s
  obtain ⟨hl, h⟩ := h
  have hsub := sub_enumerate
  have hL : Heap.IsTuple (Shared.heap ⟨hp, g, d, tk, os⟩) l items := ⟨_, hl, rfl, n, rfl⟩
  wp_walk using wpAny_loadPart' hl
  refine wpAny_stack_any fun st => wpAny_pure ?_
  split
  · rename_i c _ _ _ _ _
    cases (c == Value.type "enumerate") <;> (wp_walk using wpAny_loadPart' hl, wpAny_pyIter_tuple hL; exact ⟨_, rfl, h⟩)
  · wp_walk using wpAny_loadPart' hl, wpAny_pyIter_tuple hL
    exact ⟨_, rfl, h⟩
theorem my_enum_tuple {prog : Program} {w : World} {A : Around} {E : Value → Shared → Prop} {s : Shared} {l : Addr} {items : Array Value} {Q : Value → Shared → Prop} (hL : s.heap.IsTuple l items)
    (h : ∀ h', IsEnum h' (s.heap.objs.size + 1) s.heap.objs.size 0 .none → h'.IsTupleIter s.heap.objs.size l 0 → h'.objs.size = s.heap.objs.size + 2 →
      (∀ b o, s.heap.get? b = some o → h'.get? b = some o) → Q (.ref (s.heap.objs.size + 1)) { s with heap := h' }) :
    wpAny (model prog w) A (call (.type "enumerate") [.ref l]) Q E s := by
  obtain ⟨⟨c, dct, dt, sl⟩, hl, hc, n, hd⟩ := hL
  obtain rfl : c = .type "tuple" := hc
  obtain rfl : dt = .seq items n := hd
  have z : (s.heap.push { cls := .type "tuple_iterator", data := .fields #[.ref l, .int 0 0] }).objs.size = s.heap.objs.size + 1 := Heap.size_push ..
  refine callType_new F.called_enumerate (by decide) (F.typeCall_enumerate_1 _) (F.newCall_enumerate_1 _) (fun obj => F.args_object_init_2 obj _) F.entry_enumerate_new (my_enum_meets l items n dct sl) ⟨hl, ?_⟩
  show _ ∧ _
  rw [z]
  have he : IsEnum ((s.heap.push { cls := .type "tuple_iterator", data := .fields #[.ref l, .int 0 0] }).push { cls := .type "enumerate", data := .fields #[.none, .bool false, .ref s.heap.objs.size, rawInt 0, .none, .none] }) (s.heap.objs.size + 1) s.heap.objs.size 0 .none := by
    have q := Heap.get?_push_size (s.heap.push { cls := .type "tuple_iterator", data := .fields #[.ref l, .int 0 0] }) (o := { cls := .type "enumerate", data := .fields #[.none, .bool false, .ref s.heap.objs.size, rawInt 0, .none, .none] }) rfl
    rw [z] at q
    exact q
  exact ⟨⟨_, he, rfl⟩, h _ he ⟨_, Heap.get?_push_of_some _ (Heap.get?_push_size _ rfl), rfl, rfl⟩ (by rw [Heap.size_push, z]) fun b o x => Heap.get?_push_of_some _ (Heap.get?_push_of_some _ x)⟩
end PySem
namespace L2
open PySem PySem.Spec PyProof.Rows
/-- the tuple at a, each item in a new pair with its place -/
def IteT (K : PySem.W.Frag) (a : Addr) : It :=
  ⟨fun i H => ∃ (xs : List V) (x : V), SqT K H a xs ∧ xs[i]? = some x, fun i H v H' => ∃ T x, v = .ref T ∧ H T = none ∧ H' = upd H T (.tup [.int (i : Nat), x]) ∧ ∀ xs, SqT K H a xs → xs[i]? = some x, fun i H => ∃ xs : List V, SqT K H a xs ∧ xs.length ≤ i⟩
theorem my_turn_enum {P : Program} {w : World} {K : PySem.W.Frag} {elts : List Expr} {kk : Nat} {tpos : Pos} (a e it : Addr) (hne : e ≠ it) :
    Turn P w K (.Tuple elts kk tpos) (IteT K a) [e, it] e (fun i h => (∃ old, IsEnum h e it ((i : Nat) : Int) old) ∧ h.IsTupleIter it a i) := by
  have two : ∀ {b : Addr}, b ∈ [e, it] → b = e ∨ b = it := fun hb => by simpa using hb
  constructor
  case mem => simp
  case obj =>
    rintro i h ⟨⟨old, he⟩, o, ho, hc, hd⟩ b hb
    rcases two hb with z | z
    · rw [z]; exact ⟨_, he, fun v q => nomatch q⟩
    · rw [z]; exact ⟨o, ho, fun v q => by rw [hd] at q; cases q⟩
  case keep => exact fun i h h' ⟨⟨old, he⟩, hi⟩ k => ⟨⟨old, k e (by simp) _ he⟩, hi.at fun o q => k it (by simp) o q⟩
  case self => exact fun A i s Q E ⟨⟨_, he⟩, _⟩ h => wpAny_pyIter_enum he h
  case item =>
    intro X hP hw hK hc i pins s σ H E I hf st hg
    subst hP hw hK
    obtain ⟨⟨old, he⟩, hit⟩ := st
    obtain ⟨xs, x, hq, hx⟩ := hg
    obtain ⟨its, rv, p, hz⟩ := I.tuple hq
    obtain ⟨u, hu, ru⟩ := rv.get hx
    have hel : e < s.heap.objs.size := Heap.lt_size he
    have hil : it < s.heap.objs.size := by obtain ⟨_, q, _⟩ := hit; exact Heap.lt_size q
    have tn : a ≠ it := by
      rintro rfl
      obtain ⟨o1, q1, c1, _⟩ := hit
      obtain ⟨o2, q2, c2, _⟩ := p
      rw [q1] at q2; cases q2; rw [c1] at c2; simp at c2
    have te : a ≠ e := by
      rintro rfl
      obtain ⟨o2, q2, c2, _⟩ := p
      rw [he] at q2; cases q2; simp at c2
    have nef : e ∉ [it, a] := fun z => by
      rcases (show e = it ∨ e = a by simpa using z) with z | z
      · exact hne z
      · exact te z.symm
    have hlt : i < its.toArray.size := by
      have := (List.getElem?_eq_some_iff.mp hu).1
      simpa using this
    refine wpAny_pyNext_enum_itemD (Draws.tuple (prog := X.prog) (w := X.w) (A := X.A.in1) (I.ok.hd hc) it a tn its.toArray) he ⟨hit, p⟩ hlt hne nef fun v h' tk hv ho hst hT hsz hk => ?_
    obtain rfl : v = u := by
      have hu' : its.toArray[i]? = some u := by simpa using hu
      rw [hu'] at hv
      exact (Option.some.inj hv).symm
    refine ⟨_, rfl, wpAny_letOwnedTupleGo_enum (s := { s with heap := h', toks := tk + 1 }) ho fun h'' he' sb => ?_⟩
    have hT2 : h''.get? s.heap.objs.size = some { cls := .type "tuple", data := .seq #[.int i tk, v] } := (sb.2 _ (Nat.ne_of_gt hel)).trans hT
    have new : ObjOk X.prog X.w (upd H s.heap.objs.size (.tup [.int (i : Nat), x])) h'' s.heap.objs.size (.tup [.int (i : Nat), x]) :=
      ⟨by show 2 ≤ sizeLine; decide, [.int i tk, v], .cons ⟨_, rfl⟩ (.cons ru .nil), ⟨_, hT2, rfl, _, rfl⟩⟩
    have I1 : Inv X pins σ (upd H s.heap.objs.size (.tup [.int (i : Nat), x])) { s with heap := h'', toks := tk + 1 } :=
      I.turnedNew (ch := [e, it]) (fun b ob hb q => (sb.2 b (fun z => hb (by simp [z]))).trans (hk b ob (fun z => hb (by simp [z])) (fun z => hb (by simp [z])) q)) hf (Nat.le_refl _) new
    refine ⟨.ref s.heap.objs.size, _, I1, rfl, ⟨_, x, rfl, I.hok.fresh (Nat.le_refl _), rfl, fun ys hy => by rw [I.tuple_inj hy hq]; exact hx⟩, ⟨⟨v, ?_⟩, hst.1.at fun o q => (sb.2 it (Ne.symm hne)).trans q⟩, fun b hb => ?_⟩
    · have e1 : ((i + 1 : Nat) : Int) = (i : Int) + 1 := by omega
      rw [e1]; exact he'
    · have hb' : b < s.heap.objs.size := by
        rcases two hb with z | z
        · rw [z]; exact hel
        · rw [z]; exact hil
      rw [upd_ne (Nat.ne_of_lt hb')]
      exact (hf b hb).1
  case done =>
    intro X hP hw hK hc i pins s σ H E I hf st hg
    subst hP hw hK
    obtain ⟨⟨old, he⟩, hit⟩ := st
    obtain ⟨xs, hq, hx⟩ := hg
    obtain ⟨its, rv, p, hz⟩ := I.tuple hq
    obtain ⟨f0, f1, f2, f3, f4, f5⟩ := hf it (by simp)
    have hl := rv.length
    have D : Draws X.prog X.w X.A.in1 it [it, a] 0 (fun _ _ => False) (fun _ h => h.IsTupleIter it a i ∧ h.IsTuple a its.toArray) :=
      { live := fun _ _ st => let ⟨o, ho, _⟩ := st.1; ⟨o, ho⟩
        frame := fun _ _ _ st hk => ⟨st.1.at fun o e => hk it (by simp) o e, st.2.at fun o e => hk a (by simp) o e⟩
        item := fun j s Q E hj => absurd hj (Nat.not_lt_zero _)
        done := fun s Q E st hE => wpAny_nextOf_tuple_end (I.ok.hd hc) st.1 st.2 (by simp; omega) hE }
    exact wpAny_pyNext_enum_endD D he ⟨hit, p⟩ fun h' eb => ⟨rfl, I.turned (t' := s.toks) (fun b o hb q => eb b o hb q) f0 f1 f3 f4 f5⟩
def iEnumT (K : PySem.W.Frag) (ta : TA) : TI := fun σ H R => ta σ H fun vs H1 => ∃ a xs, vs = [.ref a] ∧ SqT K H1 a xs ∧ R (IteT K a) H1
theorem pi_enumT {X : Cx} {e : Expr} {ta : TA} {p pos tpos : Pos} {elts : List Expr} {kk : Nat} (hg : Gl X "enumerate") (hm : X.mg "enumerate" = none) (ha : PA X [e] ta) (hs : starEach [e] X.env = [(false, eval e X.env)] := by rfl) :
    PI X (.Tuple elts kk tpos) (.Call (.Name "enumerate" p) [e] [] pos) (iEnumT X.K ta) := by
  constructor
  intro pins s σ H R I h
  refine Call_ (ld_blt I hg hm boot_enumerate (PyProof.Rows.callWith_type1 (thn (ha.run pos pins s σ H _ I h) fun us s1 ⟨vs, H1, I1, r1, a, xs, ex, hq, q⟩ => ?_) hs rfl))
  subst ex
  obtain ⟨u, rfl, r⟩ := vals1 r1
  cases r
  obtain ⟨its, rv, p', hz⟩ := I1.tuple hq
  refine my_enum_tuple p' fun h' he hit hsz hk => wpAny_pyIter_enum he ?_
  have I2 : Inv X pins σ H1 { s1 with heap := h' } := I1.kept (t' := s1.toks) hk
  refine ⟨s1.heap.objs.size + 1, [s1.heap.objs.size + 1, s1.heap.objs.size], _, _, H1, rfl, I2, my_turn_enum a _ _ (Nat.succ_ne_self _), ⟨⟨.none, he⟩, hit⟩, fun b hb => ?_, q⟩
  have hle : s1.heap.objs.size ≤ b := by
    rcases (show b = s1.heap.objs.size + 1 ∨ b = s1.heap.objs.size by simpa using hb) with z | z
    · rw [z]; exact Nat.le_add_right _ _
    · rw [z]; exact Nat.le_refl _
  exact I1.fpOk hle (I1.hok.fresh hle)
theorem walk_enumT {K : PySem.W.Frag} {a : Addr} {xs : List V} : Walk (IteT K a) xs.length (fun H => SqT K H a xs) (YPair (fun i => some (.int (i : Nat))) (fun i => xs[i]?)) :=
  ⟨fun i _ hi q => ⟨xs, xs[i], q, by simp [hi]⟩, fun _ q => ⟨xs, q, Nat.le_refl _⟩, fun i H v H' _ q ⟨T, x, h1, h2, h3, h4⟩ => ⟨T, .int (i : Nat), x, h1, h2, h3, rfl, h4 xs q⟩⟩
end L2
set_option autoImplicit false
namespace DL
open PySem PySem.Spec PyProof.Rows L2
structure Wk {K : PySem.W.Frag} (c : Ctx K) (M : Addr → Prop) (H : Hp) (J : It) (ds : List D) (G : Hp → Prop) (Y : Nat → Hp → V → Hp → Prop) : Prop where
  w : Walk J ds.length G Y
  g : ∀ M1 H1, Ev M H M1 H1 → G H1
  y : ∀ i M1 H1 x H2, Ev M H M1 H1 → Kind M1 H1 → i < ds.length → Y i H1 x H2 → Same H1 H2 ∧ ∃ d, ds[i]? = some d ∧ Dat K M1 H2 x d
def RIt {K : PySem.W.Frag} (c : Ctx K) (wi : TI) (m : Mo (List D)) : Prop := ∀ M σ H ρ, Sta c M σ H ρ → ∀ ds ρ', m ρ = some (ds, ρ') → ∀ R : It → Hp → Prop,
  (∀ M' H' J G Y, Es σ M H ρ σ M' H' ρ' → Sta c M' σ H' ρ' → Wk c M' H' J ds G Y → R J H') → wi σ H R
structure DI (X : Cx) {K : PySem.W.Frag} (c : Ctx K) (tg e : Expr) (wi : TI) (m : Mo (List D)) : Prop where
  p : PI X tg e wi
  r : RIt c wi m
def seqL : D → Option (List D)
  | .lst ds => some ds
  | _ => none
def seqT : D → Option (List D)
  | .tup ds => some ds
  | _ => none
def iSeq (f : D → Option (List D)) (a : Mo D) : Mo (List D) := mBd a fun d => mL (f d)
def rngD (lo : Int) (n : Nat) : List D := (List.range n).map fun (k : Nat) => D.int (lo + k)
def rng1? : List D → Option (List D)
  | [.int j] => if -(2 ^ 62) ≤ j ∧ j < 2 ^ 62 then some (rngD 0 j.toNat) else none
  | _ => none
def iFn (f : List D → Option (List D)) (a : Mo (List D)) : Mo (List D) := mBd a fun ds => mL (f ds)
def enumD (k : Nat) : List D → List D
  | [] => []
  | d :: r => .tup [.int (k : Nat), d] :: enumD (k + 1) r
def enumT? : List D → Option (List D)
  | [.tup ds] => some (enumD 0 ds)
  | _ => none
theorem rngD_length (lo : Int) (n : Nat) : (rngD lo n).length = n := by simp [rngD]
theorem rngD_get {lo : Int} {n i : Nat} (h : i < n) : (rngD lo n)[i]? = some (.int (lo + i)) := by
  unfold rngD
  rw [List.getElem?_map, List.getElem?_range h]
  rfl
theorem enumD_length : ∀ (k : Nat) (ds : List D), (enumD k ds).length = ds.length
  | _, [] => rfl
  | k, d :: r => by rw [enumD, List.length_cons, List.length_cons, enumD_length]
theorem enumD_get : ∀ {k i : Nat} {ds : List D} {d : D}, ds[i]? = some d → (enumD k ds)[i]? = some (.tup [.int ((k + i : Nat) : Int), d])
  | k, 0, d :: r, _, h => by simp at h; subst h; rfl
  | k, i + 1, d :: r, e, h => by
    have h' : r[i]? = some e := by simpa using h
    have := enumD_get (k := k + 1) h'
    rw [enumD, List.getElem?_cons_succ, this, show k + 1 + i = k + (i + 1) by omega]
  | _, _, [], _, h => by simp at h
section
variable {K : PySem.W.Frag} {c : Ctx K} {te : TE} {me : Mo D} {ta : TA} {ma : Mo (List D)}
theorem r_ilist (h : REv c te me) : RIt c (iList K te) (iSeq seqL me) := by
  intro M σ H ρ S ds ρ' hm R q
  obtain ⟨d, ρ1, h1, h2⟩ := mBd_some hm
  obtain ⟨h3, e⟩ := mL_some h2
  subst e
  refine h M σ H ρ S d _ h1 _ fun M' v H' E S' hd => ?_
  cases d <;> simp [seqL] at h3
  subst h3
  cases hd with
  | lst n hH a =>
    refine ⟨_, rfl, ⟨_, SqL.of hH⟩, q M' H' _ _ _ E S' ⟨by rw [← a.length]; exact walk_list, fun M1 H1 e => SqL.of (e.h _ _ n hH), fun i M1 H1 x H2 e k hi y => ?_⟩⟩
    obtain ⟨rfl, hx⟩ := y
    obtain ⟨d, e1, hd⟩ := (a.ev S'.kind e).get hx
    exact ⟨.refl _, d, e1, hd⟩
theorem r_itup (h : REv c te me) : RIt c (iTup K te) (iSeq seqT me) := by
  intro M σ H ρ S ds ρ' hm R q
  obtain ⟨d, ρ1, h1, h2⟩ := mBd_some hm
  obtain ⟨h3, e⟩ := mL_some h2
  subst e
  refine h M σ H ρ S d _ h1 _ fun M' v H' E S' hd => ?_
  cases d <;> simp [seqT] at h3
  subst h3
  cases hd with
  | tup hH a =>
    refine ⟨_, rfl, ⟨_, hH⟩, q M' H' _ _ _ E S' ⟨by rw [← a.length]; exact walk_tup, fun M1 H1 e => S'.kind.sqT e hH, fun i M1 H1 x H2 e k hi y => ?_⟩⟩
    obtain ⟨rfl, hx⟩ := y
    obtain ⟨d, e1, hd⟩ := (a.ev S'.kind e).get hx
    exact ⟨.refl _, d, e1, hd⟩
theorem wk_range {M : Addr → Prop} {H : Hp} (lo : Int) (n : Nat) : Wk c M H (Itr lo n) (rngD lo n) (fun _ => True) (YFn fun i => .int (lo + i)) := by
  refine ⟨by rw [rngD_length]; exact walk_range, fun _ _ _ => trivial, fun i M1 H1 x H2 e k hi y => ?_⟩
  obtain ⟨rfl, rfl⟩ := y
  rw [rngD_length] at hi
  exact ⟨.refl _, _, rngD_get hi, .int _⟩
theorem r_irng1 (h : RAv c ta ma) : RIt c (iRng1 ta) (iFn rng1? ma) := by
  intro M σ H ρ S ds ρ' hm R q
  obtain ⟨d, ρ1, h1, h2⟩ := mBd_some hm
  obtain ⟨h3, e⟩ := mL_some h2
  subst e
  refine h M σ H ρ S d _ h1 _ fun M' vs H' E S' hd => ?_
  unfold rng1? at h3
  split at h3 <;> try (cases h3; done)
  obtain ⟨⟨a1, a2⟩, rfl⟩ := if_some h3
  obtain ⟨v, rfl, hv⟩ := one_of hd
  cases hv
  exact ⟨_, rfl, a1, a2, q M' H' _ _ _ E S' (wk_range 0 _)⟩
theorem pair_y {M M1 : Addr → Prop} {H1 H2 : Hp} {T : Addr} {x y : V} {d e : D} (hT : H1 T = none) (hH : H2 = upd H1 T (.tup [x, y])) (hd : Dat K M1 H1 x d) (he : Dat K M1 H1 y e) : Same H1 H2 ∧ Dat K M1 H2 (.ref T) (.tup [d, e]) := by
  subst hH
  exact dat_tup hT (.cons hd (.cons he .nil))
theorem r_ienumT (h : RAv c ta ma) : RIt c (iEnumT K ta) (iFn enumT? ma) := by
  intro M σ H ρ S ds ρ' hm R q
  obtain ⟨d, ρ1, h1, h2⟩ := mBd_some hm
  obtain ⟨h3, e⟩ := mL_some h2
  subst e
  refine h M σ H ρ S d _ h1 _ fun M' vs H' E S' hd => ?_
  unfold enumT? at h3
  split at h3 <;> try (cases h3; done)
  cases h3
  obtain ⟨v, rfl, hv⟩ := one_of hd
  cases hv with
  | tup hH a =>
    refine ⟨_, _, rfl, hH, q M' H' _ _ _ E S' ⟨by rw [enumD_length, ← a.length]; exact walk_enumT, fun M1 H1 e => S'.kind.sqT e hH, fun i M1 H1 x H2 e k hi y => ?_⟩⟩
    obtain ⟨T, x1, x2, rfl, hT, hH2, e1, e2⟩ := y
    cases e1
    obtain ⟨d, e3, hd⟩ := (a.ev S'.kind e).get e2
    obtain ⟨s, t⟩ := pair_y (M := M1) hT hH2 (.int _) hd
    exact ⟨s, _, by rw [enumD_get e3, Nat.zero_add], t⟩
end
end DL
set_option autoImplicit false
namespace DL
open PySem PySem.Spec PyProof.Rows L2
section
variable {K : PySem.W.Frag} {c : Ctx K} {wi : TI} {mi : Mo (List D)} {g : TG} {mg : D → Mo Unit} {tb : TS} {mb : Mo Fl}
theorem drop_get {α : Type} {l : List α} {i : Nat} {d : α} (h : l[i]? = some d) : l.drop i = d :: l.drop (i + 1) := by
  obtain ⟨hl, e⟩ := List.getElem?_eq_some_iff.mp h
  rw [← e]
  exact List.drop_eq_getElem_cons hl
theorem r_for (hi : RIt c wi mi) (hg : RTg c g mg) (hb : RSt c tb mb) : RSt c (tFor wi g tb) (sFor mi mg mb) := by
  intro M σ H ρ S f ρ' hm D q
  obtain ⟨ds, ρ1, h1, h2⟩ := mBd_some hm
  refine hi M σ H ρ S ds ρ1 h1 _ fun M' H' J G Y E S' W => ?_
  have q' : Post c M' H' D f ρ' := q.ev E.ev
  refine for_it W.w (fun i σ2 H2 => ∃ M2 ρ2, Ev M' H' M2 H2 ∧ Sta c M2 σ2 H2 ρ2 ∧ goFor mg mb (ds.drop i) ρ2 = some (f, ρ')) ⟨M', ρ1, .refl, S', by rw [List.drop_zero]; exact h2⟩ (fun i σ2 H2 _ ⟨M2, ρ2, e, _, _⟩ => W.g M2 H2 e) ?_ ?_
  · rintro i x σ2 H2 H3 hlt ⟨M2, ρ2, e2, S2, go⟩ y
    obtain ⟨s3, d, hd, dx⟩ := W.y i M2 H2 x H3 e2 S2.kind hlt y
    rw [drop_get hd] at go
    unfold goFor at go
    cases e3 : mg d ρ2 with
    | none => rw [e3] at go; cases go
    | some r =>
      obtain ⟨u, ρ3⟩ := r
      rw [e3] at go
      simp only at go
      refine hg M2 σ2 H3 ρ2 (S2.same s3) x d dx u ρ3 e3 _ fun M4 σ4 H4 E4 S4 => ?_
      have e4 : Ev M' H' M4 H4 := (e2.trans (.same s3)).trans E4.ev
      cases e5 : mb ρ3 with
      | none => rw [e5] at go; cases go
      | some r5 =>
        obtain ⟨f5, ρ5⟩ := r5
        rw [e5] at go
        refine hb M4 σ4 H4 ρ3 S4 f5 ρ5 e5 _ ?_
        cases f5 with
        | nx => exact fun M6 σ6 H6 E6 S6 => ⟨M6, ρ5, e4.trans E6, S6, go⟩
        | ct => exact fun M6 σ6 H6 E6 S6 => ⟨M6, ρ5, e4.trans E6, S6, go⟩
        | bk =>
          cases go
          exact fun M6 σ6 H6 E6 S6 => q' M6 σ6 H6 (e4.trans E6) S6
        | rt d =>
          cases go
          exact fun M6 σ6 v H6 E6 S6 hd => q' M6 σ6 v H6 (e4.trans E6) S6 hd
        | rn d =>
          cases go
          exact fun M6 σ6 a H6 E6 S6 n => q' M6 σ6 a H6 (e4.trans E6) S6 n
  · rintro σ2 H2 ⟨M2, ρ2, e2, S2, go⟩
    rw [List.drop_length] at go
    cases go
    exact q' M2 σ2 H2 e2 S2
theorem r_while {tt : TT} {mt : Mo Bool} (n : Cs → Nat) (ht : RTt c tt mt) (hb : RSt c tb mb) : RSt c (tWhile tt tb) (sWh n mt mb) := by
  intro M σ H ρ S f ρ' hm D q
  refine ⟨fun k σ2 H2 => ∃ M2 ρ2, Ev M H M2 H2 ∧ Sta c M2 σ2 H2 ρ2 ∧ goWh mt mb k ρ2 = some (f, ρ'), ⟨n ρ, M, ρ, .refl, S, hm⟩, ?_⟩
  rintro k σ2 H2 ⟨M2, ρ2, e2, S2, go⟩
  cases k with
  | zero => cases go
  | succ k =>
    unfold goWh at go
    cases e3 : mt ρ2 with
    | none => rw [e3] at go; cases go
    | some x =>
      obtain ⟨b, ρ3⟩ := x
      rw [e3] at go
      refine ht M2 σ2 H2 ρ2 S2 b ρ3 e3 _ fun M3 H3 E3 S3 => ?_
      have e4 : Ev M H M3 H3 := e2.trans E3.ev
      cases b with
      | false =>
        cases go
        rw [if_neg (by decide)]
        exact q M3 σ2 H3 e4 S3
      | true =>
        rw [if_pos rfl]
        simp only at go
        refine ⟨fun σ' H' => ∃ M2 ρ2, Ev M H M2 H' ∧ Sta c M2 σ' H' ρ2 ∧ goWh mt mb k ρ2 = some (f, ρ'), fun σ' H' h => ⟨k, Nat.lt_succ_self k, h⟩, ?_⟩
        cases e5 : mb ρ3 with
        | none => rw [e5] at go; cases go
        | some y =>
          obtain ⟨f5, ρ5⟩ := y
          rw [e5] at go
          refine hb M3 σ2 H3 ρ3 S3 f5 ρ5 e5 _ ?_
          cases f5 with
          | nx => exact fun M6 σ6 H6 E6 S6 => ⟨M6, ρ5, e4.trans E6, S6, go⟩
          | ct => exact fun M6 σ6 H6 E6 S6 => ⟨M6, ρ5, e4.trans E6, S6, go⟩
          | bk =>
            cases go
            exact fun M6 σ6 H6 E6 S6 => q M6 σ6 H6 (e4.trans E6) S6
          | rt d =>
            cases go
            exact fun M6 σ6 v H6 E6 S6 hd => q M6 σ6 v H6 (e4.trans E6) S6 hd
          | rn d =>
            cases go
            exact fun M6 σ6 a H6 E6 S6 n => q M6 σ6 a H6 (e4.trans E6) S6 n
end
/-- the comprehension's own slots, forgotten; put back -/
def clr : List Nat → Cs → Cs
  | [], ρ => ρ
  | v :: vs, ρ => (clr vs ρ).set v .no
def back : List Nat → Cs → Cs → Cs
  | [], _, ρ => ρ
  | v :: vs, ρ0, ρ => match ρ0[v]? with
    | some x => (back vs ρ0 ρ).set v x
    | none => back vs ρ0 ρ
/-- none of them is owned -/
def free (vs : List Nat) (ρ : Cs) : Bool := vs.all fun v => match ρ[v]? with
  | some (.own _ _) => false
  | _ => true
def goLc (vs : List Nat) (g : D → Mo Unit) (t : Mo Bool) (e : Mo D) : List D → List D → Mo (List D)
  | [], acc, ρ => some (acc, ρ)
  | d :: ds, acc, ρ => match g d (clr vs ρ) with
    | none => none
    | some (_, ρ1) => match t ρ1 with
      | none => none
      | some (false, ρ2) => goLc vs g t e ds acc ρ2
      | some (true, ρ2) => match e ρ2 with
        | none => none
        | some (y, ρ3) => if acc.length < sizeLine then goLc vs g t e ds (acc ++ [y]) ρ3 else none
def mLc (vs : List Nat) (it : Mo (List D)) (g : D → Mo Unit) (t : Mo Bool) (e : Mo D) : Mo D := mBd it fun ds ρ0 => if free vs ρ0 = true then (match goLc vs g t e ds [] (clr vs ρ0) with
  | some (acc, ρ1) => some (.lst acc, back vs ρ0 (clr vs ρ1))
  | none => none) else none
theorem clr_length : ∀ (vs : List Nat) (ρ : Cs), (clr vs ρ).length = ρ.length
  | [], _ => rfl
  | v :: vs, ρ => by rw [clr, List.length_set, clr_length vs ρ]
theorem clr_out : ∀ {vs : List Nat} {ρ : Cs} {i : Nat}, i ∉ vs → (clr vs ρ)[i]? = ρ[i]?
  | [], _, _, _ => rfl
  | v :: vs, ρ, i, h => by
    rw [clr, List.getElem?_set_ne (fun z => h (by rw [z]; exact List.mem_cons_self)), clr_out fun z => h (List.mem_cons_of_mem _ z)]
theorem clr_in : ∀ {vs : List Nat} {ρ : Cs} {i : Nat}, i ∈ vs → i < ρ.length → (clr vs ρ)[i]? = some .no
  | v :: vs, ρ, i, h, hl => by
    rw [clr]
    by_cases z : v = i
    · subst z
      rw [List.getElem?_set_self (by rw [clr_length]; exact hl)]
    · rw [List.getElem?_set_ne z]
      exact clr_in ((List.mem_cons.mp h).elim (fun e => (z e.symm).elim) id) hl
theorem back_length : ∀ (vs : List Nat) (ρ0 ρ : Cs), (back vs ρ0 ρ).length = ρ.length
  | [], _, _ => rfl
  | v :: vs, ρ0, ρ => by
    rw [back]
    split
    · rw [List.length_set, back_length vs ρ0 ρ]
    · exact back_length vs ρ0 ρ
theorem back_out : ∀ {vs : List Nat} {ρ0 ρ : Cs} {i : Nat}, i ∉ vs → (back vs ρ0 ρ)[i]? = ρ[i]?
  | [], _, _, _, _ => rfl
  | v :: vs, ρ0, ρ, i, h => by
    rw [back]
    split
    · rw [List.getElem?_set_ne (fun z => h (by rw [z]; exact List.mem_cons_self)), back_out fun z => h (List.mem_cons_of_mem _ z)]
    · exact back_out fun z => h (List.mem_cons_of_mem _ z)
theorem back_in : ∀ {vs : List Nat} {ρ0 ρ : Cs} {i : Nat} {x : Cell}, i ∈ vs → ρ0[i]? = some x → i < ρ.length → (back vs ρ0 ρ)[i]? = some x
  | v :: vs, ρ0, ρ, i, x, h, hx, hl => by
    rw [back]
    by_cases z : v = i
    · subst z
      rw [hx]
      simp only
      rw [List.getElem?_set_self (by rw [back_length]; exact hl)]
    · have h' : i ∈ vs := (List.mem_cons.mp h).elim (fun e => (z e.symm).elim) id
      split
      · rw [List.getElem?_set_ne z]
        exact back_in h' hx hl
      · exact back_in h' hx hl
theorem wipe_no : ∀ {vs : List Nat} {σ : L2.St} {i : Nat}, i ∈ vs → i < σ.length → (wipe σ vs)[i]? = some none
  | v :: vs, σ, i, h, hl => by
    show ((wipe σ vs).set v none)[i]? = some none
    by_cases z : v = i
    · subst z
      rw [List.getElem?_set_self (by rw [wipe_length]; exact hl)]
    · rw [List.getElem?_set_ne z]
      exact wipe_no ((List.mem_cons.mp h).elim (fun e => (z e.symm).elim) id) hl
section
variable {K : PySem.W.Frag} {c : Ctx K} {M M1 : Addr → Prop} {σ : L2.St} {H H1 : Hp} {ρ ρ1 : Cs}
/-- the state within the comprehension -/
theorem Sta.clr (S : Sta c M σ H ρ) (vs : List Nat) : Sta c M (wipe σ vs) H (DL.clr vs ρ) := by
  refine ⟨S.pm, S.sub, S.new, S.kind, S.base, by rw [clr_length, wipe_length]; exact S.len, fun i x y h1 h2 => ?_, fun i j a p q d e a1 a2 a3 a4 => ?_⟩
  · by_cases z : i ∈ vs
    · have hl : i < ρ.length := by
        have := (List.getElem?_eq_some_iff.mp h2).1
        rw [clr_length] at this; exact this
      rw [clr_in z hl] at h2
      cases h2
      exact .no _
    · rw [clr_out z] at h2
      rw [wipe_out z] at h1
      exact S.cell i x y h1 h2
  · have out : ∀ {n : Nat} {q : Bool} {e : D}, (DL.clr vs ρ)[n]? = some (.own q e) → n ∉ vs := fun {n q e} h z => by
      have hl : n < ρ.length := by
        have := (List.getElem?_eq_some_iff.mp h).1
        rw [clr_length] at this; exact this
      rw [clr_in z hl] at h
      cases h
    rw [clr_out (out a2)] at a2
    rw [clr_out (out a4)] at a4
    have w : ∀ {n : Nat} {b : Addr}, (wipe σ vs)[n]? = some (some (.ref b)) → σ[n]? = some (some (.ref b)) := fun h => (wipe_some h).1
    exact S.inj i j a p q d e (w a1) a2 (w a3) a4
theorem held_clr {vs : List Nat} {b : Addr} (hl : σ.length = ρ.length) : Held (wipe σ vs) (clr vs ρ) b → Held σ ρ b := by
  rintro ⟨i, p, d, h1, h2⟩
  have out : i ∉ vs := fun z => by
    have hl : i < ρ.length := by
      have := (List.getElem?_eq_some_iff.mp h2).1
      rw [clr_length] at this; exact this
    rw [clr_in z hl] at h2
    cases h2
  rw [clr_out out] at h2
  exact ⟨i, p, d, (wipe_some h1).1, h2⟩
/-- .. and behind it -/
theorem wipe_same {σ σ1 : L2.St} {vs : List Nat} (hw : wipe σ1 vs = wipe σ vs) {i : Nat} (z : i ∉ vs) : σ1[i]? = σ[i]? := by
  rw [← wipe_out (σ := σ1) z, hw, wipe_out z]
theorem Sta.back {σ1 : L2.St} (S : Sta c M σ H ρ) (vs : List Nat) (hf : DL.free vs ρ = true) (E : Ev M H M1 H1) (hw : wipe σ1 vs = wipe σ vs) (S1 : Sta c M1 σ1 H1 ρ1) : Sta c M1 σ H1 (DL.back vs ρ (DL.clr vs ρ1)) := by
  have len1 : ρ1.length = σ.length := by rw [S1.len, ← wipe_length σ1 vs, hw, wipe_length]
  have own_out : ∀ {n : Nat} {q : Bool} {e : D}, (DL.back vs ρ (DL.clr vs ρ1))[n]? = some (.own q e) → n ∉ vs ∧ ρ1[n]? = some (.own q e) := fun {n q e} h => by
    have hl : n < ρ1.length := by
      have := (List.getElem?_eq_some_iff.mp h).1
      rw [back_length, clr_length] at this; exact this
    by_cases z : n ∈ vs
    · exfalso
      have hn : n < ρ.length := by rw [S.len, ← len1]; exact hl
      have e1 : ρ[n]? = some ρ[n] := List.getElem?_eq_getElem hn
      rw [back_in z e1 (by rw [clr_length]; exact hl)] at h
      have h' := Option.some.inj h
      have := List.all_eq_true.mp hf n z
      rw [e1, h'] at this
      cases this
    · rw [back_out z, clr_out z] at h
      exact ⟨z, h⟩
  refine ⟨S.pm, S1.sub, S1.new, S1.kind, S1.base, by rw [back_length, clr_length]; exact len1, fun i x y h1 h2 => ?_, fun i j a p q d e a1 a2 a3 a4 => ?_⟩
  · by_cases z : i ∈ vs
    · have hl : i < ρ1.length := by
        have := (List.getElem?_eq_some_iff.mp h2).1
        rw [back_length, clr_length] at this; exact this
      have hn : i < ρ.length := by rw [S.len, ← len1]; exact hl
      have e1 : ρ[i]? = some ρ[i] := List.getElem?_eq_getElem hn
      rw [back_in z e1 (by rw [clr_length]; exact hl)] at h2
      have h' := Option.some.inj h2
      have hc := S.cell i x _ h1 e1
      rw [h'] at hc
      cases hc with
      | no => exact .no _
      | dat q => exact .dat (q.ev S.kind E)
      | own m p q =>
        have := List.all_eq_true.mp hf i z
        rw [e1, h'] at this
        cases this
    · rw [back_out z, clr_out z] at h2
      exact S1.cell i x y (by rw [wipe_same hw z]; exact h1) h2
  · obtain ⟨z1, b1⟩ := own_out a2
    obtain ⟨z2, b2⟩ := own_out a4
    exact S1.inj i j a p q d e (by rw [wipe_same hw z1]; exact a1) b1 (by rw [wipe_same hw z2]; exact a3) b2
theorem held_back {σ1 : L2.St} {vs : List Nat} {ρ0 : Cs} {b : Addr} (l0 : ρ0.length = σ.length) (l1 : ρ1.length = σ.length) (hf : free vs ρ0 = true) (hw : wipe σ1 vs = wipe σ vs) : Held σ (back vs ρ0 (clr vs ρ1)) b → Held σ1 ρ1 b := by
  rintro ⟨i, p, d, h1, h2⟩
  have hl : i < ρ1.length := by
    have := (List.getElem?_eq_some_iff.mp h2).1
    rw [back_length, clr_length] at this; exact this
  by_cases z : i ∈ vs
  · exfalso
    have hn : i < ρ0.length := by rw [l0, ← l1]; exact hl
    have e1 : ρ0[i]? = some ρ0[i] := List.getElem?_eq_getElem hn
    rw [back_in z e1 (by rw [clr_length]; exact hl)] at h2
    have h' := Option.some.inj h2
    have := List.all_eq_true.mp hf i z
    rw [e1, h'] at this
    cases this
  · rw [back_out z, clr_out z] at h2
    exact ⟨i, p, d, by rw [wipe_same hw z]; exact h1, h2⟩
/-- an object that is being made, not yet in a slot, is changed -/
theorem Sta.put {a : Addr} {o : HO} (S : Sta c M σ H ρ) (hM : M a) (h0 : c.H0 a = none) (nh : ¬ Held σ ρ a) (hm : MutK o) : Ev M H M (upd H a o) ∧ Sta c M σ (upd H a o) ρ := by
  have E : Ev M H M (upd H a o) := ⟨fun b h => .inl h, fun b u n h => by rw [upd_ne (fun z => n (by rw [z]; exact hM))]; exact h⟩
  refine ⟨E, S.pm, S.sub, S.new, fun b hb => ?_, fun b u n h => ?_, S.len, fun i x y h1 h2 => ?_, S.inj⟩
  · by_cases z : b = a
    · subst z; exact ⟨_, upd_same, hm⟩
    · obtain ⟨u, q, m⟩ := S.kind b hb
      exact ⟨u, by rw [upd_ne z]; exact q, m⟩
  · rw [upd_ne (fun z => by rw [z, h0] at h; cases h)]
    exact S.base b u n h
  · cases S.cell i x y h1 h2 with
    | no => exact .no _
    | dat q => exact .dat (q.ev S.kind E)
    | own m q w =>
      rename_i p' a' d'
      have ne : a' ≠ a := fun z => nh ⟨i, p', d', by rw [← z]; exact h1, h2⟩
      exact .own m q (w.elim fun u r => ⟨u, by rw [upd_ne ne]; exact r.1, r.2.ev S.kind E⟩)
end
/-- the target is the comprehension's own -/
def OwnG (g : TG) (vs : List Nat) : Prop := ∀ v σ H w (Q : L2.St → Hp → Prop), wipe σ vs = w → g v σ H (fun σ2 H2 => wipe σ2 vs = w → Q σ2 H2) → g v σ H fun σ2 H2 => wipe σ2 vs = w ∧ Q σ2 H2
def OwnGs (g : TGs) (vs : List Nat) : Prop := ∀ v σ H w (Q : L2.St → Hp → Prop), wipe σ vs = w → g v σ H (fun σ2 H2 => wipe σ2 vs = w → Q σ2 H2) → g v σ H fun σ2 H2 => wipe σ2 vs = w ∧ Q σ2 H2
theorem wipe_set {σ : L2.St} {vs : List Nat} {i : Nat} {x : Option V} (h : i ∈ vs) : wipe (σ.set i x) vs = wipe σ vs := by
  refine List.ext_getElem? fun j => ?_
  by_cases z : j ∈ vs
  · by_cases l : j < σ.length
    · rw [wipe_no z (by rw [List.length_set]; exact l), wipe_no z l]
    · rw [List.getElem?_eq_none (by rw [wipe_length, List.length_set]; omega), List.getElem?_eq_none (by rw [wipe_length]; omega)]
  · rw [wipe_out z, wipe_out z, List.getElem?_set_ne fun e => z (by rw [← e]; exact h)]
theorem wipe_wipe {σ : L2.St} {vs : List Nat} : wipe (wipe σ vs) vs = wipe σ vs := by
  refine List.ext_getElem? fun j => ?_
  by_cases z : j ∈ vs
  · by_cases l : j < σ.length
    · rw [wipe_no z (by rw [wipe_length]; exact l), wipe_no z l]
    · rw [List.getElem?_eq_none (by rw [wipe_length, wipe_length]; omega), List.getElem?_eq_none (by rw [wipe_length]; omega)]
  · rw [wipe_out z]
theorem own_name {i : Nat} {vs : List Nat} (h : i ∈ vs) : OwnG (gName i) vs := fun v σ H w Q e q => ⟨by rw [wipe_set h]; exact e, q (by rw [wipe_set h]; exact e)⟩
theorem own_nil {vs : List Nat} : OwnGs gNil vs := fun v σ H w Q e q => ⟨q.1, e, q.2 e⟩
/-- a target that asks less when less is wanted -/
theorem own_cons {g : TG} {gs : TGs} {vs : List Nat} (h : OwnG g vs) (hs : OwnGs gs vs) (mono : ∀ v σ H (Q Q' : L2.St → Hp → Prop), (∀ s h, Q s h → Q' s h) → g v σ H Q → g v σ H Q') : OwnGs (gCons g gs) vs := fun v σ H w Q e q => by
  obtain ⟨x, r, rfl, q⟩ := q
  refine ⟨x, r, rfl, mono _ _ _ _ _ (fun s h' z => z.2) (h x σ H w (fun σ' H' => gs r σ' H' fun σ2 H2 => wipe σ2 vs = w ∧ Q σ2 H2) e ?_)⟩
  exact mono _ _ _ _ _ (fun s h' z e' => hs r s h' w Q e' z) q
theorem own_tup {K : PySem.W.Frag} {n : Nat} {gs : TGs} {vs : List Nat} (hs : OwnGs gs vs) : OwnG (gTup K n gs) vs := fun v σ H w Q e q => by
  obtain ⟨a, xs, h1, h2, h3, q⟩ := q
  exact ⟨a, xs, h1, h2, h3, hs xs σ H w Q e q⟩
theorem mono_name {i : Nat} : ∀ v σ H (Q Q' : L2.St → Hp → Prop), (∀ s h, Q s h → Q' s h) → gName i v σ H Q → gName i v σ H Q' := fun _ _ _ _ _ h q => h _ _ q
section
variable {K : PySem.W.Frag} {c : Ctx K} {wi : TI} {mi : Mo (List D)} {g : TG} {mg : D → Mo Unit} {tt : TT} {mt : Mo Bool} {te : TE} {me : Mo D}
theorem r_yes : RTt c tYes (mC true) := by
  intro M σ H ρ S b ρ' hm Q q
  obtain ⟨e1, e2⟩ := mC_some hm
  subst e1 e2
  exact q M H .refl S
theorem r_lc {vs : List Nat} (hi : RIt c wi mi) (hg : RTg c g mg) (ho : OwnG g vs) (ht : RTt c tt mt) (he : REv c te me) : RNw c (tLc wi g tt te vs) (mLc vs mi mg mt me) := by
  intro M σ H ρ S d ρ' hm Q q
  obtain ⟨ds, ρ0, h1, h2⟩ := mBd_some hm
  split at h2
  case isFalse => cases h2
  rename_i hf
  refine hi M σ H ρ S ds ρ0 h1 _ fun M' H' J G Y E S' W => fun D hD => ?_
  cases go0 : goLc vs mg mt me ds [] (clr vs ρ0) with
  | none => rw [go0] at h2; cases h2
  | some r0 =>
    obtain ⟨accf, ρf⟩ := r0
    rw [go0] at h2
    cases h2
    obtain ⟨eD, sD, nD⟩ := S'.nw (o := .lst []) (d := .lst []) hD (same_new hD) upd_same (.lst .nil)
    have h0D := nD.h0
    have n0D := nD.n0
    -- the invariant
    refine lc_it W.w (fun i Hi => ∃ M1 σ1 ρ1 acc accd, wipe σ1 vs = wipe σ vs ∧ Sta c M1 σ1 Hi ρ1 ∧ Es σ M' H' ρ0 σ1 M1 Hi ρ1 ∧ M1 D ∧ ¬ Held σ1 ρ1 D ∧ Hi D = some (.lst acc) ∧ DatAll K M1 Hi acc accd ∧ goLc vs mg mt me (ds.drop i) accd ρ1 = some (accf, ρf)) ?_ (fun i Hi _ ⟨M1, σ1, ρ1, _, _, _, _, e, _⟩ => W.g M1 Hi e.ev) ?_ ?_
    · refine ⟨_, wipe σ vs, clr vs ρ0, [], [], wipe_wipe, sD.clr vs, ⟨eD.ev, eD.kp, fun b o h z => held_clr S'.len.symm z, eD.mc, eD.dm⟩, nD.m, fun z => nD.nh (held_clr S'.len.symm z), upd_same, .nil, by rw [List.drop_zero]; exact go0⟩
    · rintro i x Hi H3 hlt ⟨M1, σ1, ρ1, acc, accd, hw, S1, E1, mD, hD1, aD, dacc, go⟩ y
      obtain ⟨s3, dv, hd, dx⟩ := W.y i M1 Hi x H3 E1.ev S1.kind hlt y
      rw [drop_get hd] at go
      unfold goLc at go
      have S3 : Sta c M1 (wipe σ vs) H3 (clr vs ρ1) := by rw [← hw]; exact (S1.same s3).clr vs
      have E3 : Es σ1 M1 Hi ρ1 (wipe σ vs) M1 H3 (clr vs ρ1) := by
        rw [← hw]
        exact ⟨.same s3, fun b o _ h => s3 b o h, fun b o _ z => held_clr S1.len.symm z, fun _ h _ => h, fun _ h => s3.free h⟩
      cases e4 : mg dv (clr vs ρ1) with
      | none => rw [e4] at go; cases go
      | some r4 =>
        obtain ⟨u4, ρ4⟩ := r4
        rw [e4] at go
        simp only at go
        refine ho x (wipe σ vs) H3 (wipe σ vs) _ wipe_wipe (hg M1 (wipe σ vs) H3 (clr vs ρ1) S3 x dv dx u4 ρ4 e4 _ fun M4 σ4 H4 E4 S4 => ?_)
        · intro hw4
          have E14 : Es σ1 M1 Hi ρ1 σ4 M4 H4 ρ4 := E3.trans E4 S1.kind
          cases e5 : mt ρ4 with
          | none => rw [e5] at go; cases go
          | some r5 =>
            obtain ⟨b5, ρ5⟩ := r5
            rw [e5] at go
            refine ht M4 σ4 H4 ρ4 S4 b5 ρ5 e5 _ fun M5 H5 E5 S5 => ?_
            have E15 : Es σ1 M1 Hi ρ1 σ4 M5 H5 ρ5 := E14.trans E5 S1.kind
            cases b5 with
            | false =>
              rw [if_neg (by decide)]
              exact ⟨M5, σ4, ρ5, acc, accd, hw4, S5, E1.trans E15 S'.kind, E15.mc D mD hD1, fun z => hD1 (E15.hs D _ aD z), E15.kp D _ hD1 aD, dacc.ev S1.kind E15.ev, go⟩
            | true =>
              rw [if_pos rfl]
              simp only at go
              cases e6 : me ρ5 with
              | none => rw [e6] at go; cases go
              | some r6 =>
                obtain ⟨dy, ρ6⟩ := r6
                rw [e6] at go
                simp only at go
                split at go
                case isFalse => cases go
                rename_i hlen
                refine he M5 σ4 H5 ρ5 S5 dy ρ6 e6 _ fun M6 yv H6 E6 S6 dyv => ?_
                have E16 : Es σ1 M1 Hi ρ1 σ4 M6 H6 ρ6 := E15.trans E6 S1.kind
                have a6 := E16.kp D _ hD1 aD
                have m6 := E16.mc D mD hD1
                have h6 : ¬ Held σ4 ρ6 D := fun z => hD1 (E16.hs D _ aD z)
                obtain ⟨E7, S7⟩ := S6.put (o := .lst (acc ++ [yv])) m6 h0D h6 trivial
                refine ⟨acc, a6, by rw [dacc.length]; exact hlen, M6, σ4, ρ6, acc ++ [yv], accd ++ [dy], hw4, S7, ?_, m6, h6, upd_same, ((dacc.ev S1.kind E16.ev).append (.cons dyv .nil)).ev S6.kind E7, go⟩
                have E' := E1.trans E16 S'.kind
                refine ⟨E'.ev.trans E7, fun b o n h => ?_, E'.hs, E'.mc, fun b h => E'.dm b ?_⟩
                · rw [upd_ne (fun z => by rw [z, hD] at h; cases h)]
                  exact E'.kp b o n h
                · by_cases z : b = D
                  · subst z; rw [upd_same] at h; cases h
                  · rw [upd_ne z] at h; exact h
    · rintro Hi ⟨M1, σ1, ρ1, acc, accd, hw, S1, E1, mD, hD1, aD, dacc, go⟩
      rw [List.drop_length] at go
      cases go
      have len1 : ρf.length = σ.length := by rw [S1.len, ← wipe_length σ1 vs, hw, wipe_length]
      have Sb := S'.back vs hf E1.ev hw S1
      have hb : ∀ b, Held σ (back vs ρ0 (clr vs ρf)) b → Held σ1 ρf b := fun b => held_back S'.len len1 hf hw
      exact q M1 D Hi (E.dm D hD) (E.trans ⟨E1.ev, E1.kp, fun b o h z => E1.hs b o h (hb b z), E1.mc, E1.dm⟩ S.kind) Sb ⟨mD, fun z => hD1 (hb D z), h0D, n0D, _, aD, .lst dacc⟩
end
end DL
set_option autoImplicit false
namespace DL
open PySem PySem.Spec PyProof.Rows L2
inductive Items {K : PySem.W.Frag} (c : Ctx K) (M : Addr → Prop) (σ : L2.St) (H : Hp) (ρ : Cs) : List V → List D → List Bool → List Addr → Prop
  | nil : Items c M σ H ρ [] [] [] []
  | dat {v : V} {d : D} {vs : List V} {ds : List D} {fs : List Bool} {as : List Addr} : Dat K M H v d → Items c M σ H ρ vs ds fs as → Items c M σ H ρ (v :: vs) (d :: ds) (false :: fs) as
  | new {a : Addr} {d : D} {vs : List V} {ds : List D} {fs : List Bool} {as : List Addr} : Nw c M σ H ρ a d → a ∉ as → Items c M σ H ρ vs ds fs as → Items c M σ H ρ (.ref a :: vs) (d :: ds) (true :: fs) (a :: as)
def stAll : List Nat → List Bool → List D → Cs → Option Cs
  | [], [], [], ρ => some ρ
  | i :: is, b :: bs, d :: ds, ρ => stAll is bs ds (ρ.set i (if b = true then .own false d else .dat d))
  | _, _, _, _ => none
def svAll : List Nat → List V → L2.St → L2.St
  | i :: is, v :: vs, σ => svAll is vs (σ.set i (some v))
  | _, _, σ => σ
section
variable {K : PySem.W.Frag} {c : Ctx K} {M M' : Addr → Prop} {σ σ' : L2.St} {H H' : Hp} {ρ ρ' : Cs}
theorem Items.es (k : Kind M H) (e : Es σ M H ρ σ' M' H' ρ') {vs : List V} {ds : List D} {fs : List Bool} {as : List Addr} (h : Items c M σ H ρ vs ds fs as) : Items c M' σ' H' ρ' vs ds fs as := by
  induction h with
  | nil => exact .nil
  | dat q _ ih => exact .dat (q.ev k e.ev) ih
  | new q n _ ih => exact .new (q.es k e) n ih
/-- a name takes a new object: the others stay -/
theorem Items.taken {i : Nat} {a : Addr} {d : D} {vs : List V} {ds : List D} {fs : List Bool} {as : List Addr} (h : Items c M σ H ρ vs ds fs as) (n : a ∉ as) : Items c M (σ.set i (some (.ref a))) H (ρ.set i (.own false d)) vs ds fs as := by
  induction h with
  | nil => exact .nil
  | dat q _ ih => exact .dat q (ih n)
  | @new b _ _ _ _ _ q n' _ ih =>
    have nb : b ≠ a := fun z => n (by rw [z]; exact List.mem_cons_self)
    refine .new ⟨q.m, fun z => ?_, q.h0, q.n0, q.o⟩ n' (ih fun z => n (List.mem_cons_of_mem _ z))
    obtain ⟨j, p, e, h1, h2⟩ := z
    by_cases w : i = j
    · subst w
      by_cases l : i < σ.length
      · rw [List.getElem?_set_self l] at h1
        cases h1
        exact nb rfl
      · rw [List.getElem?_eq_none (by rw [List.length_set]; omega)] at h1
        cases h1
    · rw [List.getElem?_set_ne w] at h1 h2
      exact q.nh ⟨j, p, e, h1, h2⟩
theorem Items.setDat {i : Nat} {v : V} {d : D} {vs : List V} {ds : List D} {fs : List Bool} {as : List Addr} (l : σ.length = ρ.length) (h : Items c M σ H ρ vs ds fs as) : Items c M (σ.set i (some v)) H (ρ.set i (.dat d)) vs ds fs as := by
  induction h with
  | nil => exact .nil
  | dat q _ ih => exact .dat q ih
  | new q n' _ ih => exact .new ⟨q.m, fun z => q.nh (held_setDat _ l z), q.h0, q.n0, q.o⟩ n' ih
theorem Items.store : ∀ {is : List Nat} {vs : List V} {ds : List D} {fs : List Bool} {as : List Addr} {σ : L2.St} {ρ ρ' : Cs}, Sta c M σ H ρ → Items c M σ H ρ vs ds fs as → stAll is fs ds ρ = some ρ' → Sta c M (svAll is vs σ) H ρ'
  | [], _, _, _, _, σ, ρ, ρ', S, .nil, e => by cases e; exact S
  | [], _, _, _, _, σ, ρ, ρ', S, .dat _ _, e => by cases e
  | [], _, _, _, _, σ, ρ, ρ', S, .new _ _ _, e => by cases e
  | _ :: _, _, _, _, _, σ, ρ, ρ', S, .nil, e => by cases e
  | i :: is, _, _, _, _, σ, ρ, ρ', S, .dat q r, e => Items.store (is := is) (S.setDat i q) (r.setDat S.len.symm) e
  | i :: is, _, _, _, _, σ, ρ, ρ', S, .new q n r, e => Items.store (is := is) (S.takeN q i) (r.taken n) e
end
def RAf {K : PySem.W.Frag} (c : Ctx K) (t : TA) (fs : List Bool) (m : Mo (List D)) : Prop := ∀ M σ H ρ, Sta c M σ H ρ → ∀ ds ρ', m ρ = some (ds, ρ') → ∀ Q : List V → Hp → Prop,
  (∀ M' vs H' as, (∀ a ∈ as, H a = none) → Es σ M H ρ σ M' H' ρ' → Sta c M' σ H' ρ' → Items c M' σ H' ρ' vs ds fs as → Q vs H') → t σ H Q
structure DF (X : Cx) {K : PySem.W.Frag} (c : Ctx K) (es : List Expr) (t : TA) (fs : List Bool) (m : Mo (List D)) : Prop where
  p : PA X es t
  r : RAf c t fs m
def sPar (is : List Nat) (fs : List Bool) (m : Mo (List D)) : Mo Fl := mBd m fun ds ρ => match stAll is fs ds ρ with
  | some ρ' => some (.nx, ρ')
  | none => none
def gNames : List Nat → TGs
  | [] => gNil
  | i :: is => gCons (gName i) (gNames is)
theorem gNames_run : ∀ {is : List Nat} {vs : List V} {σ : L2.St} {H : Hp} {Q : L2.St → Hp → Prop}, vs.length = is.length → Q (svAll is vs σ) H → gNames is vs σ H Q
  | [], [], _, _, _, _, q => ⟨rfl, q⟩
  | i :: is, v :: vs, σ, H, Q, h, q => ⟨v, vs, rfl, gNames_run (by simpa using h) q⟩
  | [], _ :: _, _, _, _, h, _ => by simp at h
  | _ :: _, [], _, _, _, h, _ => by simp at h
section
variable {K : PySem.W.Frag} {c : Ctx K} {te : TE} {me : Mo D} {tl : TA} {ml : Mo (List D)} {fs : List Bool}
theorem r_fnil : RAf c tNil [] aNil := by
  intro M σ H ρ S ds ρ' hm Q q
  obtain ⟨e1, e2⟩ := mC_some hm
  subst e1 e2
  exact q M [] H [] (fun _ h => nomatch h) .refl S .nil
theorem r_fdat (ha : REv c te me) (hr : RAf c tl fs ml) : RAf c (tCons te tl) (false :: fs) (aCons me ml) := by
  intro M σ H ρ S ds ρ' hm Q q
  obtain ⟨x, ρ1, h1, hm1⟩ := mBd_some hm
  obtain ⟨xs, ρ2, h2, hm2⟩ := mBd_some hm1
  obtain ⟨e1, e2⟩ := mC_some hm2
  subst e1 e2
  exact ha M σ H ρ S x ρ1 h1 _ fun M1 v H1 E1 S1 d1 => hr M1 σ H1 ρ1 S1 xs _ h2 _ fun M2 vs H2 as hf E2 S2 d2 => q M2 _ H2 as (fun a ha => E1.dm a (hf a ha)) (E1.trans E2 S.kind) S2 (.dat (d1.ev S1.kind E2.ev) d2)
theorem r_fnew (ha : RNw c te me) (hr : RAf c tl fs ml) : RAf c (tCons te tl) (true :: fs) (aCons me ml) := by
  intro M σ H ρ S ds ρ' hm Q q
  obtain ⟨x, ρ1, h1, hm1⟩ := mBd_some hm
  obtain ⟨xs, ρ2, h2, hm2⟩ := mBd_some hm1
  obtain ⟨e1, e2⟩ := mC_some hm2
  subst e1 e2
  refine ha M σ H ρ S x ρ1 h1 _ fun M1 a H1 hfa E1 S1 n1 => hr M1 σ H1 ρ1 S1 xs _ h2 _ fun M2 vs H2 as hf E2 S2 d2 => q M2 _ H2 (a :: as) (fun b hb => ?_) (E1.trans E2 S.kind) S2 (.new (n1.es S1.kind E2) (fun z => ?_) d2)
  · rcases List.mem_cons.mp hb with rfl | hb
    · exact hfa
    · exact E1.dm b (hf b hb)
  · obtain ⟨o, ho, _⟩ := n1.o
    rw [hf a z] at ho; cases ho
theorem Items.len {M : Addr → Prop} {σ : L2.St} {H : Hp} {ρ : Cs} {vs : List V} {ds : List D} {as : List Addr} (h : Items c M σ H ρ vs ds fs as) : vs.length = ds.length := by
  induction h with
  | nil => rfl
  | dat _ _ ih => rw [List.length_cons, List.length_cons, ih]
  | new _ _ _ ih => rw [List.length_cons, List.length_cons, ih]
theorem stAll_len : ∀ {is : List Nat} {fs : List Bool} {ds : List D} {ρ ρ' : Cs}, stAll is fs ds ρ = some ρ' → ds.length = is.length
  | [], [], [], _, _, _ => rfl
  | i :: is, b :: bs, d :: ds, ρ, ρ', h => by rw [List.length_cons, List.length_cons, stAll_len (is := is) (fs := bs) (ds := ds) h]
  | [], [], _ :: _, _, _, h => by cases h
  | [], _ :: _, _, _, _, h => by cases h
  | _ :: _, [], _, _, _, h => by cases h
  | _ :: _, _ :: _, [], _, _, h => by cases h
theorem r_par2 {i j : Nat} (h : RAf c tl fs ml) : RSt c (tPar i j tl) (sPar [i, j] fs ml) := by
  intro M σ H ρ S f ρ' hm D q
  obtain ⟨ds, ρ1, h1, h2⟩ := mBd_some hm
  cases e : stAll [i, j] fs ds ρ1 with
  | none => simp only [e] at h2; cases h2
  | some ρ2 =>
    simp only [e] at h2
    cases h2
    refine h M σ H ρ S ds ρ1 h1 _ fun M1 vs H1 as _ E1 S1 it => ?_
    have l : vs.length = 2 := by rw [it.len, stAll_len e]; rfl
    match vs, l with
    | [v, w], _ => exact ⟨v, w, rfl, q M1 _ H1 E1.ev (it.store S1 e)⟩
/-- by way of a tuple -/
theorem r_parT {n : Nat} {is : List Nat} (hn : is.length = n) (hz : n ≤ 1000) (h : RAf c tl fs ml) : RSt c (tAsg (tTup tl) (gTup K n (gNames is))) (sPar is fs ml) := by
  intro M σ H ρ S f ρ' hm D q
  obtain ⟨ds, ρ1, h1, h2⟩ := mBd_some hm
  cases e : stAll is fs ds ρ1 with
  | none => simp only [e] at h2; cases h2
  | some ρ2 =>
    simp only [e] at h2
    cases h2
    refine h M σ H ρ S ds ρ1 h1 _ fun M1 vs H1 as _ E1 S1 it => ?_
    have l : vs.length = n := by rw [it.len, stAll_len e, hn]
    refine ⟨by rw [l, sizeLine_eq]; omega, fun p hp => ⟨p, vs, rfl, .inl (.inl upd_same), l, gNames_run (by rw [l, hn]) ?_⟩⟩
    have s : Same H1 (upd H1 p (.tup vs)) := same_new hp
    exact q M1 _ _ (E1.ev.trans (.same s)) ((it.es S1.kind (.same s)).store (S1.same s) e)
def ownsL (i : Nat) (ρ : Cs) : Bool := match ρ[i]? with
  | some (.own _ (.lst _)) => true
  | _ => false
theorem ownsL_some {i : Nat} {ρ : Cs} (h : ownsL i ρ = true) : ∃ p ds, ρ[i]? = some (.own p (.lst ds)) := by
  unfold ownsL at h
  split at h
  · exact ⟨_, _, by assumption⟩
  · cases h
def sAppV (i : Nat) (me : Mo D) : Mo Fl := fun ρ => if ownsL i ρ = true then sApp i me ρ else none
def sExtV (i : Nat) (me : Mo D) : Mo Fl := fun ρ => if ownsL i ρ = true then sExt i me ρ else none
theorem grown {M M1 : Addr → Prop} {σ : L2.St} {H H1 : Hp} {ρ ρ1 : Cs} {i : Nat} {a : Addr} {p : Bool} {ds es : List D} {ys : List V} (ha : σ[i]? = some (some (.ref a))) (e1 : ρ1[i]? = some (.own p (.lst ds))) (E1 : Es σ M H ρ σ M1 H1 ρ1) (S1 : Sta c M1 σ H1 ρ1) (hv : DatAll K M1 H1 ys es) :
    ∃ xs, H1 a = some (.lst xs) ∧ xs.length = ds.length ∧ (Ev M H M1 (upd H1 a (.lst (xs ++ ys))) ∧ Sta c M1 σ (upd H1 a (.lst (xs ++ ys))) (ρ1.set i (.own p (.lst (ds ++ es))))) := by
  obtain ⟨a', ha', hM, _, o, ho, hc⟩ := S1.own e1
  rw [ha] at ha'
  cases ha'
  cases hc with
  | lst hx =>
    rename_i xs
    refine ⟨xs, ho, hx.length, ?_⟩
    have ev2 : Ev M1 H1 M1 (upd H1 a (.lst (xs ++ ys))) := ⟨fun b h => .inl h, fun b o nb h => by rw [upd_ne (fun z => nb (by rw [z]; exact hM))]; exact h⟩
    have E2 := S1.mut (d' := .lst (ds ++ es)) (H' := upd H1 a (.lst (xs ++ ys))) ha e1 (fun b o nb h => by rw [upd_ne nb]; exact h) ⟨_, upd_same, .lst ((hx.append hv).ev S1.kind ev2)⟩
    exact ⟨E1.ev.trans E2.1, E2.2⟩
theorem r_app {i : Nat} (h : REv c te me) : RSt c (tDrop (tBM K "list" rAppend (tVar i) (tCons te tNil))) (sAppV i me) := by
  intro M σ H ρ S f ρ' hm D q
  unfold sAppV at hm
  split at hm
  case isFalse => cases hm
  rename_i hw
  obtain ⟨p0, d0, e0⟩ := ownsL_some hw
  obtain ⟨a, ha, _, _, o0, ho0, hc0⟩ := S.own e0
  obtain ⟨d, ρ1, h1, h2⟩ := mBd_some hm
  split at h2
  · rename_i p ds e1
    obtain ⟨hl, e2⟩ := if_some h2
    cases e2
    cases hc0 with
    | lst _ =>
      refine ⟨_, ha, .inl ⟨rfl, _, SqL.of ho0⟩, h M σ H ρ S d ρ1 h1 _ fun M1 v H1 E1 S1 hv => ?_⟩
      obtain ⟨xs, hx, hlx, E2, S2⟩ := grown ha e1 E1 S1 (.cons hv .nil)
      exact ⟨a, xs, v, rfl, rfl, hx, by rw [hlx]; exact hl, q M1 _ _ E2 S2⟩
  · cases h2
end
end DL
set_option autoImplicit false
namespace DL
open PySem PySem.Spec PyProof.Rows L2
def scal : D → Bool
  | .non | .bl _ | .int _ | .str _ => true
  | _ => false
theorem scal_dat {K : PySem.W.Frag} {M M' : Addr → Prop} {H : Hp} {v : V} {d : D} (h : Dat K M H v d) (s : scal d = true) : Dat K M' H v d := by
  cases d <;> simp [scal] at s <;> cases h <;> constructor
/-- the object of slot i, which the def owns, read as data -/
theorem Sta.peek {K : PySem.W.Frag} {c : Ctx K} {M : Addr → Prop} {σ : L2.St} {H : Hp} {ρ : Cs} (S : Sta c M σ H ρ) {i : Nat} {p : Bool} {d : D} (h : ρ[i]? = some (.own p d)) :
    ∃ a, σ[i]? = some (some (.ref a)) ∧ Kind (fun b => M b ∧ b ≠ a) H ∧ (∀ b, (M b ∧ b ≠ a) → M b) ∧ Dat K (fun b => M b ∧ b ≠ a) H (.ref a) d := by
  obtain ⟨a, ha, _, _, o, ho, hc⟩ := S.own h
  exact ⟨a, ha, fun b hb => S.kind b hb.1, fun b hb => hb.1, (hc.less fun b hb => hb.1).dat (fun z => z.2 rfl) ho⟩
def sc? (o : Option D) : Option D := match o with
  | some d => if scal d = true then some d else none
  | none => none
theorem sc_some {o : Option D} {d : D} (h : sc? o = some d) : o = some d ∧ scal d = true := by
  unfold sc? at h
  split at h
  · obtain ⟨a, rfl⟩ := if_some h
    exact ⟨rfl, a⟩
  · cases h
/-- x op e, x the name in slot i -/
def mOpL (g : D → D → Option D) (i : Nat) (b : Mo D) : Mo D := fun ρ => match ρ[i]? with
  | some (.own _ _) => mBd b (fun y ρ1 => match ρ1[i]? with
    | some (.own _ d) => mL (sc? (g d y)) ρ1
    | _ => none) ρ
  | _ => mOp g (mVar i) b ρ
/-- e op x -/
def mOpRt (g : D → D → Option D) (a : Mo D) (i : Nat) : Mo D := mBd a fun x ρ => match ρ[i]? with
  | some (.own _ d) => mL (sc? (g x d)) ρ
  | _ => mBd (mVar i) (fun y => mL (g x y)) ρ
/-- f(x) -/
def mFnP (g : List D → Option D) (i : Nat) : Mo D := fun ρ => match ρ[i]? with
  | some (.own _ d) => mL (sc? (g [d])) ρ
  | _ => mFn g (aCons (mVar i) aNil) ρ
section
variable {K : PySem.W.Frag} {c : Ctx K} {ta tb : TE} {ma mb : Mo D}
theorem r_opRt {g : D → D → Option D} {i : Nat} (ha : REv c ta ma) : REv c (tOp (rD K g) ta (tVar i)) (mOpRt g ma i) := by
  intro M σ H ρ S d ρ' hm Q q
  obtain ⟨x, ρ1, h1, h2⟩ := mBd_some hm
  split at h2
  · rename_i p1 d1 e1
    obtain ⟨h3, e3⟩ := mL_some h2
    subst e3
    obtain ⟨hg, hs⟩ := sc_some h3
    refine ha M σ H ρ S x _ h1 _ fun M1 w H1 E1 S1 dw => ?_
    obtain ⟨a', ha', k, L, dd⟩ := S1.peek e1
    exact ⟨_, ha', _, x, d1, d, k, dw.less L, dd, hg, fun u H2 s h => q M1 u H2 (E1.trans (.same s) S.kind) (S1.same s) (scal_dat h hs)⟩
  · refine r_op ha (r_var i) M σ H ρ S d ρ' ?_ Q q
    show mBd ma (fun x => mBd (mVar i) fun y => mL (g x y)) ρ = _
    unfold mBd
    rw [h1]
    exact h2
theorem r_fnP {g : List D → Option D} {i : Nat} : REv c (tCB (rC K g) (tCons (tVar i) tNil)) (mFnP g i) := by
  intro M σ H ρ S d ρ' hm Q q
  unfold mFnP at hm
  split at hm
  · rename_i p1 d1 e1
    obtain ⟨h3, e3⟩ := mL_some hm
    subst e3
    obtain ⟨hg, hs⟩ := sc_some h3
    obtain ⟨a', ha', k, L, dd⟩ := S.peek e1
    exact ⟨_, ha', _, [d1], d, k, .cons dd .nil, hg, fun u H2 s h => q M u H2 (.same s) (S.same s) (scal_dat h hs)⟩
  · exact r_fn (r_acons (r_var i) r_anil) M σ H ρ S d ρ' hm Q q
end
def rIxO (K : PySem.W.Frag) : R2 := fun x y H Q => rD K dIx x y H Q ∨ ∃ p q xs i v, x = .ref p ∧ y = .int i ∧ SqL q H p xs ∧ q = K ∧ atI xs i = some v ∧ Q v H
def mIxV (i : Nat) (b : Mo D) : Mo D := fun ρ => match ρ[i]? with
  | some (.own _ (.lst _)) => mBd b (fun y ρ1 => match ρ1[i]? with
    | some (.own _ (.lst ds)) => (match y with
      | .int k => mL (atI ds k) ρ1
      | _ => none)
    | _ => none) ρ
  | _ => mOp dIx (mVar i) b ρ
section
variable {X : Cx}
theorem ix_OWN : IxR X (rIxO X.K) := by
  intro value slice pins s σ H x y v u Q I rx ry h hs
  rcases h with h | ⟨p, q, xs, i, w, rfl, rfl, h1, rfl, e1, h2⟩
  · exact ix_ALL value slice pins s σ H x y v u Q I rx ry h hs
  · exact ix_list value slice pins s σ H _ _ v u Q I rx ry ⟨_, _, i, w, rfl, rfl, h1, e1, h2⟩ hs
end
theorem r_ixV {K : PySem.W.Frag} {c : Ctx K} {i : Nat} {tb : TE} {mb : Mo D} (hb : REv c tb mb) : REv c (tOp (rIxO K) (tVar i) tb) (mIxV i mb) := by
  intro M σ H ρ S d ρ' hm Q q
  unfold mIxV at hm
  split at hm
  · rename_i p d0 e0
    obtain ⟨y, ρ1, h1, h2⟩ := mBd_some hm
    split at h2
    · rename_i p1 ds e1
      split at h2
      · rename_i k
        obtain ⟨h3, e3⟩ := mL_some h2
        subst e3
        obtain ⟨a, ha, _⟩ := S.own e0
        refine ⟨_, ha, hb M σ H ρ S _ _ h1 _ fun M1 w H1 E1 S1 dw => ?_⟩
        cases dw
        obtain ⟨a', ha', _, _, o, ho, hc⟩ := S1.own e1
        rw [ha] at ha'; cases ha'
        cases hc with
        | lst hx =>
          obtain ⟨v, hv, dv⟩ := atI_dat hx h3
          exact .inr ⟨_, _, _, k, v, rfl, rfl, SqL.of ho, rfl, hv, q M1 v H1 E1 S1 dv⟩
      · cases h2
    · cases h2
  · obtain ⟨x, ρ1, h1, hm⟩ := mBd_some hm
    obtain ⟨y, ρ2, h2, hm⟩ := mBd_some hm
    obtain ⟨hg, rfl⟩ := mL_some hm
    refine r_var i M σ H ρ S x ρ1 h1 _ fun M1 v H1 E1 S1 d1 => hb M1 σ H1 ρ1 S1 y _ h2 _ fun M2 w H2 E2 S2 d2 => ?_
    exact .inl ⟨M2, x, y, d, S2.kind, d1.ev S1.kind E2.ev, d2, hg, fun u H3 s h => q M2 u H3 ((E1.trans E2 S.kind).trans (.same s) S.kind) (S2.same s) h⟩
section
variable {X : Cx} {K : PySem.W.Frag} {c : Ctx K} {a b e : Expr} {es : List Expr} {pos : Pos} {ta tb tc : TE} {ma mb mc : Mo D}
theorem d_ixV (i : Nat) {x : Str} {p : Pos} (hb : DE X c b tb mb) (hs : PlainIx b) (hN : X.N[i]? = some x := by rfl) (hv : Vis X.env.scope x := by first | exact Or.inl rfl | exact Or.inr (Or.inl rfl) | exact Or.inr (Or.inr rfl)) (hd : (x == ("__debug__" : Str)) = false := by decide)
    (hcd : (x == ("__classdict__" : Str)) = false := by decide) (hK : X.K = K := by rfl) : DE X c (.Subscript (.Name x p) b pos) (tOp (rIxO K) (tVar i) tb) (mIxV i mb) := ⟨by rw [← hK]; exact pe_ix ix_OWN (pv i hN hv hd hcd) hb.p hs, r_ixV hb.r⟩
theorem d_tcmpRt {op : CmpOp} {g : D → D → Option D} (i : Nat) {x : Str} {p : Pos} (ho : OpR X (compareOp op) (rD X.K g)) (ha : DE X c a ta ma) (hm : behindInMarks op (.Name x p) = false) (hN : X.N[i]? = some x := by rfl) (hv : Vis X.env.scope x := by first | exact Or.inl rfl | exact Or.inr (Or.inl rfl) | exact Or.inr (Or.inr rfl)) (hd : (x == ("__debug__" : Str)) = false := by decide)
    (hcd : (x == ("__classdict__" : Str)) = false := by decide) (hK : X.K = K := by rfl) : DT X c (.Compare a [op] [.Name x p] pos) (tTest (tOp (rD K g) ta (tVar i))) (mTst (mOpRt g ma i)) := ⟨by rw [← hK]; exact pt_cmpR ho ha.p (pv i hN hv hd hcd) hm, r_test (r_opRt ha.r)⟩
theorem d_bltP {x y : Str} {id : String} {g : List D → Option D} {p p2 : Pos} (i : Nat) (hc : CallR X (.builtin id) (rC X.K g)) (hm : X.mg x = none) (hv : bootBuiltins x = some (.builtin id)) (hg : Gl X x := by rfl) (hn : x ≠ "__name__" := by decide) (hdb : (x == ("__debug__" : Str)) = false := by decide)
    (he : starEach [.Name y p2] X.env = (false, eval (.Name y p2) X.env) :: starEach [] X.env := by rfl) (hpl : (backTo pos (starEach [] X.env)).any (·.1) = false := by rfl)
    (hN : X.N[i]? = some y := by rfl) (hv' : Vis X.env.scope y := by first | exact Or.inl rfl | exact Or.inr (Or.inl rfl) | exact Or.inr (Or.inr rfl)) (hd : (y == ("__debug__" : Str)) = false := by decide)
    (hcd : (y == ("__classdict__" : Str)) = false := by decide) (hK : X.K = K := by rfl) : DE X c (.Call (.Name x p) [.Name y p2] [] pos) (tCB (rC K g) (tCons (tVar i) tNil)) (mFnP g i) := ⟨by rw [← hK]; exact pe_callB hc hg hm hv (pa_cons (pv i hN hv' hd hcd) pa_nil he) hn hdb he hpl, r_fnP⟩
end
section
variable {X : Cx} {K : PySem.W.Frag} {c : Ctx K} {a b e st : Expr} {es : List Expr} {pos pos' : Pos} {te : TE} {me : Mo D} {t u : TS} {m k : Mo Fl} {tt : TT} {mt : Mo Bool} {tl : TA} {ml : Mo (List D)} {g : TG} {mg : D → Mo Unit} {gs : TGs} {ms : List D → Mo Unit} {wi : TI} {mi : Mo (List D)}
theorem b_nil : DB X c [] tNext sNx := ⟨pss_nil, r_nx⟩
theorem b_cons {s : Stmt} {rest : List Stmt} (h : DS X c s t m) (hr : DB X c rest u k) : DB X c (s :: rest) (tSeq t u) (sSeq m k) := ⟨pss_cons h.p hr.p, r_seq h.r hr.r⟩
theorem b_one {s : Stmt} (h : DS X c s t m) : DB X c [s] t m := ⟨pss_one h.p, h.r⟩
theorem s_never {s : Stmt} : DS X c s tNever sNo := ⟨ps_never, r_never⟩
theorem s_expr (h : DE X c e te me) (hs : swapsWith e none pos.line X.env = pure false := by rfl) : DS X c (.Expr e pos) (tDrop te) (sDrop me) := ⟨ps_expr h.p hs, r_drop h.r⟩
theorem s_ret (h : DE X c e te me) : DS X c (.Return (some e) pos) (tRet te) (sRet me) := ⟨ps_ret h.p, r_ret h.r⟩
theorem s_retNew (h : DN X c e te me) : DS X c (.Return (some e) pos) (tRet te) (sRetNew me) := ⟨ps_ret h.p, r_retNew h.r⟩
theorem s_if {x : Expr} {p q : List Stmt} (ht : DT X c x tt mt) (ha : DB X c p t m) (hb : DB X c q u k) : DS X c (.If x p q pos) (tIfS tt t u) (sIf mt m k) := ⟨ps_if ht.p ha.p hb.p, r_ifS ht.r ha.r hb.r⟩
theorem s_set {i : Nat} {x : Str} (hN : X.N.Nodup) (hi : X.N[i]? = some x) (hx : Loc X.env.scope x) (he : DE X c e te me) (hs : swapsWith e (some (.Name x pos')) pos.line X.env = pure false := by rfl) (hf : X.fn x = true ∨ X.env.scope.names.lookup x = some .local := by first | exact .inl rfl | exact .inr rfl | assumption) :
    DS X c (.Assign [.Name x pos'] e pos) (tAsg te (gName i)) (sSet i me) := ⟨ps_set hN hi hx he.p hs hf, r_set he.r i⟩
theorem s_setN {i : Nat} {x : Str} (hN : X.N.Nodup) (hi : X.N[i]? = some x) (hx : Loc X.env.scope x) (he : DN X c e te me) (hs : swapsWith e (some (.Name x pos')) pos.line X.env = pure false := by rfl) (hf : X.fn x = true ∨ X.env.scope.names.lookup x = some .local := by first | exact .inl rfl | exact .inr rfl | assumption) :
    DS X c (.Assign [.Name x pos'] e pos) (tAsg te (gName i)) (sSetN i me) := ⟨ps_set hN hi hx he.p hs hf, r_setN he.r i⟩
theorem s_asg {tg : Expr} (he : DE X c e te me) (hg : DG X c tg g mg) (hs : swapsWithSole [tg] e pos.line X.env = pure false := by rfl) (hw : swappedStores [tg] e X.env = pure none := by rfl)
    (h1 : (assignEach [tg] X.env).map (·.2) = [assign tg X.env] := by rfl) : DS X c (.Assign [tg] e pos) (tAsg te g) (sAsg me mg) := ⟨ps_asg he.p hg.p hs hw h1, r_asg he.r hg.r⟩
/-- i, j = a, b -/
theorem s_par {fs : List Bool} {i j : Nat} {x y : Str} {px py pt : Pos} {kt k2 pt2} (hc : X.calm = true) (hN : X.N.Nodup) (hi : X.N[i]? = some x) (hj : X.N[j]? = some y) (hij : i ≠ j)
    (hx : X.env.scope.names.lookup x = some .local) (hy : X.env.scope.names.lookup y = some .local) (ha : DF X c [a, b] tl fs ml)
    (hw : swappedStores [.Tuple [.Name x px, .Name y py] kt pt] (.Tuple [a, b] k2 pt2) X.env = pure (some [x, y]))
    (hs : swapsWithSole [.Tuple [.Name x px, .Name y py] kt pt] (.Tuple [a, b] k2 pt2) pos.line X.env = pure false := by rfl) :
    DS X c (.Assign [.Tuple [.Name x px, .Name y py] kt pt] (.Tuple [a, b] k2 pt2) pos) (tPar i j tl) (sPar [i, j] fs ml) := ⟨ps_par hc hN hi hj hij hx hy ha.p hw hs, r_par2 ha.r⟩
theorem s_for {tg iter : Expr} {body : List Stmt} (hp : PassesOwn (model X.prog X.w) X.A X.env X.xe) (hc : X.calm = true) (hi : DI X c tg iter wi mi) (hg : DG X c tg g mg) (hb : DB X c body t m)
    (hs : ∀ x, foldedSetIterable iter X.env x = pure x := by intro _; rfl) : DS X c (.For tg iter body [] pos) (tFor wi g t) (sFor mi mg m) := ⟨ps_for hp hc hi.p hg.p hb.p hs, r_for hi.r hg.r hb.r⟩
theorem s_while {x : Expr} {body : List Stmt} (n : Cs → Nat) (hp : PassesOwn (model X.prog X.w) X.A X.env X.xe) (ht : DT X c x tt mt) (hb : DB X c body t m) : DS X c (.While x body [] pos) (tWhile tt t) (sWh n mt m) := ⟨ps_while hp ht.p hb.p, r_while n ht.r hb.r⟩
theorem f_nil : DF X c [] tNil [] aNil := ⟨pa_nil, r_fnil⟩
theorem f_dat {fs : List Bool} (he : DE X c e te me) (hr : DF X c es tl fs ml) (hs : starEach (e :: es) X.env = (false, eval e X.env) :: starEach es X.env := by rfl) : DF X c (e :: es) (tCons te tl) (false :: fs) (aCons me ml) := ⟨pa_cons he.p hr.p hs, r_fdat he.r hr.r⟩
theorem f_new {fs : List Bool} (he : DN X c e te me) (hr : DF X c es tl fs ml) (hs : starEach (e :: es) X.env = (false, eval e X.env) :: starEach es X.env := by rfl) : DF X c (e :: es) (tCons te tl) (true :: fs) (aCons me ml) := ⟨pa_cons he.p hr.p hs, r_fnew he.r hr.r⟩
theorem g_name {i : Nat} {x : Str} (hN : X.N.Nodup) (hi : X.N[i]? = some x) (hx : Loc X.env.scope x) (hf : X.fn x = true ∨ X.env.scope.names.lookup x = some .local := by first | exact .inl rfl | exact .inr rfl | assumption) : DG X c (.Name x pos) (gName i) (gNm i) := ⟨pg_name hN hi hx hf, r_gname i⟩
theorem gs_nil : DGs X c [] gNil gsNil := ⟨pgs_nil, r_gnil⟩
theorem gs_cons (h1 : DG X c e g mg) (h2 : DGs X c es gs ms) (hs : (assignEach (e :: es) X.env).map (·.2) = assign e X.env :: (assignEach es X.env).map (·.2) := by rfl) : DGs X c (e :: es) (gCons g gs) (gsCons mg ms) := ⟨pgs_cons h1.p h2.p hs, r_gcons h1.r h2.r⟩
theorem g_tup {k : Nat} {n : Nat} (hc : X.calm = true) (h : DGs X c es gs ms) (hn : (assignEach es X.env).length = n := by rfl) (hst : (assignEach es X.env).findIdx? (·.1) = none := by rfl) (hK : X.K = K := by rfl) :
    DG X c (.Tuple es k pos) (gTup K n gs) (gTp n ms) := ⟨by rw [← hK]; exact pg_tup hc h.p hn hst, r_gtup h.r⟩
theorem i_list {tg : Expr} (h : DE X c e te me) (hK : X.K = K := by rfl) : DI X c tg e (iList K te) (iSeq seqL me) := ⟨by rw [← hK]; exact pi_list h.p, r_ilist h.r⟩
theorem i_tup {tg : Expr} (h : DE X c e te me) (hK : X.K = K := by rfl) : DI X c tg e (iTup K te) (iSeq seqT me) := ⟨by rw [← hK]; exact pi_tup h.p, r_itup h.r⟩
theorem i_rng1 {tg : Expr} {p : Pos} (hm : X.mg "range" = none) (ha : DA X c [a] tl ml) (hg : Gl X "range" := by rfl) (hs : starEach [a] X.env = [(false, eval a X.env)] := by rfl) : DI X c tg (.Call (.Name "range" p) [a] [] pos) (iRng1 tl) (iFn rng1? ml) := ⟨pi_range1 hg hm ha.p hs, r_irng1 ha.r⟩
end
end DL
set_option autoImplicit false
namespace DL
open PySem PySem.Spec PyProof.Rows L2
abbrev ctx (K : PySem.W.Frag) (M0 P : Addr → Prop) (H0 : Hp) : Ctx K := ⟨M0, P, H0⟩
def cells (ds : List D) (n : Nat) : Cs := ds.map .dat ++ List.replicate n .no
def fin1 : Option (Fl × Cs) → Option D
  | some (.rt d, _) => some d
  | some (.rn d, _) => some d
  | some (.nx, _) => some .non
  | _ => none
/-- m parameters, n more slots -/
def runF (m n : Nat) (b : Mo Fl) (ds : List D) : Option D := if ds.length = m then fin1 (b (cells ds n)) else none
def own0 : Cs → Option D
  | .own true d :: _ => some d
  | _ => none
def fin2 : Option (Fl × Cs) → Option (D × D)
  | some (.rt d, ρ) => (own0 ρ).map fun e => (d, e)
  | some (.rn d, ρ) => (own0 ρ).map fun e => (d, e)
  | some (.nx, ρ) => (own0 ρ).map fun e => (.non, e)
  | _ => none
/-- the first parameter may be changed -/
def runO (m n : Nat) (b : Mo Fl) (d0 : D) (ds : List D) : Option (D × D) := if ds.length + 1 = m then fin2 (b (.own true d0 :: cells ds n)) else none
def fin3 : Option (Fl × Cs) → Option D
  | some (.rn d, _) => some d
  | _ => none
/-- the value is a new object, the caller's own -/
def runN (m n : Nat) (b : Mo Fl) (ds : List D) : Option D := if ds.length = m then fin3 (b (cells ds n)) else none
def spF (K : PySem.W.Frag) (m : Nat) (F : List D → Option D) : Sp := fun vs H Q _ => ∃ M ds d, Kind M H ∧ DatAll K M H vs ds ∧ ds.length = m ∧ F ds = some d ∧ ∀ u H', Same H H' → Dat K M H' u d → Q u H'
def spN (K : PySem.W.Frag) (m : Nat) (F : List D → Option D) : Sp := fun vs H Q _ => ∃ M ds d, Kind M H ∧ DatAll K M H vs ds ∧ ds.length = m ∧ F ds = some d ∧ ∀ a H' o, H a = none → Same H H' → H' a = some o → Cont K (fun b => M b ∨ b = a) H' o d → Q (.ref a) H'
def spO (K : PySem.W.Frag) (m : Nat) (F : D → List D → Option (D × D)) : Sp := fun vs H Q _ => ∃ M a d0 xs ds r d1, vs = .ref a :: xs ∧ Kind M H ∧ M a ∧ Own K M H a d0 ∧ DatAll K M H xs ds ∧ ds.length + 1 = m ∧ F d0 ds = some (r, d1) ∧
  ∀ u H', (∀ b o, b ≠ a → H b = some o → H' b = some o) → Own K M H' a d1 → Dat K M H' u r → Q u H'
section
variable {K : PySem.W.Frag} {M : Addr → Prop} {H : Hp} {vs : List V} {ds : List D} {N : List Str} {t : TS} {b : Mo Fl} {m n : Nat} {Q : VK} {E : XK}
theorem cells_len : (cells ds n).length = ds.length + n := by simp [cells]
theorem cells_lt {i : Nat} {d : D} (h : ds[i]? = some d) : (cells ds n)[i]? = some (.dat d) := by
  have hl := (List.getElem?_eq_some_iff.mp h).1
  unfold cells
  rw [List.getElem?_append_left (by simpa using hl)]
  simp [h]
theorem cells_ge {i : Nat} {x : Cell} (hi : ds.length ≤ i) (h : (cells ds n)[i]? = some x) : x = .no := by
  unfold cells at h
  rw [List.getElem?_append_right (by simpa using hi)] at h
  rw [List.getElem?_replicate] at h
  exact (if_some h).2.symm
theorem start_lt {i : Nat} {v : V} (h : vs[i]? = some v) : (start N vs)[i]? = some (some v) := by
  have hl := (List.getElem?_eq_some_iff.mp h).1
  unfold L2.start
  rw [List.getElem?_append_left (by simpa using hl)]
  simp [h]
theorem start_len (h : vs.length ≤ N.length) : (start N vs).length = N.length := by
  unfold L2.start
  simp; omega
/-- the state at a def's entry -/
theorem sta_start (k : Kind M H) (h : DatAll K M H vs ds) (hn : N.length = ds.length + n) : Sta (ctx K M (fun _ => False) H) M (start N vs) H (cells ds n) := by
  refine ⟨fun _ z => z.elim, fun _ z => z, fun b z w => absurd z w, k, fun _ _ _ z => z, ?_, fun i x y h1 h2 => ?_, fun i j a p q d e a1 a2 a3 a4 => ?_⟩
  · rw [cells_len, start_len (by rw [h.length]; omega), hn]
  · cases hd : ds[i]? with
    | some d =>
      obtain ⟨v, hv, hdv⟩ := h.getD hd
      rw [start_lt hv] at h1
      rw [cells_lt hd] at h2
      cases h1; cases h2
      exact .dat hdv
    | none =>
      obtain rfl := cells_ge (List.getElem?_eq_none_iff.mp hd) h2
      exact .no _
  · exfalso
    cases hd : ds[i]? with
    | some d => rw [cells_lt hd] at a2; cases a2
    | none => cases cells_ge (List.getElem?_eq_none_iff.mp hd) a2
theorem sta_startO {a : Addr} {d0 : D} (k : Kind M H) (hM : M a) (ho : Own K M H a d0) (h : DatAll K M H vs ds) (hn : N.length = ds.length + 1 + n) : Sta (ctx K M (fun b => b = a) H) M (start N (.ref a :: vs)) H (.own true d0 :: cells ds n) := by
  have ne : ∀ {i : Nat} {p : Bool} {d : D}, (Cell.own true d0 :: cells ds n)[i]? = some (.own p d) → i = 0 := fun {i p d} z => by
    cases i with
    | zero => rfl
    | succ i =>
      rw [List.getElem?_cons_succ] at z
      cases hd : ds[i]? with
      | some d => rw [cells_lt hd] at z; cases z
      | none => cases cells_ge (List.getElem?_eq_none_iff.mp hd) z
  refine ⟨fun b z => by rw [show b = a from z]; exact hM, fun _ z => z, fun b z w => absurd z w, k, fun _ _ _ z => z, ?_, fun i x y h1 h2 => ?_, fun i j a p q d e a1 a2 a3 a4 => by rw [ne a2, ne a4]⟩
  · rw [List.length_cons, cells_len, start_len (by rw [List.length_cons, h.length]; omega), hn]; omega
  · cases i with
    | zero =>
      rw [start_lt (v := .ref a) (by rfl)] at h1
      cases h1; cases h2
      exact .own hM (by simp) ho
    | succ i =>
      rw [List.getElem?_cons_succ] at h2
      cases hd : ds[i]? with
      | some d =>
        obtain ⟨v, hv, hdv⟩ := h.getD hd
        rw [start_lt (v := v) (by simpa using hv)] at h1
        rw [cells_lt hd] at h2
        cases h1; cases h2
        exact .dat hdv
      | none =>
        obtain rfl := cells_ge (List.getElem?_eq_none_iff.mp hd) h2
        exact .no _
theorem own0_some {ρ : Cs} {d : D} (h : own0 ρ = some d) : ρ[0]? = some (.own true d) := by
  unfold own0 at h
  split at h
  · cases h; rfl
  · cases h
theorem run_F (hn : N.length = m + n) (h : ∀ (M0 : Addr → Prop) (P : Addr → Prop) (H0 : Hp), RSt (ctx K M0 P H0) t b) (sp : spF K m (runF m n b) vs H Q E) : t { nx := fun _ H' => Q .non H', rt := Q } (start N vs) H := by
  obtain ⟨M, ds, d, k, hd, hl, hF, q⟩ := sp
  have hF := (if_pos hl).symm.trans hF
  have S := sta_start (N := N) (n := n) k hd (by rw [hl]; exact hn)
  have sm : ∀ {M' : Addr → Prop} {σ' : L2.St} {H' : Hp} {ρ' : Cs}, Sta (ctx K M (fun _ => False) H) M' σ' H' ρ' → Same H H' := fun S b o z => S.base b o id z
  cases e : b (cells ds n) with
  | none => rw [e] at hF; cases hF
  | some r =>
    obtain ⟨f, ρ'⟩ := r
    rw [e] at hF
    refine h M _ H M _ H _ S f ρ' e _ ?_
    cases f with
    | nx => cases hF; exact fun M' σ' H' _ S' => q _ H' (sm S') .non
    | rt r => cases hF; exact fun M' σ' v H' _ S' hv => q v H' (sm S') (hv.less S'.sub)
    | rn r => cases hF; exact fun M' σ' a H' _ S' nw => (nw.give S').elim fun _ z => q _ H' (sm S') (z.2.less fun b hb => ⟨S'.sub b hb, fun w => nw.n0 (by rw [← w]; exact hb)⟩)
    | bk => cases hF
    | ct => cases hF
theorem run_N (hn : N.length = m + n) (h : ∀ (M0 : Addr → Prop) (P : Addr → Prop) (H0 : Hp), RSt (ctx K M0 P H0) t b) (sp : spN K m (runN m n b) vs H Q E) : t { nx := fun _ H' => Q .non H', rt := Q } (start N vs) H := by
  obtain ⟨M, ds, d, k, hd, hl, hF, q⟩ := sp
  have hF := (if_pos hl).symm.trans hF
  have S := sta_start (N := N) (n := n) k hd (by rw [hl]; exact hn)
  cases e : b (cells ds n) with
  | none => rw [e] at hF; cases hF
  | some r =>
    obtain ⟨f, ρ'⟩ := r
    rw [e] at hF
    refine h M _ H M _ H _ S f ρ' e _ ?_
    cases f with
    | rn r =>
      cases hF
      intro M' σ' a H' _ S' nw
      obtain ⟨o, ho, hc⟩ := nw.o
      exact q a H' o nw.h0 (fun b o z => S'.base b o id z) ho (hc.less fun b hb => hb.elim (S'.sub b) fun z => by rw [z]; exact nw.m)
    | nx => cases hF
    | rt r => cases hF
    | bk => cases hF
    | ct => cases hF
theorem run_O (hn : N.length = m + n) (h : ∀ (M0 : Addr → Prop) (P : Addr → Prop) (H0 : Hp), RSt (ctx K M0 P H0) t b) (sp : spO K m (runO m n b) vs H Q E) : t { nx := fun _ H' => Q .non H', rt := Q } (start N vs) H := by
  obtain ⟨M, a, d0, xs, ds, r0, d1, rfl, k, hM, ho, hd, hl, hF, q⟩ := sp
  have hF := (if_pos hl).symm.trans hF
  have S := sta_startO (N := N) (n := n) k hM ho hd (by rw [hl]; exact hn)
  have fin : ∀ {M' : Addr → Prop} {σ' : L2.St} {H' : Hp} {ρ' : Cs} {e : D}, Sta (ctx K M (fun b => b = a) H) M' σ' H' ρ' → own0 ρ' = some e → (∀ b o, b ≠ a → H b = some o → H' b = some o) ∧ Own K M H' a e := fun {M' σ' H' ρ' e} S' w => by
    obtain ⟨a', _, _, hp, o, ho', hc⟩ := S'.own (own0_some w)
    have ea : a' = a := by simpa using hp
    subst ea
    exact ⟨fun b o ne z => S'.base b o (fun z => ne z) z, o, ho', hc.less S'.sub⟩
  cases e : b (.own true d0 :: cells ds n) with
  | none => rw [e] at hF; cases hF
  | some r =>
    obtain ⟨f, ρ'⟩ := r
    rw [e] at hF
    refine h M _ H M _ H _ S f ρ' e _ ?_
    cases f with
    | nx =>
      obtain ⟨x, hx, ex⟩ := map_some (show (own0 ρ').map _ = _ from hF)
      cases ex
      exact fun M' σ' H' _ S' => q _ H' (fin S' hx).1 (fin S' hx).2 .non
    | rt r =>
      obtain ⟨x, hx, ex⟩ := map_some (show (own0 ρ').map _ = _ from hF)
      cases ex
      exact fun M' σ' v H' _ S' hv => q v H' (fin S' hx).1 (fin S' hx).2 (hv.less S'.sub)
    | rn r =>
      obtain ⟨x, hx, ex⟩ := map_some (show (own0 ρ').map _ = _ from hF)
      cases ex
      exact fun M' σ' a H' _ S' nw => (nw.give S').elim fun _ z => q _ H' (fin S' hx).1 (fin S' hx).2 (z.2.less fun b hb => ⟨S'.sub b hb, fun w => nw.n0 (by rw [← w]; exact hb)⟩)
    | bk => cases hF
    | ct => cases hF
end
section
variable {P : Program} {w : World} {K : PySem.W.Frag} {mg : Str → Option Value} {base : Heap} {x qual : Str} {st : Stmt} {f : Addr} {fd : FuncData} {N ps : List Str} {k m n : Nat} {b : Mo Fl}
/-- a body's derivation, for whatever the callers own -/
def BodyD (P : Program) (w : World) (K : PySem.W.Frag) (mg : Str → Option Value) (base : Heap) (qual : Str) (st : Stmt) (f : Addr) (N : List Str) (k : Nat) (b : Mo Fl) : Prop :=
  ∀ (cdv : Value) (A : Around) (outer : List Env) (s : Shared) (H : Hp) (E : XK), Room k (A.deeper (envOfC qual (defScope st) s.heap.objs.size f cdv)) →
    ∃ t, ∀ (M0 : Addr → Prop) (P0 : Addr → Prop) (H0 : Hp), DB (cxOf CX0 P w K mg base N qual (defScope st) f cdv A outer s H E).nox (ctx K M0 P0 H0) (defBody st) t b
/-- .. where no repr is under way -/
def BodyG (P : Program) (w : World) (K : PySem.W.Frag) (mg : Str → Option Value) (base : Heap) (qual : Str) (st : Stmt) (f : Addr) (N : List Str) (k : Nat) (b : Mo Fl) : Prop :=
  ∀ (cdv : Value) (A : Around) (outer : List Env) (s : Shared) (H : Hp) (E : XK), A.guards = some [] → Room k (A.deeper (envOfC qual (defScope st) s.heap.objs.size f cdv)) →
    ∃ t, ∀ (M0 : Addr → Prop) (P0 : Addr → Prop) (H0 : Hp), DB (cxOf CX0 P w K mg base N qual (defScope st) f cdv A outer s H E).nox (ctx K M0 P0 H0) (defBody st) t b
theorem okF (F : Fun K x qual st f fd) (S : FnScope N ps (defScope st)) (hm : ps.length = m) (hn : N.length = m + n) (B : BodyD P w K mg base qual st f N k b) : FnOk P w K mg base CX0 (k + 1) f fd ps (spF K m (runF m n b)) := by
  refine F.ok S (fun vs H Q E h => ?_) (fun cdv A outer s H vs Q E hr h => ?_)
  · obtain ⟨M, ds, d, _, hd, hl, _⟩ := h
    rw [hd.length, hl, hm]
  · obtain ⟨t, d⟩ := B cdv A outer s H E hr
    exact ⟨t, (d (fun _ => False) (fun _ => False) H).p, run_F hn (fun M0 P0 H0 => (d M0 P0 H0).r) h⟩
theorem okN (F : Fun K x qual st f fd) (S : FnScope N ps (defScope st)) (hm : ps.length = m) (hn : N.length = m + n) (B : BodyD P w K mg base qual st f N k b) : FnOk P w K mg base CX0 (k + 1) f fd ps (spN K m (runN m n b)) := by
  refine F.ok S (fun vs H Q E h => ?_) (fun cdv A outer s H vs Q E hr h => ?_)
  · obtain ⟨M, ds, d, _, hd, hl, _⟩ := h
    rw [hd.length, hl, hm]
  · obtain ⟨t, d⟩ := B cdv A outer s H E hr
    exact ⟨t, (d (fun _ => False) (fun _ => False) H).p, run_N hn (fun M0 P0 H0 => (d M0 P0 H0).r) h⟩
theorem okO (F : Fun K x qual st f fd) (S : FnScope N ps (defScope st)) (hm : ps.length = m) (hn : N.length = m + n) (B : BodyD P w K mg base qual st f N k b) : FnOk P w K mg base CX0 (k + 1) f fd ps (spO K m (runO m n b)) := by
  refine F.ok S (fun vs H Q E h => ?_) (fun cdv A outer s H vs Q E hr h => ?_)
  · obtain ⟨M, a, d0, xs, ds, r, d1, rfl, _, _, _, hd, hl, _⟩ := h
    rw [List.length_cons, hd.length, hl, hm]
  · obtain ⟨t, d⟩ := B cdv A outer s H E hr
    exact ⟨t, (d (fun _ => False) (fun _ => False) H).p, run_O hn (fun M0 P0 H0 => (d M0 P0 H0).r) h⟩
theorem bodyN {sp : Sp} (F : Fun K x qual st f fd) (S : FnScope N ps (defScope st)) (len : ∀ vs H Q E, sp vs H Q E → vs.length = ps.length) (B : BodyG P w K mg base qual st f N k b)
    (h : ∀ (t : TS) vs H Q E, (∀ (M0 : Addr → Prop) (P0 : Addr → Prop) (H0 : Hp), RSt (ctx K M0 P0 H0) t b) → sp vs H Q E → t { nx := fun _ H' => Q .non H', rt := Q } (start N vs) H) : FnG P w K mg base CX0 (k + 1) f fd ps sp := by
  refine F.okG S len fun cdv A outer s H vs Q E hg hr hsp => ?_
  obtain ⟨t, d⟩ := B cdv A outer s H E hg hr
  exact ⟨t, (d (fun _ => False) (fun _ => False) H).p.nox, h t vs H Q E (fun M0 P0 H0 => (d M0 P0 H0).r) hsp⟩
theorem okFG (F : Fun K x qual st f fd) (S : FnScope N ps (defScope st)) (hm : ps.length = m) (hn : N.length = m + n) (B : BodyG P w K mg base qual st f N k b) : FnG P w K mg base CX0 (k + 1) f fd ps (spF K m (runF m n b)) := by
  refine bodyN F S (fun vs H Q E h => ?_) B fun t vs H Q E hr h => run_F hn hr h
  obtain ⟨M, ds, d, _, hd, hl, _⟩ := h
  rw [hd.length, hl, hm]
theorem okOG (F : Fun K x qual st f fd) (S : FnScope N ps (defScope st)) (hm : ps.length = m) (hn : N.length = m + n) (B : BodyG P w K mg base qual st f N k b) : FnG P w K mg base CX0 (k + 1) f fd ps (spO K m (runO m n b)) := by
  refine bodyN F S (fun vs H Q E h => ?_) B fun t vs H Q E hr h => run_O hn hr h
  obtain ⟨M, a, d0, xs, ds, r, d1, rfl, _, _, _, hd, hl, _⟩ := h
  rw [List.length_cons, hd.length, hl, hm]
end
end DL
namespace L2
open PySem PySem.Spec PyProof.Rows
def tyName : PyData → String
  | .none => "NoneType" | .bool _ => "bool" | .int _ => "int" | .str _ => "str" | .list _ => "list" | .tuple _ => "tuple" | .dict _ => "dict"
section
variable {K : PySem.W.Frag} {p : Addr} {H H' : Hp} {x : V} {d : PyData} {Q : VK}
theorem ty_list {a : Addr} {xs : List V} (h : SqL K H a xs) : TyX K H (.ref a) (.type "list") := by
  rcases h with (h | ⟨o, h⟩) | ⟨o, its, n, h, c, _⟩
  · exact .base (.lst h)
  · exact .base (.frz h)
  · exact .kList h c
theorem ty_tup {a : Addr} {xs : List V} (h : SqT K H a xs) : TyX K H (.ref a) (.type "tuple") := by
  rcases h with (h | ⟨o, h⟩) | ⟨o, its, n, h, c, _⟩
  · exact .base (.tup h)
  · exact .fTuple h
  · exact .kTuple h c
theorem Dn.ty (h : Dn K p H x d) : TyX K H x (.type (tyName d)) := by
  cases h with
  | non => exact .base .non
  | bl b => exact .base (.bl b)
  | int i => exact .base (.int i)
  | str y _ => exact .base (.str y)
  | lst _ h _ => exact ty_list h
  | tup h _ => exact ty_tup h
  | dic h _ _ => exact .base (.dK h)
end
def getI : PyData → Int | .int i => i | _ => 0
def btw (d : PyData) (lo hi : Int) : Bool := match d with | .int i => decide (lo ≤ i ∧ i ≤ hi) | _ => false
def letters : Str := "abcdefghijklmnopqrstuvwxyz"
def alnums : Str := "abcdefghijklmnopqrstuvwxyz0123456789"
def headOk (x : Str) : Bool := match x.cps.toList with | c :: _ => decide (c ∈ letters.cps.toList) | [] => false
def nameOk (x : Str) : Bool := (decide (1 ≤ x.length) && decide (x.length ≤ 8)) && (headOk x && x.cps.toList.all fun c => decide (c ∈ alnums.cps.toList))
def isName : PyData → Bool | .str x => nameOk x | _ => false
def isWord (d : PyData) (ws : List Str) : Bool := match d with | .str x => ws.contains x | _ => false
def isStretch (d : PyData) (lo hi : Int) : Bool := match d with | .tuple [a, b] => btw a lo hi && btw b (getI a + 1) hi | _ => false
def sndI : PyData → Int | .tuple [_, b] => getI b | _ => 0
def touchesFrom (hi : Int) : List PyData → Int → Bool
  | [], _ => true
  | d :: r, lo => isStretch d lo hi && touchesFrom hi r (sndI d + 1)
def touchesOk (d : PyData) (lo hi : Int) : Bool := match d with | .tuple ds => decide (ds.length ≤ 6) && touchesFrom hi ds lo | _ => false
def modes : List Str := ["write", "latch", "touch", "trim"]
def tails : List Str := ["stop", "on"]
def isOld : PyData → Bool | .str x => decide (x = "old") | _ => false
def isPass (L : Int) (d : PyData) : Bool := match d with
  | .tuple [n, m, f, t, u, g, e] => (isName n && !isOld n) && ((isWord m modes && isWord e tails) && (isStretch (.tuple [f, t]) 0 L && (touchesOk u (getI f) (getI t) && btw g 0 100)))
  | _ => false
def nameOf : PyData → Str | .tuple (.str x :: _) => x | _ => ""
def firstWrong (L : Int) : List PyData → Nat → List Str → Option Nat
  | [], _, _ => none
  | d :: r, i, ns => if decide (8 ≤ i) || (!isPass L d || ns.contains (nameOf d)) then some i else firstWrong L r (i + 1) (ns ++ [nameOf d])
def plOf (x : Str) : List PyData → Nat → Option Nat
  | [], _ => none
  | d :: r, i => if nameOf d = x then some i else plOf x r (i + 1)
/-- data whose outermost tuple may stand anywhere -/
def Dt (K : PySem.W.Frag) (p : Addr) (H : Hp) (x : V) (d : PyData) : Prop := Dn K p H x d ∨ ∃ a xs ds, x = .ref a ∧ d = .tuple ds ∧ SqT K H a xs ∧ DnAll K p H xs ds
theorem Dt.ty {K : PySem.W.Frag} {p : Addr} {H : Hp} {x : V} {d : PyData} (h : Dt K p H x d) : TyX K H x (.type (tyName d)) := by
  rcases h with h | ⟨a, xs, ds, rfl, rfl, h, _⟩
  · exact h.ty
  · exact ty_tup h
end L2
namespace L2
open PySem PySem.Spec PyProof.Rows
theorem DnAll.c1 {K : PySem.W.Frag} {p : Addr} {H : Hp} {xs : List V} {d : PyData} {ds : List PyData} (h : DnAll K p H xs (d :: ds)) : ∃ v r, xs = v :: r ∧ Dn K p H v d ∧ DnAll K p H r ds := by
  cases h with
  | cons a b => exact ⟨_, _, rfl, a, b⟩
theorem DnAll.c0 {K : PySem.W.Frag} {p : Addr} {H : Hp} {xs : List V} (h : DnAll K p H xs []) : xs = [] := by
  cases h
  rfl
theorem DnAll.seven {K : PySem.W.Frag} {p : Addr} {H : Hp} {xs : List V} {a b c d e f g : PyData} (h : DnAll K p H xs [a, b, c, d, e, f, g]) :
    ∃ x1 x2 x3 x4 x5 x6 x7, xs = [x1, x2, x3, x4, x5, x6, x7] ∧ Dn K p H x1 a ∧ Dn K p H x2 b ∧ Dn K p H x3 c ∧ Dn K p H x4 d ∧ Dn K p H x5 e ∧ Dn K p H x6 f ∧ Dn K p H x7 g := by
  obtain ⟨x1, r, rfl, h1, h⟩ := h.c1
  obtain ⟨x2, r, rfl, h2, h⟩ := h.c1
  obtain ⟨x3, r, rfl, h3, h⟩ := h.c1
  obtain ⟨x4, r, rfl, h4, h⟩ := h.c1
  obtain ⟨x5, r, rfl, h5, h⟩ := h.c1
  obtain ⟨x6, r, rfl, h6, h⟩ := h.c1
  obtain ⟨x7, r, rfl, h7, h⟩ := h.c1
  obtain rfl := h.c0
  exact ⟨x1, x2, x3, x4, x5, x6, x7, rfl, h1, h2, h3, h4, h5, h6, h7⟩
end L2
namespace L2
open PySem PySem.Spec PyProof.Rows
end L2
namespace L2
open PySem PySem.Spec PyProof.Rows
def Trk (K : PySem.W.Frag) (C p x : Addr) (H : Hp) (L : Int) (ds : List PyData) : Prop :=
  ∃ dx t, H x = some (.ins C dx [("_length", .int L), ("_passes", .ref t)]) ∧ Dn K p H (.ref t) (.tuple ds) ∧ (1 ≤ L ∧ L ≤ 1000000000000) ∧ firstWrong L ds 0 [] = none
theorem Trk.same {K : PySem.W.Frag} {C p x : Addr} {H H' : Hp} {L : Int} {ds : List PyData} (h : Trk K C p x H L ds) (e : Same H H') : Trk K C p x H' L ds :=
  let ⟨dx, t, h1, h2, h3⟩ := h; ⟨dx, t, e _ _ h1, h2.same e, h3⟩
theorem Trk.sm {K : PySem.W.Frag} {C p x : Addr} {H H' : Hp} {L : Int} {ds : List PyData} (h : Trk K C p x H L ds) (e : Sm p H H') (hp : Pl H p) : Trk K C p x H' L ds := by
  obtain ⟨dx, t, h1, h2, h3⟩ := h
  refine ⟨dx, t, e _ _ ?_ h1, h2.sm e hp, h3⟩
  rintro rfl
  obtain ⟨l, hp⟩ := hp
  rw [h1] at hp
  cases hp
def partIx : Str → Option Nat := fun z => if z = "mode" then some 1 else if z = "from" then some 2 else if z = "to" then some 3 else if z = "touches" then some 4 else if z = "glide" then some 5 else if z = "tail" then some 6 else none
end L2
namespace L2
open PySem PySem.Spec PyProof.Rows
end L2
namespace L2
open PySem PySem.Spec PyProof.Rows
/-- a change of a part that there is: (z, pt, e) at c; pass i of ds, its part j -/
structure Chg (K : PySem.W.Frag) (p c : Addr) (H : Hp) (ds : List PyData) (z pt : Str) (e : PyData) (i j : Nat) (es : List PyData) : Prop where
  at_ : ∃ v, SqT K H c [.str z, .str pt, v] ∧ Dn K p H v e
  lz : Sok z
  place : plOf z ds 0 = some i
  part : partIx pt = some j
  pass : ds[i]? = some (.tuple es)
  seven : es.length = 7
theorem Chg.same {K : PySem.W.Frag} {p c : Addr} {H H' : Hp} {ds : List PyData} {z pt : Str} {e : PyData} {i j : Nat} {es : List PyData} (h : Chg K p c H ds z pt e i j es) (s : Same H H') : Chg K p c H' ds z pt e i j es :=
  ⟨h.at_.elim fun v q => ⟨v, s.seqT q.1, q.2.same s⟩, h.lz, h.place, h.part, h.pass, h.seven⟩
theorem DnAll.set {K : PySem.W.Frag} {p : Addr} {H : Hp} {v : V} {d : PyData} (h : Dn K p H v d) : ∀ {xs : List V} {ds : List PyData} (i : Nat), DnAll K p H xs ds → DnAll K p H (xs.set i v) (ds.set i d)
  | _, _, _, .nil => .nil
  | _, _, 0, .cons _ t => .cons h t
  | _, _, i + 1, .cons q t => .cons q (DnAll.set h i t)
end L2
namespace L2
open PySem PySem.Spec PyProof.Rows
theorem Sm.same {p : Addr} {H H1 H2 : Hp} (a : Sm p H H1) (b : Same H1 H2) : Sm p H H2 := a.trans (.of_same b)
def words : List Str := ["a", "b", "olds", "z9", "write", "c", "on", "pass", "abcdefgh", "t0000001", "ol", "track", "ab", "aa"]
def turned (i : Nat) : List Str := (words.drop i ++ words.take i).take 8
end L2
namespace L2
open PySem PySem.Spec PyProof.Rows
/-- pairs of ints, each at its own place -/
inductive Cells (H : Hp) : List V → List PyData → Prop
  | nil : Cells H [] []
  | cons {t : Addr} {a b : Int} {vs : List V} {ds : List PyData} : H t = some (.tup [.int a, .int b]) → Cells H vs ds → Cells H (.ref t :: vs) (.tuple [.int a, .int b] :: ds)
theorem Cells.mono {H H' : Hp} (e : ∀ b xs, H b = some (.tup xs) → H' b = some (.tup xs)) : ∀ {vs : List V} {ds : List PyData}, Cells H vs ds → Cells H' vs ds
  | _, _, .nil => .nil
  | _, _, .cons h t => .cons (e _ _ h) (Cells.mono e t)
theorem Cells.snoc {H : Hp} {t : Addr} {a b : Int} (h : H t = some (.tup [.int a, .int b])) : ∀ {vs : List V} {ds : List PyData}, Cells H vs ds → Cells H (vs ++ [.ref t]) (ds ++ [.tuple [.int a, .int b]])
  | _, _, .nil => .cons h .nil
  | _, _, .cons q r => .cons q (Cells.snoc h r)
theorem Cells.all {K : PySem.W.Frag} {p : Addr} {H : Hp} : ∀ {vs : List V} {ds : List PyData}, Cells H vs ds → DnAll K p H vs ds
  | _, _, .nil => .nil
  | _, _, .cons h t => .cons (.tup (.inl (.inl h)) (.cons (.int _) (.cons (.int _) .nil))) (Cells.all t)
theorem Cells.length {H : Hp} : ∀ {vs : List V} {ds : List PyData}, Cells H vs ds → vs.length = ds.length
  | _, _, .nil => rfl
  | _, _, .cons _ t => congrArg Nat.succ (Cells.length t)
end L2
namespace L2
open PySem PySem.Spec PyProof.Rows
theorem Pu.pl {m : Nat} {H : Hp} {p : Addr} (h : Pu m H p) : Pl H p := let ⟨_, _, _, e, _⟩ := h; ⟨_, e⟩
end L2
namespace L2
open PySem PySem.Spec PyProof.Rows
/-- tuples stay -/
def Tk (H H' : Hp) : Prop := ∀ b xs, (H b = some (.tup xs) → H' b = some (.tup xs)) ∧ ∀ o, H b = some (.frz o (.tup xs)) → H' b = some (.frz o (.tup xs))
theorem Tk.refl (H : Hp) : Tk H H := fun _ _ => ⟨id, fun _ => id⟩
theorem Tk.trans {H H1 H2 : Hp} (a : Tk H H1) (b : Tk H1 H2) : Tk H H2 := fun c xs => ⟨fun h => (b c xs).1 ((a c xs).1 h), fun o h => (b c xs).2 o ((a c xs).2 o h)⟩
theorem Tk.of_same {H H' : Hp} (e : Same H H') : Tk H H' := fun b xs => ⟨fun h => e _ _ h, fun o h => e _ _ h⟩
theorem Tk.put {H : Hp} {o : Addr} {l l' : List V} (ho : H o = some (.lst l)) : Tk H (upd H o (.lst l')) := fun b xs =>
  ⟨fun h => by rw [upd_ne (by rintro rfl; rw [ho] at h; cases h)]; exact h, fun q h => by rw [upd_ne (by rintro rfl; rw [ho] at h; cases h)]; exact h⟩
end L2
namespace L2
open PySem PySem.Spec PyProof.Rows
end L2
namespace L2
open PySem PySem.Spec PyProof.Rows
structure Sh (n k : Nat) (d : PyData) : Prop where
  nd : d.hasDict = false
  sh : d.showable = true
  lv : d.leavesShort 20 = true
  bk : d.bulk ≤ n
  dp : d.depth ≤ k
structure ShA (n k : Nat) (ds : List PyData) : Prop where
  nd : PyData.hasDictAll ds = false
  sh : PyData.showableAll ds = true
  lv : PyData.leavesShortAll 20 ds = true
  bk : PyData.bulkAll ds ≤ n
  dp : PyData.depthAll ds ≤ k
theorem Sh.int {i : Int} (h : i.natAbs < 10 ^ 15) : Sh 0 0 (.int i) := by
  refine ⟨by simp [PyData.hasDict], ?_, ?_, by simp [PyData.bulk], by simp [PyData.depth]⟩
  · simp only [PyData.showable]
    refine decide_eq_true ?_
    by_cases z : i.natAbs = 0
    · rw [z]; decide
    · have : i.natAbs < 2 ^ 60 := Nat.lt_trans h (by decide)
      have := (Nat.log2_lt z).mpr this
      omega
  · simp only [PyData.leavesShort]
    refine decide_eq_true ?_
    show (Str.ofString (toString i)).length ≤ 20
    rw [PySem.ofString_length]
    exact Nat.le_trans (int_text_length_le10 (k := 15) (by decide) h) (by decide)
theorem Sh.str {x : Str} (h : Sok x) : Sh x.length 0 (.str x) := by
  refine ⟨by simp [PyData.hasDict], by simp [PyData.showable], ?_, by simp only [PyData.bulk]; exact Nat.le_refl _, by simp [PyData.depth]⟩
  simp only [PyData.leavesShort]
  rw [List.all_eq_true]
  intro c hc
  have h2 := h.2
  unfold PyData.strOk at h2
  obtain ⟨i, hi, e⟩ := List.getElem_of_mem hc
  have h3 := Array.all_eq_true.mp h2 i (by simpa using hi)
  have h4 : c < 0x110000 := by rw [← e]; simpa using h3
  exact decide_eq_true (Nat.lt_trans h4 (by decide))
theorem ShA.nil : ShA 0 0 [] := ⟨by simp [PyData.hasDictAll], by simp [PyData.showableAll], by simp [PyData.leavesShortAll], by simp [PyData.bulkAll], by simp [PyData.depthAll]⟩
theorem ShA.cons {n m k l : Nat} {d : PyData} {ds : List PyData} (h : Sh n k d) (t : ShA m l ds) : ShA (n + 1 + m) (max k l) (d :: ds) := by
  refine ⟨?_, ?_, ?_, ?_, ?_⟩
  · simp only [PyData.hasDictAll, h.nd, t.nd]; rfl
  · simp only [PyData.showableAll, h.sh, t.sh]; rfl
  · simp only [PyData.leavesShortAll, h.lv, t.lv]; rfl
  · simp only [PyData.bulkAll]; have := h.bk; have := t.bk; omega
  · simp only [PyData.depthAll]; have := h.dp; have := t.dp; omega
theorem ShA.tup {n k : Nat} {ds : List PyData} (h : ShA n k ds) : Sh n (k + 1) (.tuple ds) := ⟨by simp only [PyData.hasDict]; exact h.nd, by simp only [PyData.showable]; exact h.sh, by simp only [PyData.leavesShort]; exact h.lv, by simp only [PyData.bulk]; exact h.bk, by simp only [PyData.depth]; have := h.dp; omega⟩
theorem ShA.lst {n k : Nat} {ds : List PyData} (h : ShA n k ds) : Sh n (k + 1) (.list ds) := ⟨by simp only [PyData.hasDict]; exact h.nd, by simp only [PyData.showable]; exact h.sh, by simp only [PyData.leavesShort]; exact h.lv, by simp only [PyData.bulk]; exact h.bk, by simp only [PyData.depth]; have := h.dp; omega⟩
theorem Sh.mono {n m k l : Nat} {d : PyData} (h : Sh n k d) (a : n ≤ m) (b : k ≤ l) : Sh m l d := ⟨h.nd, h.sh, h.lv, Nat.le_trans h.bk a, Nat.le_trans h.dp b⟩
theorem ShA.mono {n m k l : Nat} {ds : List PyData} (h : ShA n k ds) (a : n ≤ m) (b : k ≤ l) : ShA m l ds := ⟨h.nd, h.sh, h.lv, Nat.le_trans h.bk a, Nat.le_trans h.dp b⟩
theorem ShA.all {n k : Nat} : ∀ {ds : List PyData}, (∀ d ∈ ds, Sh n k d) → ShA (ds.length * (n + 1)) k ds
  | [], _ => ShA.nil.mono (Nat.zero_le _) (Nat.zero_le _)
  | d :: r, h => by
    have a := ShA.cons (h d List.mem_cons_self) (ShA.all (ds := r) fun e he => h e (List.mem_cons_of_mem _ he))
    refine a.mono ?_ (by omega)
    rw [List.length_cons, Nat.succ_mul]
    omega
theorem Sh.shown {n k : Nat} {d : PyData} (h : Sh n k d) (hn : n ≤ 700000) : d.shown.length ≤ sizeLine := by
  have a := PyData.shown_le_bulk 20 (by decide) d h.lv
  have b := h.bk
  rw [sizeLine_eq]
  omega
end L2
namespace L2
open PySem PySem.Spec PyProof.Rows
end L2
namespace L2
open PySem PySem.Spec PyProof.Rows
end L2
namespace L2
open PySem PySem.Spec PyProof.Rows
end L2
namespace L2
open PySem PySem.Spec PyProof.Rows
end L2
namespace L2
open PySem PySem.Spec PyProof.Rows
end L2
namespace L2
open PySem PySem.Spec PyProof.Rows
end L2
namespace PySem.W
open PySem PySem.Spec
end PySem.W
namespace L2
open PySem PySem.Spec PyProof.Rows
end L2
namespace L2
open PySem PySem.Spec PyProof.Rows
def aD : PyData := .tuple [.str "a", .str "touch", .int 2, .int 8, .tuple [.tuple [.int 3, .int 5]], .int 3, .str "stop"]
end L2
namespace L2
open PySem PySem.Spec PyProof.Rows
end L2
namespace PySem.W
open PySem PySem.Spec PySem.Calls PyProof.Rows
end PySem.W
namespace L2
open PySem PySem.Spec PyProof.Rows
end L2
namespace L2
open PySem PySem.Spec PyProof.Rows
end L2
namespace L2
open PySem PySem.Spec PyProof.Rows TL
def numT (n : Nat) : Str := Str.ofString (toString ((n : Nat) : Int))
theorem numT_tl (n : Nat) : (numT n).cps.toList = numL n := tl_num n
end L2
namespace L2
open PySem PySem.Spec PyProof.Rows TL
theorem num_free {n s : Nat} (h : s < 48 ∨ 57 < s) : s ∉ tl (numT n) := by
  rw [show tl (numT n) = numL n from numT_tl n]
  exact numL_free h
end L2
namespace L2
open PySem PySem.Spec PyProof.Rows TL
end L2
namespace L2
open PySem PySem.Spec PyProof.Rows TL
end L2
namespace L2
open PySem PySem.Spec PyProof.Rows TL
end L2
namespace L2
open PySem PySem.Spec PyProof.Rows TL
end L2
namespace L2
open PySem PySem.Spec PyProof.Rows TL
end L2
namespace L2
open PySem PySem.Spec PyProof.Rows TL
end L2
namespace L2
open PySem PySem.Spec PyProof.Rows TL
end L2
namespace L2
open PySem PySem.Spec PyProof.Rows TL
end L2
namespace L2
open PySem PySem.Spec PyProof.Rows TL
end L2
namespace L2
open PySem PySem.Spec PyProof.Rows
end L2
namespace L2
open PySem PySem.Spec PyProof.Rows TL
end L2
namespace L2
open PySem PySem.Spec PyProof.Rows
end L2
namespace L2
open PySem PySem.Spec PyProof.Rows ClX
end L2
set_option autoImplicit false
namespace DL
open PySem PySem.Spec PyProof.Rows L2
theorem dat_ins {K : PySem.W.Frag} {M : Addr → Prop} {H : Hp} {v : V} {C : Addr} {ns : List Str} {es : List D} (h : Dat K M H v (.ins C ns es)) : ∃ a dx fs, v = .ref a ∧ ¬ M a ∧ H a = some (.ins C dx fs) ∧ fs.map (·.1) = ns ∧ DatAll K M H (fs.map (·.2)) es := by
  cases h with
  | ins n h q a => exact ⟨_, _, _, rfl, n, h, q, a⟩
def lookD : List Str → List D → Str → Option D
  | n :: ns, d :: ds, f => if f = n then some d else lookD ns ds f
  | _, _, _ => none
theorem lookD_at {K : PySem.W.Frag} {M : Addr → Prop} {H : Hp} {f : Str} {d : D} : ∀ {fs : List (Str × V)} {ds : List D}, DatAll K M H (fs.map (·.2)) ds → lookD (fs.map (·.1)) ds f = some d → ∃ v, fs.lookup f = some v ∧ Dat K M H v d
  | [], _, _, h => by cases h
  | (n, x) :: r, [], h, e => by cases h
  | (n, x) :: r, d0 :: ds, .cons h1 h2, e => by
    rw [List.map_cons] at e
    unfold lookD at e
    by_cases z : f = n
    · rw [if_pos z] at e
      cases e
      exact ⟨x, by simp [List.lookup, z], h1⟩
    · rw [if_neg z] at e
      obtain ⟨v, hv, dv⟩ := lookD_at h2 e
      exact ⟨v, by rw [List.lookup, beq_eq_false_iff_ne.mpr z]; exact hv, dv⟩
/-- x is an instance of the class at C without an attribute of this name -/
def isObj (C : Addr) (m : Str) : D → Bool
  | .ins B ns _ => B == C && !(ns.contains m)
  | _ => false
/-- how many values a def takes -/
def Takes (m : Nat) (F : List D → Option D) : Prop := ∀ ds d, F ds = some d → ds.length = m
def TakesO (m : Nat) (F : D → List D → Option (D × D)) : Prop := ∀ d0 ds r, F d0 ds = some r → ds.length + 1 = m
theorem takesF {m n : Nat} {b : Mo Fl} : Takes m (runF m n b) := fun ds d h => by
  unfold runF at h
  split at h
  · assumption
  · cases h
theorem takesN {m n : Nat} {b : Mo Fl} : Takes m (runN m n b) := fun ds d h => by
  unfold runN at h
  split at h
  · assumption
  · cases h
theorem takesO {m n : Nat} {b : Mo Fl} : TakesO m (runO m n b) := fun d0 ds d h => by
  unfold runO at h
  split at h
  · assumption
  · cases h
section
variable {K : PySem.W.Frag} {c : Ctx K} {ta : TE} {ma : Mo D} {tl tk : TA} {ml mk : Mo (List D)} {m : Nat} {F : List D → Option D} {FO : D → List D → Option (D × D)} {dvs : List V} {dds : List D}
theorem r_call (hF : Takes m F) (h : RAv c tl ml) : REv c (tCall (spF K m F) [] E0 tl) (mFn F ml) := by
  intro M σ H ρ S d ρ' hm Q q
  obtain ⟨xs, ρ1, h1, hm⟩ := mBd_some hm
  obtain ⟨hg, rfl⟩ := mL_some hm
  exact h M σ H ρ S xs _ h1 _ fun M1 vs H1 E1 S1 d1 => ⟨M1, xs, d, S1.kind, by rw [List.append_nil]; exact d1, hF _ _ hg, hg, fun u H' s h => q M1 u H' (E1.trans (.same s) S.kind) (S1.same s) h⟩
theorem r_callN (hF : Takes m F) (h : RAv c tl ml) : RNw c (tCall (spN K m F) [] E0 tl) (mFn F ml) := by
  intro M σ H ρ S d ρ' hm Q q
  obtain ⟨xs, ρ1, h1, hm⟩ := mBd_some hm
  obtain ⟨hg, rfl⟩ := mL_some hm
  exact h M σ H ρ S xs _ h1 _ fun M1 vs H1 E1 S1 d1 => ⟨M1, xs, d, S1.kind, by rw [List.append_nil]; exact d1, hF _ _ hg, hg, fun a H' o n s ho h => by
    obtain ⟨E2, S2, nh⟩ := S1.hold n s ho h.mut
    exact q _ a H' (E1.dm a n) (E1.trans E2 S.kind) S2 ⟨.inr rfl, nh, (S1.free0 n).1, (S1.free0 n).2, o, ho, h⟩⟩
/-- f(x, ..), x the name in slot i, which f may change -/
def mCallO (F : D → List D → Option (D × D)) (i : Nat) (a : Mo (List D)) : Mo D := fun ρ => if owns i ρ = true then mBd a (fun ds ρ1 => match ρ1[i]? with
  | some (.own p d0) => (match F d0 ds with
    | some (r, d1) => some (r, ρ1.set i (.own p d1))
    | none => none)
  | _ => none) ρ else none
theorem r_callO {i : Nat} (hF : TakesO m FO) (h : RAv c tl ml) : REv c (tCall (spO K m FO) [] E0 (tCons (tVar i) tl)) (mCallO FO i ml) := by
  intro M σ H ρ S d ρ' hm Q q
  unfold mCallO at hm
  split at hm
  case isFalse => cases hm
  rename_i hw
  obtain ⟨p0, d0, e0⟩ := owns_some hw
  obtain ⟨a, ha, _⟩ := S.own e0
  obtain ⟨xs, ρ1, h1, h2⟩ := mBd_some hm
  split at h2
  · rename_i p d2 e1
    split at h2
    · rename_i r d1 hF2
      cases h2
      refine ⟨_, ha, h M σ H ρ S xs ρ1 h1 _ fun M1 vs H1 E1 S1 dd => ?_⟩
      obtain ⟨a', ha', hM, _, ho⟩ := S1.own e1
      rw [ha] at ha'; cases ha'
      refine ⟨M1, _, d2, vs ++ [], xs, d, d1, rfl, S1.kind, hM, ho, by rw [List.append_nil]; exact dd, hF _ _ _ hF2, hF2, fun u H' hb hn hu => ?_⟩
      have E2 := S1.mutE ha e1 hb hn
      exact q M1 u H' (E1.trans E2.1 S.kind) E2.2 hu
    · cases h2
  · cases h2
/-- an object that no slot holds is changed -/
theorem Sta.putO {M : Addr → Prop} {σ : L2.St} {H H' : Hp} {ρ : Cs} {a : Addr} {d d' : D} (S : Sta c M σ H ρ) (n : Nw c M σ H ρ a d) (ho : ∀ b o, b ≠ a → H b = some o → H' b = some o) (hn : Own K M H' a d') : Ev M H M H' ∧ Sta c M σ H' ρ := by
  have hM := n.m
  have E : Ev M H M H' := ⟨fun b h => .inl h, fun b u nb h => ho b u (fun z => nb (by rw [z]; exact hM)) h⟩
  refine ⟨E, S.pm, S.sub, S.new, fun b hb => ?_, fun b u nb h => ?_, S.len, fun i x y h1 h2 => ?_, S.inj⟩
  · by_cases z : b = a
    · subst z
      obtain ⟨o, q, w⟩ := hn
      exact ⟨o, q, w.mut⟩
    · obtain ⟨u, q, w⟩ := S.kind b hb
      exact ⟨u, ho b u z q, w⟩
  · exact ho b u (fun z => by rw [z, n.h0] at h; cases h) (S.base b u nb h)
  · cases S.cell i x y h1 h2 with
    | no => exact .no _
    | dat q => exact .dat (q.ev S.kind E)
    | own m' q w =>
      rename_i p' a' d''
      have ne : a' ≠ a := fun z => n.nh ⟨i, p', d'', by rw [← z]; exact h1, h2⟩
      exact .own m' q (w.elim fun u r => ⟨u, ho _ _ ne r.1, r.2.ev S.kind E⟩)
/-- f(e, ..), e's value a new object -/
def mCallNew (F : D → List D → Option (D × D)) (e : Mo D) (a : Mo (List D)) : Mo D := mBd e fun d0 => mBd a fun ds => mL ((F d0 ds).map (·.1))
theorem r_callNew (hF : TakesO m FO) (he : RNw c ta ma) (h : RAv c tl ml) : REv c (tCall (spO K m FO) [] E0 (tCons ta tl)) (mCallNew FO ma ml) := by
  intro M σ H ρ S d ρ' hm Q q
  obtain ⟨d0, ρ1, h1, hm1⟩ := mBd_some hm
  obtain ⟨xs, ρ2, h2, hm2⟩ := mBd_some hm1
  obtain ⟨hg, e3⟩ := mL_some hm2
  subst e3
  obtain ⟨⟨r, d1⟩, hF2, er⟩ := map_some hg
  cases er
  refine he M σ H ρ S d0 ρ1 h1 _ fun M1 a H1 hf E1 S1 n1 => h M1 σ H1 ρ1 S1 xs _ h2 _ fun M2 vs H2 E2 S2 dd => ?_
  have n2 := n1.es S1.kind E2
  refine ⟨M2, a, d0, vs ++ [], xs, r, d1, rfl, S2.kind, n2.m, n2.o, by rw [List.append_nil]; exact dd, hF _ _ _ hF2, hF2, fun u H' hb hn hu => ?_⟩
  have E12 := E1.trans E2 S.kind
  obtain ⟨E3, S3⟩ := S2.putO n2 hb hn
  refine q M2 u H' ⟨E12.ev.trans E3, fun b o nb hbo => hb b o (fun z => by rw [z, hf] at hbo; cases hbo) (E12.kp b o nb hbo), E12.hs, E12.mc, fun b hb' => E12.dm b ?_⟩ S3 hu
  cases z : H2 b with
  | none => rfl
  | some o =>
    by_cases w : b = a
    · subst w
      obtain ⟨o', ho', _⟩ := hn
      rw [ho'] at hb'; cases hb'
    · rw [hb b o w z] at hb'; cases hb'
/-- o.m(..) -/
def mMeth (C : Addr) (nm : Str) (F : List D → Option D) (o : Mo D) (a : Mo (List D)) : Mo D := mBd o fun x => if isObj C nm x = true then mBd a fun ds => mL (F (x :: ds)) else fun _ => none
/-- o.p, a property -/
def isIns (C : Addr) : D → Bool
  | .ins B _ _ => B == C
  | _ => false
theorem isIns_of {C : Addr} {x : D} (h : isIns C x = true) : ∃ ns es, x = .ins C ns es := by
  unfold isIns at h
  split at h
  · rename_i B ns es
    have := beq_iff_eq.mp h
    subst this
    exact ⟨ns, es, rfl⟩
  · cases h
def mProp (C : Addr) (F : List D → Option D) (o : Mo D) : Mo D := mBd o fun x => if isIns C x = true then mL (F [x]) else fun _ => none
theorem r_prop {C : Addr} (hF : Takes m F) (ho : REv c ta ma) : REv c (tProp C (spF K m F) [] E0 ta) (mProp C F ma) := by
  intro M σ H ρ S d ρ' hm Q q
  obtain ⟨x, ρ1, h1, hm1⟩ := mBd_some hm
  split at hm1
  case isFalse => cases hm1
  rename_i hx
  obtain ⟨ns, es, rfl⟩ := isIns_of hx
  obtain ⟨hg, e3⟩ := mL_some hm1
  subst e3
  refine ho M σ H ρ S _ _ h1 _ fun M1 v H1 E1 S1 dx => ?_
  obtain ⟨a, dx', fs, rfl, nM, hH, hns, hes⟩ := dat_ins dx
  exact ⟨a, dx', fs, rfl, hH, M1, _, d, S1.kind, .cons dx .nil, hF _ _ hg, hg, fun u H' s hu => q M1 u H' (E1.trans (.same s) S.kind) (S1.same s) hu⟩
/-- o.f, an attribute -/
def mFld (C : Addr) (f : Str) (o : Mo D) : Mo D := mBd o fun x => match x with
  | .ins B ns es => if B = C then mL (lookD ns es f) else fun _ => none
  | _ => fun _ => none
theorem r_fld {C : Addr} {f : Str} (hC : Cls K C) (hn : NoAttr K C f) (ho : REv c ta ma) : REv c (tFld K ta f) (mFld C f ma) := by
  intro M σ H ρ S d ρ' hm Q q
  obtain ⟨x, ρ1, h1, hm1⟩ := mBd_some hm
  split at hm1
  · rename_i B ns es
    split at hm1
    · rename_i e
      subst e
      obtain ⟨hg, e3⟩ := mL_some hm1
      subst e3
      refine ho M σ H ρ S _ _ h1 _ fun M1 v H1 E1 S1 dx => ?_
      obtain ⟨a, dx', fs, rfl, nM, hH, hns, hes⟩ := dat_ins dx
      subst hns
      obtain ⟨w, hw, dw⟩ := lookD_at hes hg
      exact ⟨a, _, dx', fs, w, rfl, hH, hC, hn, hw, q M1 w H1 E1 S1 dw⟩
    · cases hm1
  · cases hm1
/-- o.f = e, o the name in slot i -/
def putN (f : Str) : List Str → List Str
  | [] => [f]
  | g :: r => if g = f then g :: r else g :: putN f r
def putD (f : Str) (d : D) : List Str → List D → List D
  | g :: r, x :: s => if g = f then d :: s else x :: putD f d r s
  | _, _ => [d]
theorem putF_at {K : PySem.W.Frag} {M : Addr → Prop} {H : Hp} {f : Str} {v : V} {d : D} (hv : Dat K M H v d) : ∀ {fs : List (Str × V)} {ds : List D}, DatAll K M H (fs.map (·.2)) ds → (putF f v fs).map (·.1) = putN f (fs.map (·.1)) ∧ DatAll K M H ((putF f v fs).map (·.2)) (putD f d (fs.map (·.1)) ds)
  | [], _, h => by
    cases h
    exact ⟨rfl, .cons hv .nil⟩
  | (g, x) :: r, _, h => by
    cases h with
    | cons h1 h2 =>
      by_cases z : g = f
      · subst z
        simp only [putF, putN, putD, List.map_cons, if_pos trivial, if_true]
        exact ⟨trivial, .cons hv h2⟩
      · obtain ⟨a, b⟩ := putF_at hv h2
        simp only [putF, putN, putD, List.map_cons, if_neg z]
        exact ⟨by rw [a], .cons h1 b⟩
def sFldV (C : Addr) (i : Nat) (f : Str) (e : Mo D) : Mo Fl := mBd e fun d ρ => match ρ[i]? with
  | some (.own p (.ins B ns es)) => if B = C ∧ es.length < 1000 then some (.nx, ρ.set i (.own p (.ins B (putN f ns) (putD f d ns es)))) else none
  | _ => none
theorem r_sfld {C : Addr} {i : Nat} {f : Str} (hC : Cls K C) (hn : NoAttr K C f) (he : REv c ta ma) : RSt c (sFld K (tVar i) ta f) (sFldV C i f ma) := by
  intro M σ H ρ S fl ρ' hm D q
  obtain ⟨d, ρ1, h1, h2⟩ := mBd_some hm
  split at h2
  · rename_i p B ns es e1
    obtain ⟨⟨rfl, hl⟩, e2⟩ := if_some h2
    cases e2
    refine he M σ H ρ S d ρ1 h1 _ fun M1 v H1 E1 S1 dv => ?_
    obtain ⟨a, ha, hM, _, o, ho, hc⟩ := S1.own e1
    cases hc with
    | ins hns hes =>
      rename_i dx fs
      subst hns
      refine ⟨_, ha, a, _, dx, fs, rfl, ho, hC, hn, by have := hes.length; rw [List.length_map] at this; omega, ?_⟩
      have ev2 : Ev M1 H1 M1 (upd H1 a (.ins B dx (putF f v fs))) := ⟨fun b h => .inl h, fun b o nb h => by rw [upd_ne (fun z => nb (by rw [z]; exact hM))]; exact h⟩
      obtain ⟨p1, p2⟩ := putF_at (f := f) dv hes
      have E2 := S1.mut (d' := .ins B (putN f (fs.map (·.1))) (putD f d (fs.map (·.1)) es)) (H' := upd H1 a (.ins B dx (putF f v fs))) ha e1 (fun b o nb h => by rw [upd_ne nb]; exact h) ⟨_, upd_same, .ins p1 (p2.ev S1.kind ev2)⟩
      exact q M1 σ _ (E1.ev.trans E2.1) E2.2
  · cases h2
/-- C(..) -/
def mMake (C : Addr) (F : D → List D → Option (D × D)) (dds : List D) (a : Mo (List D)) : Mo D := mBd a fun ds => mL (match F (.ins C [] []) (ds ++ dds) with
  | some (.non, d1) => some d1
  | _ => none)
theorem r_make {C : Addr} (hF : TakesO m FO) (hd : ∀ M H, DatAll K M H dvs dds) (h : RAv c tl ml) : RNw c (tMake C (spO K m FO) dvs E0 tl) (mMake C FO dds ml) := by
  intro M σ H ρ S d ρ' hm Q q
  obtain ⟨xs, ρ1, h1, hm1⟩ := mBd_some hm
  obtain ⟨hg, e3⟩ := mL_some hm1
  subst e3
  split at hg
  case h_2 => cases hg
  rename_i d1 hF2
  cases hg
  refine h M σ H ρ S xs _ h1 _ fun M1 vs H1 E1 S1 dd => fun x dx hx hdx ne => ?_
  have s1 : Same H1 (upd (upd H1 dx (.own x)) x (.ins C dx [])) := (same_new hdx).new (by rw [upd_ne (Ne.symm ne)]; exact hx)
  obtain ⟨E2, S2, n2⟩ := S1.nw (o := .ins C dx []) (d := .ins C [] []) hx s1 upd_same (.ins rfl .nil)
  refine ⟨_, x, .ins C [] [], vs ++ dvs, xs ++ dds, .non, d, rfl, S2.kind, n2.m, n2.o, (dd.ev S1.kind E2.ev).append (hd _ _), hF _ _ _ hF2, hF2, fun u H' hb hn hu => ⟨by cases hu; rfl, ?_⟩⟩
  obtain ⟨E3, S3⟩ := S2.putO n2 hb hn
  have E12 := E1.trans E2 S.kind
  refine q _ x H' (E1.dm x hx) ⟨E12.ev.trans E3, fun b o nb hbo => hb b o (fun z => by rw [z, E1.dm x hx] at hbo; cases hbo) (E12.kp b o nb hbo), E12.hs, E12.mc, fun b hb' => E12.dm b ?_⟩ S3 ⟨n2.m, n2.nh, n2.h0, n2.n0, hn⟩
  cases z : upd (upd H1 dx (.own x)) x (.ins C dx []) b with
  | none => rfl
  | some o =>
    by_cases w : b = x
    · subst w
      obtain ⟨o', ho', _⟩ := hn
      rw [ho'] at hb'; cases hb'
    · rw [hb b o w z] at hb'; cases hb'
end
end DL
set_option autoImplicit false
namespace DL
open PySem PySem.Spec PyProof.Rows L2
def pick {α : Type} : List Nat → List α → List α
  | [], _ => []
  | i :: is, l => match l[i]? with
    | some a => a :: pick is l
    | none => pick is l
def mKw (is : List Nat) (n nk : Nat) (F : List D → Option D) (a k : Mo (List D)) : Mo D := mBd a fun xs => mBd k fun ys => if xs.length = n ∧ ys.length = nk then mL (F (pick is (xs ++ ys))) else fun _ => none
end DL
set_option autoImplicit false
namespace DL
open PySem PySem.Spec PyProof.Rows L2
section
variable {X : Cx} {K : PySem.W.Frag} {c : Ctx K} {k m n : Nat} {f C g : Addr} {fd : FuncData} {ps ks : List Str} {dvs : List V} {vds : List Value} {dds : List D} {F : List D → Option D} {FO : D → List D → Option (D × D)} {is : List Nat}
  {x y nm : Str} {p p2 pos apos kpos : Pos} {e o : Expr} {es : List Expr} {kws : List Keyword} {ta te : TE} {ma me : Mo D} {tl tk : TA} {ml mk : Mo (List D)}
theorem d_call (G : FnOk X.prog X.w X.K X.mg X.base CX0 k f fd ps (spF X.K m F)) (hF : Takes m F) (hr : Room k X.A) (hm : X.mg x = some (.ref f)) (hk : PySem.W.keepIn X.K (.ref f) = true) (hb : Binds X.K fd ps []) (ha : DA X c (e :: es) tl ml)
    (hg : Gl X x := by rfl) (hdb : (x == ("__debug__" : Str)) = false := by decide) (he : starEach (e :: es) X.env = (false, eval e X.env) :: starEach es X.env := by rfl) (hpl : (backTo pos (starEach es X.env)).any (·.1) = false := by rfl) (hK : X.K = K := by rfl) :
    DE X c (.Call (.Name x p) (e :: es) [] pos) (tCall (spF K m F) [] E0 tl) (mFn F ml) := ⟨by rw [← hK]; exact pe_call G hr hg hm hk hb .nil pass0 ha.p hdb he hpl, r_call hF ha.r⟩
theorem d_callN (G : FnOk X.prog X.w X.K X.mg X.base CX0 k f fd ps (spN X.K m F)) (hF : Takes m F) (hr : Room k X.A) (hm : X.mg x = some (.ref f)) (hk : PySem.W.keepIn X.K (.ref f) = true) (hb : Binds X.K fd ps []) (ha : DA X c (e :: es) tl ml)
    (hg : Gl X x := by rfl) (hdb : (x == ("__debug__" : Str)) = false := by decide) (he : starEach (e :: es) X.env = (false, eval e X.env) :: starEach es X.env := by rfl) (hpl : (backTo pos (starEach es X.env)).any (·.1) = false := by rfl) (hK : X.K = K := by rfl) :
    DN X c (.Call (.Name x p) (e :: es) [] pos) (tCall (spN K m F) [] E0 tl) (mFn F ml) := ⟨by rw [← hK]; exact pe_call G hr hg hm hk hb .nil pass0 ha.p hdb he hpl, r_callN hF ha.r⟩
theorem d_callO (i : Nat) (G : FnOk X.prog X.w X.K X.mg X.base CX0 k f fd ps (spO X.K m FO)) (hF : TakesO m FO) (hr : Room k X.A) (hm : X.mg x = some (.ref f)) (hk : PySem.W.keepIn X.K (.ref f) = true) (hb : Binds X.K fd ps []) (ha : DA X c es tl ml)
    (hN : X.N[i]? = some y := by rfl) (hv : Vis X.env.scope y := by first | exact Or.inl rfl | exact Or.inr (Or.inl rfl) | exact Or.inr (Or.inr rfl)) (hd : (y == ("__debug__" : Str)) = false := by decide) (hcd : (y == ("__classdict__" : Str)) = false := by decide)
    (hg : Gl X x := by rfl) (hdb : (x == ("__debug__" : Str)) = false := by decide) (he : starEach (.Name y p2 :: es) X.env = (false, eval (.Name y p2) X.env) :: starEach es X.env := by rfl) (hpl : (backTo pos (starEach es X.env)).any (·.1) = false := by rfl) (hK : X.K = K := by rfl) :
    DE X c (.Call (.Name x p) (.Name y p2 :: es) [] pos) (tCall (spO K m FO) [] E0 (tCons (tVar i) tl)) (mCallO FO i ml) := ⟨by rw [← hK]; exact pe_call G hr hg hm hk hb .nil pass0 (pa_cons (pv i hN hv hd hcd) ha.p he) hdb he hpl, r_callO hF ha.r⟩
theorem d_gcallNew (hgd : X.A.guards = some []) (G : FnG X.prog X.w X.K X.mg X.base CX0 k f fd ps (spO X.K m FO)) (hF : TakesO m FO) (hr : Room k X.A) (hm : X.mg x = some (.ref f)) (hk : PySem.W.keepIn X.K (.ref f) = true) (hb : Binds X.K fd ps []) (h0 : DN X c e te me) (ha : DA X c es tl ml)
    (hg : Gl X x := by rfl) (hdb : (x == ("__debug__" : Str)) = false := by decide) (he : starEach (e :: es) X.env = (false, eval e X.env) :: starEach es X.env := by rfl) (hpl : (backTo pos (starEach es X.env)).any (·.1) = false := by rfl) (hK : X.K = K := by rfl) :
    DE X c (.Call (.Name x p) (e :: es) [] pos) (tCall (spO K m FO) [] E0 (tCons te tl)) (mCallNew FO me ml) := ⟨by rw [← hK]; exact L2.pe_callG hgd G hr hg hm hk hb .nil pass0 (pa_cons h0.p ha.p he) hdb he hpl, r_callNew hF h0.r ha.r⟩
theorem d_prop (ho : DE X c o ta ma) (hC : Cls X.K C) (hp : PropOf X.K C nm g f) (G : FnOk X.prog X.w X.K X.mg X.base CX0 k f fd ps (spF X.K m F)) (hF : Takes m F) (hr : Room (k + 1) X.A) (hb : Binds X.K fd ps []) (hab : attributeBase o nm X.env (eval o X.env) = eval o X.env := by rfl) (hK : X.K = K := by rfl) :
    DE X c (.Attribute o nm pos) (tProp C (spF K m F) [] E0 ta) (mProp C F ma) := ⟨by rw [← hK]; exact pe_prop ho.p hC hp G hr hb .nil pass0 hab, r_prop hF ho.r⟩
theorem d_fld (ho : DE X c o ta ma) (hC : Cls X.K C) (hn : NoAttr X.K C nm) (hab : attributeBase o nm X.env (eval o X.env) = eval o X.env := by rfl) (hK : X.K = K := by rfl) : DE X c (.Attribute o nm pos) (tFld K ta nm) (mFld C nm ma) := ⟨by rw [← hK]; exact pe_fld ho.p hab, r_fld (by rw [← hK]; exact hC) (by rw [← hK]; exact hn) ho.r⟩
theorem s_fld {v : Expr} {pos' : Pos} (i : Nat) (hC : Cls X.K C) (hn : NoAttr X.K C nm) (he : DE X c v te me) (hs : swapsWith v (some (.Attribute (.Name y p) nm pos')) pos.line X.env = pure false := by rfl)
    (hN : X.N[i]? = some y := by rfl) (hv : Vis X.env.scope y := by first | exact Or.inl rfl | exact Or.inr (Or.inl rfl) | exact Or.inr (Or.inr rfl)) (hd : (y == ("__debug__" : Str)) = false := by decide) (hcd : (y == ("__classdict__" : Str)) = false := by decide) (hK : X.K = K := by rfl) :
    DS X c (.Assign [.Attribute (.Name y p) nm pos'] v pos) (sFld K (tVar i) te nm) (sFldV C i nm me) := ⟨by rw [← hK]; exact ps_fld (pv i hN hv hd hcd) he.p hs, r_sfld (by rw [← hK]; exact hC) (by rw [← hK]; exact hn) he.r⟩
theorem d_make (M : Mk X.K C f) (G : FnOk X.prog X.w X.K X.mg X.base CX0 k f fd ps (spO X.K m FO)) (hF : TakesO m FO) (hr : Room (k + 1) X.A) (hm : X.mg x = some (.ref C)) (hb : Binds X.K fd ps vds) (hv : Vals dvs vds) (hd : ∀ M H, DatAll K M H dvs dds) (ha : DA X c (e :: es) tl ml)
    (hg : Gl X x := by rfl) (hdb : (x == ("__debug__" : Str)) = false := by decide) (he : starEach (e :: es) X.env = (false, eval e X.env) :: starEach es X.env := by rfl) (hpl : (backTo pos (starEach es X.env)).any (·.1) = false := by rfl) (hK : X.K = K := by rfl) :
    DN X c (.Call (.Name x p) (e :: es) [] pos) (tMake C (spO K m FO) dvs E0 tl) (mMake C FO dds ml) := ⟨by rw [← hK]; exact pe_make M G hr hg hm hb hv pass0 ha.p hdb he hpl, r_make hF hd ha.r⟩
end
end DL
set_option autoImplicit false
namespace DL
open PySem PySem.Spec PyProof.Rows L2
def str? : D → Option Str
  | .str x => some x
  | _ => none
def mJs : List (Mo D) → Str → Mo Str
  | [], acc => mC acc
  | m :: ms, acc => mBd m fun d => mBd (mL (str? d)) fun y => if (acc ++ y).length ≤ sizeLine then mJs ms (acc ++ y) else fun _ => none
inductive DJ (X : Cx) {K : PySem.W.Frag} (c : Ctx K) : List Expr → List TE → List (Mo D) → Prop where
  | nil : DJ X c [] [] []
  | cons {e : Expr} {t : TE} {m : Mo D} {es : List Expr} {ts : List TE} {ms : List (Mo D)} (h : DE X c e t m) (r : DJ X c es ts ms) : DJ X c (e :: es) (t :: ts) (m :: ms)
theorem DJ.p {X : Cx} {K : PySem.W.Frag} {c : Ctx K} : ∀ {es : List Expr} {ts : List TE} {ms : List (Mo D)}, DJ X c es ts ms → PJ X es ts
  | _, _, _, .nil => .nil
  | _, _, _, .cons h r => .cons h.p r.p
theorem str_of {K : PySem.W.Frag} {M : Addr → Prop} {H : Hp} {v : V} {d : D} {b : Str} (h : Dat K M H v d) (e : str? d = some b) : v = .str b := by
  cases h <;> simp [str?] at e
  subst e; rfl
theorem DJ.r {X : Cx} {K : PySem.W.Frag} {c : Ctx K} {es : List Expr} {ts : List TE} {ms : List (Mo D)} (j : DJ X c es ts ms) : ∀ (acc : Str) (M : Addr → Prop) (σ : L2.St) (H : Hp) (ρ : Cs), Sta c M σ H ρ → ∀ y ρ', mJs ms acc ρ = some (y, ρ') → ∀ Q : Str → Hp → Prop, (∀ M' H', Es σ M H ρ σ M' H' ρ' → Sta c M' σ H' ρ' → Q y H') → tJs ts acc σ H Q := by
  induction j with
  | nil =>
    intro acc M σ H ρ S y ρ' hm Q q
    obtain ⟨e1, e2⟩ := mC_some (show mC acc ρ = some (y, ρ') from hm)
    subst e1 e2
    exact q M H .refl S
  | cons h r ih =>
    intro acc M σ H ρ S y ρ' hm Q q
    obtain ⟨d, ρ1, h1, hm1⟩ := mBd_some (show mBd _ _ ρ = some (y, ρ') from hm)
    obtain ⟨z, ρ2, h2, hm2⟩ := mBd_some hm1
    obtain ⟨hz, e2⟩ := mL_some h2
    subst e2
    split at hm2
    case isFalse => cases hm2
    rename_i hl
    refine h.r M σ H ρ S d _ h1 _ fun M1 v H1 E1 S1 dv => ⟨z, str_of dv hz, hl, ?_⟩
    exact ih _ M1 σ H1 _ S1 y ρ' hm2 Q fun M2 H2 E2 S2 => q M2 H2 (E1.trans E2 S.kind) S2
structure DTs (X : Cx) {K : PySem.W.Frag} (c : Ctx K) (ifs : List Expr) (t : TT) (m : Mo Bool) : Prop where
  p : PTs X ifs t
  r : RTt c t m
section
variable {X : Cx} {K : PySem.W.Frag} {c : Ctx K} {elt tg iter e : Expr} {ifs : List Expr} {scope : Scope} {own : List (Str × Nat)} {pos spos : Pos} {wi : TI} {g : TG} {tt : TT} {te : TE} {mi : Mo (List D)} {mg : D → Mo Unit} {mt : Mo Bool} {me : Mo D}
theorem t_nil : DTs X c [] tYes (mC true) := ⟨pts_nil, r_yes⟩
theorem t_one (h : DT X c e tt mt) : DTs X c [e] tt mt := ⟨pts_one h.p, h.r⟩
/-- what a comprehension's block is -/
structure DBlk (X : Cx) {K : PySem.W.Frag} (c : Ctx K) (scope : Scope) (tg elt : Expr) (ifs : List Expr) (g : TG) (tt : TT) (te : TE) (mg : D → Mo Unit) (mt : Mo Bool) (me : Mo D) : Prop where
  g : ∀ (s : Shared) (H : Hp) (C : Addr) (cl : List (Str × Addr)) (fp : List Addr), DG (X.blk s H scope (compEnvC scope cl C X.env) fp) c tg g mg
  t : ∀ (s : Shared) (H : Hp) (C : Addr) (cl : List (Str × Addr)) (fp : List Addr), DTs (X.blk s H scope (compEnvC scope cl C X.env) fp) c ifs tt mt
  e : ∀ (s : Shared) (H : Hp) (C : Addr) (cl : List (Str × Addr)) (fp : List Addr), DE (X.blk s H scope (compEnvC scope cl C X.env) fp) c elt te me
theorem r_blk (hi : RIt c wi mi) (ho : OwnG g (own.map (·.2))) (B : DBlk X c scope tg elt ifs g tt te mg mt me) : RNw c (tLc wi g tt te (own.map (·.2))) (mLc (own.map (·.2)) mi mg mt me) :=
  r_lc hi (B.g {} (fun _ => none) 0 [] []).r ho (B.t {} (fun _ => none) 0 [] []).r (B.e {} (fun _ => none) 0 [] []).r
theorem d_lc (hc : X.calm = true) (hN : X.N.Nodup) (hi : DI X c tg iter wi mi) (ok : BlkOk X.N X.env.scope scope own) (ho : OwnG g (own.map (·.2))) (B : DBlk X c scope tg elt ifs g tt te mg mt me) (hs : ∀ x, foldedSetIterable iter X.env x = pure x := by intro _; rfl) :
    DN X c (.ListComp elt [⟨tg, iter, ifs, 0⟩] scope pos) (tLc wi g tt te (own.map (·.2))) (mLc (own.map (·.2)) mi mg mt me) :=
  ⟨pe_lc hc hN hi.p ok (fun s H C cl fp => (B.g s H C cl fp).p) (fun s H C cl fp => (B.t s H C cl fp).p) (fun s H C cl fp => (B.e s H C cl fp).p) hs, r_blk hi.r ho B⟩
end
def MonoG (g : TG) : Prop := ∀ v σ H (Q Q' : L2.St → Hp → Prop), (∀ s h, Q s h → Q' s h) → g v σ H Q → g v σ H Q'
def MonoGs (g : TGs) : Prop := ∀ v σ H (Q Q' : L2.St → Hp → Prop), (∀ s h, Q s h → Q' s h) → g v σ H Q → g v σ H Q'
theorem mono_nil : MonoGs gNil := fun _ _ _ _ _ h q => ⟨q.1, h _ _ q.2⟩
theorem mono_cons {g : TG} {gs : TGs} (a : MonoG g) (b : MonoGs gs) : MonoGs (gCons g gs) := fun v σ H Q Q' h q => by
  obtain ⟨x, r, e, q⟩ := q
  exact ⟨x, r, e, a _ _ _ _ _ (fun s h' z => b _ _ _ _ _ h z) q⟩
theorem mono_tup {K : PySem.W.Frag} {n : Nat} {gs : TGs} (b : MonoGs gs) : MonoG (gTup K n gs) := fun v σ H Q Q' h q => by
  obtain ⟨a, xs, h1, h2, h3, q⟩ := q
  exact ⟨a, xs, h1, h2, h3, b _ _ _ _ _ h q⟩
theorem own_con {g : TG} {gs : TGs} {vs : List Nat} (h : OwnG g vs ∧ MonoG g) (hs : OwnGs gs vs ∧ MonoGs gs) : OwnGs (gCons g gs) vs ∧ MonoGs (gCons g gs) := ⟨own_cons h.1 hs.1 h.2, mono_cons h.2 hs.2⟩
theorem own_nam {i : Nat} {vs : List Nat} (h : i ∈ vs) : OwnG (gName i) vs ∧ MonoG (gName i) := ⟨own_name h, mono_name⟩
theorem own_ni {vs : List Nat} : OwnGs gNil vs ∧ MonoGs gNil := ⟨own_nil, mono_nil⟩
theorem own_tu {K : PySem.W.Frag} {n : Nat} {gs : TGs} {vs : List Nat} (h : OwnGs gs vs ∧ MonoGs gs) : OwnG (gTup K n gs) vs ∧ MonoG (gTup K n gs) := ⟨own_tup h.1, mono_tup h.2⟩
end DL
namespace PySem.W
open PySem PySem.Spec PySem.Calls PyProof.Rows
section
variable {prog : Program} {w : World} {A : Around} {E : Value → Shared → Prop} {s : Shared}
theorem rev_items (xs : Array Value) : ((List.range xs.size).filterMap fun (k : Nat) => xs[(((xs.size : Int) - 1) + (k : Int) * (-1)).toNat]?) = xs.toList.reverse := by
  have h := congrArg Array.toList (krv_pick xs)
  unfold slicePick at h
  rw [krv_bounds] at h
  rw [show xs.toList.reverse.toArray.toList = xs.toList.reverse from by simp] at h
  rw [← h]
  show _ = ((sliceRange ((xs.size : Int) - 1) (-1) (-1)).filterMap (xs[·]?))
  rw [krv_sliceRange, List.filterMap_map]
  have go : ∀ l : List Nat, (∀ k ∈ l, k < xs.size) → (l.filterMap fun (k : Nat) => xs[(((xs.size : Int) - 1) + (k : Int) * (-1)).toNat]?) = l.filterMap ((fun x => xs[x]?) ∘ fun k => xs.size - 1 - k) := by
    intro l
    induction l with
    | nil => intro _; rfl
    | cons k l ih =>
      intro h
      have hk := h k List.mem_cons_self
      rw [List.filterMap_cons, List.filterMap_cons, ih fun j hj => h j (List.mem_cons_of_mem _ hj)]
      have e : xs[(((xs.size : Int) - 1) + (k : Int) * (-1)).toNat]? = ((fun x => xs[x]?) ∘ fun k => xs.size - 1 - k) k := by
        show _ = xs[xs.size - 1 - k]?
        rw [show (((xs.size : Int) - 1) + (k : Int) * (-1)).toNat = xs.size - 1 - k by omega]
      rw [e]
  exact go _ fun k hk => List.mem_range.mp hk
theorem applied_back {sl : Addr} {k : Tok} {n : Nat} {Q : Int × Int × Nat → Shared → Prop} (hs : s.heap.IsSliceOf sl .none .none (.int (-1) k)) (h : Q ((n : Int) - 1, -1, n) s) : wpAny (model prog w) A (Builtin.Slice.sliceApplied (.ref sl) (pure (n : Int))) Q E s := by
  obtain ⟨os, hos, _, hds⟩ := id hs
  have f0 : ∀ {Q : Value → Shared → Prop}, Q .none s → wpAny (model prog w) A (field (.ref sl) 0) Q E s := fun q => wpAny_field hos hds (x := .none) rfl q
  have f1 : ∀ {Q : Value → Shared → Prop}, Q .none s → wpAny (model prog w) A (field (.ref sl) 1) Q E s := fun q => wpAny_field hos hds (x := .none) rfl q
  have f2 : ∀ {Q : Value → Shared → Prop}, Q (.int (-1) k) s → wpAny (model prog w) A (field (.ref sl) 2) Q E s := fun q => wpAny_field hos hds (x := .int (-1) k) rfl q
  unfold Builtin.Slice.sliceApplied Builtin.Slice.sliceFields
  refine wpAny_bind (wpAny_bind (f0 (wpAny_bind (f1 (wpAny_bind (f2 (wpAny_pure ?_)))))))
  refine wpAny_bind (slicePart_int ?_)
  show wpAny _ _ (if ((-1 : Int) == 0) = true then _ else _) _ _ s
  rw [if_neg (by decide)]
  have e2 : Builtin.Slice.slicePlaces ((n : Int) - 1) (-1) (-1) = n := by
    unfold Builtin.Slice.slicePlaces
    rw [if_neg (by decide)]
    by_cases z : (n : Int) - 1 > -1
    · rw [if_pos z, show (-(-1 : Int)) = 1 from rfl, Int.ediv_one]
      omega
    · rw [if_neg z]
      omega
  refine wpAny_bind (slicePart_none (wpAny_bind (slicePart_none (wpAny_bind (wpAny_pure ?_)))))
  show wpAny _ _ (pure ((n : Int) - 1, (-1 : Int), Builtin.Slice.slicePlaces ((n : Int) - 1) (-1) (-1))) _ _ s
  rw [e2]
  exact wpAny_pure h
theorem item_back {t sl : Addr} {items : Array Value} {k : Tok} {Q : Value → Shared → Prop} (ht : IsTup s.heap t items) (hs : s.heap.IsSliceOf sl .none .none (.int (-1) k)) (hz : items.size ≤ sizeLine)
    (h : Q (.ref s.heap.objs.size) { s with heap := s.heap.push { cls := .type "tuple", data := .seq items.toList.reverse.toArray } }) : wpAny (model prog w) A (getItem (.ref t) (.ref sl)) Q E s := by
  have fits : sizeOk (.seq items.toList.reverse.toArray) := by
    show items.toList.reverse.toArray.size ≤ sizeLine
    simpa using hz
  obtain ⟨os, hos, hcs, _⟩ := id hs
  have isSl : s.TypeIs (.ref sl) "slice" := ⟨os, hos, hcs⟩
  unfold getItem
  have key : ∀ R : Value → Shared → Prop, R (.ref s.heap.objs.size) { s with heap := s.heap.push { cls := .type "tuple", data := .seq items.toList.reverse.toArray } } →
      wpAny (model prog w) A.in1 (Builtin.«tuple.__getitem__» ⟨[.ref t, .ref sl], []⟩) (fun f s' => ∃ v, f = Fin.done (.ret v) ∧ R v s') E s := by
    intro R h
    show wpAny _ _ (Builtin.Tuple.tupleItemsOf (.ref t) >>= _) _ _ s
    refine wpAny_bind (tupleItemsOf_ ht (wpAny_bind (wpAny_typeOf isSl ?_)))
    rw [if_pos (by decide)]
    refine wpAny_bind (applied_back hs ?_)
    show wpAny _ _ (if (((items.size : Int) - 1) == 0 && (-1 : Int) == 1 && items.size == items.size) = true then _ else _) _ _ s
    rw [if_neg (by rw [show ((-1 : Int) == 1) = false from rfl, Bool.and_false, Bool.false_and]; exact Bool.false_ne_true), rev_items]
    first
      | exact wpAny_bind (m := Builtin.Tuple.tupleExact _) (wpAny_newObj_type (wpAny_pure ⟨_, rfl, h⟩) fits)
      | exact wpAny_bind (wpAny_bind (m := Builtin.Tuple.tupleExact _) (wpAny_newObj_type (wpAny_pure ⟨_, rfl, h⟩) fits))
      | exact wpAny_bind (wpAny_bind (m := Builtin.Tuple.tupleExact _) (wpAny_newObj_type (wpAny_pure (wpAny_pure ⟨_, rfl, h⟩)) fits))
      | exact wpAny_bind (m := Builtin.Tuple.tupleExact _) (wpAny_newObj_type (wpAny_bind (wpAny_pure (wpAny_pure ⟨_, rfl, h⟩))) fits)
  refine wpAny_holding (wpAny_bind (wpAny_sequenceKey ht.typeIs (by decide) (wpAny_bind ?_)))
  refine wpAny_callSpecial?_slot (name := Str.ofString "__getitem__") ht.typeIs slot_tuple_getitem ?_
  refine wpAny_call_entry slot_tuple_getitem ht.typeIs PyProof.Rows.entry_tuple_getitem (key _ ?_) (PyProof.Rows.args_tuple_getitem _ _)
  exact wpAny_pure h
end
end PySem.W
namespace L2
open PySem PySem.Spec PyProof.Rows
def tRevT (K : PySem.W.Frag) (te : TE) : TE := fun σ H Q => te σ H fun x H1 => ∃ a xs, x = .ref a ∧ SqT K H1 a xs ∧ ∀ p, H1 p = none → Q (.ref p) (upd H1 p (.tup xs.reverse))
theorem pe_revT {X : Cx} {e : Expr} {te : TE} {k : Nat} {p1 p2 p3 pos : Pos} (he : PE X e te) : PE X (.Subscript e (.Slice none none (some (.UnaryOp .USub (.Constant (.int 1) k p1) p2)) p3) pos) (tRevT X.K te) := by
  constructor
  intro pins s σ H Q I h
  refine Subscript_ (thn (he.run pins s σ H _ I h) fun v s1 z => ?_)
  obtain ⟨x, H1, I1, r1, a, xs, ex, hx, q⟩ := z
  subst ex
  cases r1
  have step : PO X (some (.UnaryOp .USub (.Constant (.int 1) k p1) p2)) (tPart (tUn (rU fun i => .int (-i)) (tC (.int 1)))) := po_some (pe_un un_neg pe_int)
  refine wpAny_Slice (thn (po_none.run pins s1 σ H1 (fun o H2 => o = none ∧ H2 = H1) I1 ⟨rfl, rfl⟩) fun vl s2 z2 => ?_)
  obtain ⟨l, H2, I2, pl, rfl, rfl⟩ := z2
  refine thn (po_none.run pins s2 σ H2 (fun o H3 => o = none ∧ H3 = H2) I2 ⟨rfl, rfl⟩) fun vu s3 z3 => ?_
  obtain ⟨u, H3, I3, pu, rfl, rfl⟩ := z3
  refine thn (step.run pins s3 σ H3 (fun o H4 => o = some (-1) ∧ H4 = H3) I3 ⟨1, rfl, -1, rfl, rfl, rfl⟩) fun vs s4 z4 => ?_
  obtain ⟨o, H4, I4, ps, rfl, rfl⟩ := z4
  cases pl
  cases pu
  cases ps with
  | int _ t =>
    have I5 : Inv X pins σ H4 { s4 with heap := s4.heap.push { cls := .type "slice", data := .fields #[.none, .none, .int (-1) t] } } := I4.kept (t' := s4.toks) fun b ob z => Heap.get?_push_of_some _ z
    obtain ⟨its, r, ht, hz⟩ := I5.tuple hx
    have hlen := r.length
    show wpAny (model X.prog X.w) X.A (subscriptTail e (.Slice none none (some (.UnaryOp .USub (.Constant (.int 1) k p1) p2)) p3) (.ref a) (.ref s4.heap.objs.size)) (EP X pins σ Q) X.xe { s4 with heap := s4.heap.push { cls := .type "slice", data := .fields #[.none, .none, .int (-1) t] } }
    refine tail_any (ops := [.ref a, .ref s4.heap.objs.size]) ht.typeIs PyProof.Rows.slot_tuple_getitem.lookup ?_ (by with_unfolding_all rfl)
    refine PySem.W.item_back ht (Heap.IsSliceOf.new _ .none .none (.int (-1) t)) (by rw [List.size_toArray]; omega) ?_
    rw [show its.toArray.toList = its from by simp]
    refine ⟨.ref _, _, I5.laid (t' := s4.toks) (o := .tup xs.reverse) (fun b ob z => Heap.get?_push_of_some _ z) (Nat.le_refl _) ?_, rfl, q _ (I5.hok.fresh (Nat.le_refl _))⟩
    exact ⟨by rw [List.length_reverse]; exact hz, _, r.reverse, IsTup.new _ _⟩
end L2
set_option autoImplicit false
namespace DL
open PySem PySem.Spec PyProof.Rows L2
theorem hu100 {k : Nat} {A : Around} (hr : Room k A) : A.units + 100 < cLine := by have := hr.un; omega
theorem hu64_of {k : Nat} {A : Around} (hr : Room k A) : A.units + 64 < cLine := by have := hr.un; omega
theorem hu1_of {k : Nat} {A : Around} (hr : Room k A) : A.units + 1 < cLine := by have := hr.un; omega
/-- how often a while turns at most: the int in slot i, and once more -/
def fuelI (i : Nat) (ρ : Cs) : Nat := match ρ[i]? with
  | some (.dat (.int n)) => n.natAbs + 1
  | _ => 0
def alikes (ps : List PyData) : Bool := ps.all fun a => ps.all fun b => PySem.W.alike a b
def hasHead : PyData → Bool
  | .tuple (_ :: _) => true
  | _ => false
def noTup : PyData → Bool
  | .tuple _ | .none => false
  | _ => true
def sortable (ps : List PyData) : Bool := ps.all hasHead || ps.all noTup
def lowP (ps : List PyData) : Bool := ps.all fun p => decide (p.depth ≤ 64)
theorem alikes_of {ps : List PyData} (h : alikes ps = true) : PySem.W.AllAlike ps := fun d hd e he => by
  have := List.all_eq_true.mp h d hd
  exact List.all_eq_true.mp this e he
theorem sortable_of {ps : List PyData} (h : sortable ps = true) : PySem.W.Sortable ps := by
  unfold sortable at h
  rcases Bool.or_eq_true_iff.mp h with h | h
  · refine .inl fun d hd => ?_
    have := List.all_eq_true.mp h d hd
    unfold hasHead at this
    split at this
    · exact ⟨_, _, rfl⟩
    · cases this
  · refine .inr fun d hd => ?_
    have := List.all_eq_true.mp h d hd
    unfold noTup at this
    split at this
    · cases this
    · cases this
    · rename_i h1 h2
      exact ⟨h2, fun xs e => h1 xs e⟩
/-- Python's order of data -/
abbrev leD : D → D → Bool := PySem.W.dataLe false toP
def dSorted : List D → Option D
  | [.lst ds] => if plains ds = true ∧ alikes (toPs ds) = true ∧ sortable (toPs ds) = true ∧ lowP (toPs ds) = true ∧ ds.length ≤ sizeLine then some (.lst (ds.mergeSort leD)) else none
  | _ => none
theorem toPs_map : ∀ ds : List D, toPs ds = ds.map toP
  | [] => by simp [toPs]
  | d :: r => by rw [toPs, toPs_map r, List.map_cons]
theorem plains_mem : ∀ {ds : List D} {d : D}, plains ds = true → d ∈ ds → plain d = true
  | e :: r, d, h, m => by
    simp only [plains, Bool.and_eq_true] at h
    rcases List.mem_cons.mp m with rfl | m
    · exact h.1
    · exact plains_mem h.2 m
theorem zip_map2 {K : PySem.W.Frag} {M : Addr → Prop} {H : Hp} : ∀ {xs : List V} {ds : List D}, DatAll K M H xs ds → (xs.zip ds).map (·.2) = ds ∧ (xs.zip ds).map (·.1) = xs ∧ ∀ p ∈ xs.zip ds, Dat K M H p.1 p.2
  | _, _, .nil => ⟨rfl, rfl, fun _ h => by simp at h⟩
  | _, _, .cons h t => by
    obtain ⟨a, b, c⟩ := zip_map2 t
    refine ⟨by rw [List.zip_cons_cons, List.map_cons, a], by rw [List.zip_cons_cons, List.map_cons, b], fun p hp => ?_⟩
    rcases List.mem_cons.mp hp with rfl | hp
    · exact h
    · exact c p hp
theorem each_zip {K : PySem.W.Frag} {M : Addr → Prop} {H : Hp} : ∀ {xs : List V} {ds : List D} {us : List Value}, DatAll K M H xs ds → Vals xs us → PySem.W.EachIs (fun u (b : V × D) => RelV b.1 u) us (xs.zip ds)
  | _, _, _, .nil, .nil => .nil
  | _, _, _, .cons _ t, .cons r rs => .cons r (each_zip t rs)
theorem each_vals : ∀ {bs : List (V × D)} {us : List Value}, PySem.W.EachIs (fun u (b : V × D) => RelV b.1 u) us bs → Vals (bs.map (·.1)) us
  | [], _, .nil => .nil
  | _ :: _, _, .cons r t => .cons r (each_vals t)
theorem dat_of_mem {K : PySem.W.Frag} {M : Addr → Prop} {H : Hp} : ∀ {bs : List (V × D)}, (∀ p ∈ bs, Dat K M H p.1 p.2) → DatAll K M H (bs.map (·.1)) (bs.map (·.2))
  | [], _ => .nil
  | b :: bs, h => .cons (h b List.mem_cons_self) (dat_of_mem fun p hp => h p (List.mem_cons_of_mem _ hp))
theorem call_SORTED {X : Cx} (hu : X.A.units + 100 < cLine) : CallR X (.builtin "sorted") (rCN X.K dSorted) := by
  intro pins s σ H xs us Q I r h
  obtain ⟨M, ds, z, k, hd, hg, q⟩ := h
  unfold dSorted at hg
  split at hg <;> try (cases hg; done)
  rename_i ds
  obtain ⟨⟨h1, h2, h3, h4, h5⟩, rfl⟩ := if_some hg
  obtain ⟨v, rfl, hv⟩ := one_of hd
  obtain ⟨u, rfl, ru⟩ := vals1 r
  cases hv with
  | @lst a vs _ n hH hx =>
    cases ru
    obtain ⟨its, rv, pl, hz⟩ := I.list (SqL.of hH)
    obtain ⟨z1, z2, z3⟩ := zip_map2 hx
    have em : (vs.zip ds).map (fun b => toP b.2) = toPs ds := by
      rw [toPs_map, ← z1, List.map_map, z1]
      rfl
    refine PySem.W.sorted_data (bs := vs.zip ds) (enc := fun b => toP b.2) (R := fun u b => RelV b.1 u) pl.isList (each_zip hx rv) ?_ (by rw [em]; exact alikes_of h2) (by rw [em]; exact sortable_of h3) ?_ ?_ fun out hl e => ?_
    · -- they read as their data
      refine (PySem.W.each_mem (each_zip hx rv)).mono fun u b hb => ?_
      exact (z3 b hb.2).reads I b.2 b.1 u (plains_mem h1 (by rw [← z1]; exact List.mem_map.mpr ⟨b, hb.2, rfl⟩)) hb.1
    · have : (vs.zip ds).length = ds.length := by rw [← z1, List.length_map, z1]
      rw [this]; exact h5
    · intro b hb
      have : toP b.2 ∈ toPs ds := by rw [← em]; exact List.mem_map.mpr ⟨b, hb, rfl⟩
      have := of_decide_eq_true (List.all_eq_true.mp h4 _ this)
      omega
    · have es : (((vs.zip ds).mergeSort (PySem.W.dataLe false fun b : V × D => toP b.2)).map (·.2)) = ds.mergeSort leD := by
        refine (List.map_mergeSort (r := PySem.W.dataLe false fun b : V × D => toP b.2) (s := leD) (f := fun b : V × D => b.2) fun a _ b _ => rfl).trans ?_
        rw [z1]
      have ev := each_vals e
      have hall : DatAll X.K M H (((vs.zip ds).mergeSort (PySem.W.dataLe false fun b : V × D => toP b.2)).map (·.1)) (ds.mergeSort leD) := by
        rw [← es]
        exact dat_of_mem fun p hp => z3 p (List.mem_mergeSort.mp hp)
      obtain ⟨m, hm⟩ := PyProof.Rows.sortedAll_at s.heap its out.toArray
      have fresh := I.hok.fresh (Nat.le_succ s.heap.objs.size)
      have hlen : (((vs.zip ds).mergeSort (PySem.W.dataLe false fun b : V × D => toP b.2)).map (·.1)).length ≤ sizeLine := by
        rw [hall.length, List.length_mergeSort]; exact h5
      refine ⟨.ref (s.heap.objs.size + 1), upd H (s.heap.objs.size + 1) (.lst (((vs.zip ds).mergeSort (PySem.W.dataLe false fun b : V × D => toP b.2)).map (·.1))), I.laid (t' := s.toks) (fun b o e => PyProof.Rows.sortedAll_old e) (Nat.le_succ _) ⟨hlen, out, m, ev, hm⟩, rfl, ?_⟩
      exact q _ _ _ fresh (same_new fresh) upd_same (.lst hall)
def dRevT : D → Option D
  | .tup ds => some (.tup ds.reverse)
  | _ => none
def aStar (a : Mo D) (r : Mo (List D)) : Mo (List D) := mBd a fun x => mBd (mL (match x with
  | .tup ds => some ds
  | .lst ds => some ds
  | _ => none)) fun ds => mBd r fun ys => mC (ds ++ ys)
section
variable {X : Cx} {K : PySem.W.Frag} {c : Ctx K} {a b e : Expr} {es : List Expr} {pos : Pos} {ta te : TE} {ma me : Mo D} {tl : TA} {ml : Mo (List D)}
theorem r_revT (h : REv c ta ma) : REv c (tRevT K ta) (mUn dRevT ma) := by
  intro M σ H ρ S d ρ' hm Q q
  obtain ⟨x, ρ1, h1, hm1⟩ := mBd_some hm
  obtain ⟨hg, e⟩ := mL_some hm1
  subst e
  refine h M σ H ρ S x _ h1 _ fun M1 v H1 E1 S1 dv => ?_
  cases x <;> try (simp [dRevT] at hg; done)
  cases hg
  cases dv with
  | tup hH hx =>
    refine ⟨_, _, rfl, hH, fun p hp => ?_⟩
    have t := dat_tup hp hx.reverse
    exact q M1 _ _ (E1.trans (.same t.1) S.kind) (S1.same t.1) t.2
theorem d_revT {k : Nat} {kk} {p1 p2 p3 : Pos} (h : DE X c e ta ma) (hK : X.K = K := by rfl) : DE X c (.Subscript e (.Slice none none (some (.UnaryOp .USub (.Constant (.int 1) kk p1) p2)) p3) pos) (tRevT K ta) (mUn dRevT ma) := ⟨by rw [← hK]; exact pe_revT h.p, r_revT h.r⟩
theorem r_astar (ha : REv c ta ma) (hr : RAv c tl ml) : RAv c (StX.tStar K ta tl) (aStar ma ml) := by
  intro M σ H ρ S ds ρ' hm Q q
  obtain ⟨x, ρ1, h1, hm1⟩ := mBd_some hm
  obtain ⟨es, ρ2, h2, hm2⟩ := mBd_some hm1
  obtain ⟨hg, e⟩ := mL_some h2
  subst e
  obtain ⟨ys, ρ3, h3, hm3⟩ := mBd_some hm2
  obtain ⟨e1, e2⟩ := mC_some hm3
  subst e1 e2
  refine ha M σ H ρ S x _ h1 _ fun M1 v H1 E1 S1 dv => ?_
  split at hg <;> try (cases hg; done)
  · cases hg
    cases dv with
    | tup hH hx => exact ⟨_, _, rfl, .inl hH, hr M1 σ H1 _ S1 ys _ h3 _ fun M2 vs H2 E2 S2 d2 => q M2 _ H2 (E1.trans E2 S.kind) S2 ((hx.ev S1.kind E2.ev).append d2)⟩
  · cases hg
    cases dv with
    | lst n hH hx => exact ⟨_, _, rfl, .inr (SqL.of hH), hr M1 σ H1 _ S1 ys _ h3 _ fun M2 vs H2 E2 S2 d2 => q M2 _ H2 (E1.trans E2 S.kind) S2 ((hx.ev S1.kind E2.ev).append d2)⟩
theorem d_astar {p : Pos} (ha : DE X c e ta ma) (hr : DA X c es tl ml) (hs : starEach (.Starred e p :: es) X.env = (true, eval e X.env) :: starEach es X.env := by rfl) (hK : X.K = K := by rfl) : DA X c (.Starred e p :: es) (StX.tStar K ta tl) (aStar ma ml) := ⟨by rw [← hK]; exact StX.pa_star ha.p hr.p hs, r_astar ha.r hr.r⟩
/-- a tuple of the top -/
theorem d_gtu {x : Str} {a : Addr} {vs : List V} {ds : List D} (hm : X.mg x = some (.ref a)) (hq : ∀ H : Hp, SqT X.K H a vs) (h : ∀ M H, DatAll K M H vs ds) (hg : Gl X x := by rfl) (hd : (x == ("__debug__" : Str)) = false := by decide) (hK : X.K = K := by rfl) : DE X c (.Name x pos) (tC (.ref a)) (mC (.tup ds)) :=
  d_gd hm rfl (fun M H => .tup (by rw [← hK]; exact hq H) (h M H)) hg hd
/-- a built-in that gives a new object -/
theorem d_bltN {x : Str} {id : String} {g : List D → Option D} {p : Pos} (hc : CallR X (.builtin id) (rCN X.K g)) (hm : X.mg x = none) (hv : bootBuiltins x = some (.builtin id)) (ha : DA X c (e :: es) tl ml) (hg : Gl X x := by rfl) (hn : x ≠ "__name__" := by decide) (hdb : (x == ("__debug__" : Str)) = false := by decide)
    (he : starEach (e :: es) X.env = (false, eval e X.env) :: starEach es X.env := by rfl) (hpl : (backTo pos (starEach es X.env)).any (·.1) = false := by rfl) (hK : X.K = K := by rfl) : DN X c (.Call (.Name x p) (e :: es) [] pos) (tCB (rCN K g) tl) (mFn g ml) := ⟨by rw [← hK]; exact pe_callB hc hg hm hv ha.p hn hdb he hpl, r_fnN ha.r⟩
variable {elts : List Expr} {kk : Nat} {tpos p : Pos}
theorem i_enumT (hm : X.mg "enumerate" = none) (ha : DA X c [e] tl ml) (hg : Gl X "enumerate" := by rfl) (hs : starEach [e] X.env = [(false, eval e X.env)] := by rfl) (hK : X.K = K := by rfl) : DI X c (.Tuple elts kk tpos) (.Call (.Name "enumerate" p) [e] [] pos) (iEnumT K tl) (iFn enumT? ml) := ⟨by rw [← hK]; exact pi_enumT hg hm ha.p hs, r_ienumT ha.r⟩
def seqS : D → Option (List D)
  | .str z => some (z.cps.toList.map fun c => D.str ⟨#[c]⟩)
  | _ => none
theorem i_str {tg : Expr} (h : DE X c e te me) : DI X c tg e (iStr te) (iSeq seqS me) := ⟨pi_str h.p, by
  intro M σ H ρ S ds ρ' hm R q
  obtain ⟨d, ρ1, h1, h2⟩ := mBd_some hm
  obtain ⟨h3, e⟩ := mL_some h2
  subst e
  refine h.r M σ H ρ S d _ h1 _ fun M' v H' E S' hd => ?_
  cases d <;> simp [seqS] at h3
  subst h3
  cases hd
  rename_i z
  refine ⟨z, rfl, q M' H' _ _ _ E S' ⟨by rw [List.length_map, Array.length_toList]; exact walk_str, fun _ _ _ => trivial, fun i M1 H1 x H2 e k hi y => ?_⟩⟩
  obtain ⟨rfl, c, hc, rfl⟩ := y
  exact ⟨.refl _, .str ⟨#[c]⟩, by rw [List.getElem?_map, Array.getElem?_toList, hc]; rfl, .str _⟩⟩
end
section
variable {X : Cx} {K : PySem.W.Frag} {c : Ctx K} {elt tg iter e : Expr} {es : List Expr} {ifs : List Expr} {scope : Scope} {own : List (Str × Nat)} {pos spos : Pos} {wi : TI} {g : TG} {tt : TT} {te : TE} {mi : Mo (List D)} {mg : D → Mo Unit} {mt : Mo Bool} {me : Mo D} {tl : TA} {ml : Mo (List D)}
/-- i, .. = a, .. by way of a tuple -/
theorem s_parT {fs : List Bool} {is : List Nat} {n : Nat} {k1 k2 : Nat} {ts : List Expr} {pt pe : Pos} (hn : is.length = n) (ha : DF X c es tl fs ml) (hg : PGs X ts (gNames is)) (hc : X.calm = true := by rfl) (hz : n ≤ 1000 := by decide) (hl : (assignEach ts X.env).length = n := by rfl) (hst : (assignEach ts X.env).findIdx? (·.1) = none := by rfl)
    (hs : swapsWithSole [.Tuple ts k1 pt] (.Tuple es k2 pe) pos.line X.env = pure false := by rfl) (hw : swappedStores [.Tuple ts k1 pt] (.Tuple es k2 pe) X.env = pure none := by rfl) (h1 : (assignEach [.Tuple ts k1 pt] X.env).map (·.2) = [assign (.Tuple ts k1 pt) X.env] := by rfl) (hK : X.K = K := by rfl) :
    DS X c (.Assign [.Tuple ts k1 pt] (.Tuple es k2 pe) pos) (tAsg (tTup tl) (gTup K n (gNames is))) (sPar is fs ml) := ⟨by rw [← hK]; exact ps_asg (pe_tup ha.p) (pg_tup hc hg hl hst) hs hw h1, r_parT hn hz ha.r⟩
theorem s_app {y : Str} {p apos cpos : Pos} (i : Nat) (he : DE X c e te me) (hN : X.N[i]? = some y := by rfl) (hv : Vis X.env.scope y := by first | exact Or.inl rfl | exact Or.inr (Or.inl rfl) | exact Or.inr (Or.inr rfl)) (hd : (y == ("__debug__" : Str)) = false := by decide) (hcd : (y == ("__classdict__" : Str)) = false := by decide)
    (hbase : attributeBase (.Name y p) "append" X.env (eval (.Name y p) X.env) = eval (.Name y p) X.env := by rfl)
    (hfew : ((backTo cpos (starEach [e] X.env)).all (fun x => !x.1) && (backToKw cpos (keywordEach [] X.env)).all (fun x => x.1.isSome) && decide (([e] : List Expr).length + ([] : List Keyword).length + (if ([] : List Keyword).isEmpty then 0 else 1) < 30)) = true := by rfl)
    (hline : (apos.endLine == cpos.line) = true := by rfl) (hs : starEach [e] X.env = (false, eval e X.env) :: starEach [] X.env := by rfl) (hplain : (backTo cpos (starEach [] X.env)).any (·.1) = false := by rfl)
    (hsw : swapsWith (.Call (.Attribute (.Name y p) "append" apos) [e] [] cpos) none pos.line X.env = pure false := by rfl) (hK : X.K = K := by rfl) :
    DS X c (.Expr (.Call (.Attribute (.Name y p) "append" apos) [e] [] cpos) pos) (tDrop (tBM K "list" rAppend (tVar i) (tCons te tNil))) (sAppV i me) :=
  ⟨by rw [← hK]; exact ps_expr (pe_bm PySem.F.plainAttrs_list PySem.F.slot_list_append PySem.F.type_list_append mt_append (pv i hN hv hd hcd) (pa_cons he.p pa_nil hs) hbase hfew hline hs hplain) hsw, r_app he.r⟩
theorem g_put {y : Str} {i : Expr} {p : Pos} {ti : TE} {mi : Mo D} (j : Nat) (hi : DE X c i ti mi) (hN : X.N[j]? = some y := by rfl) (hv : Vis X.env.scope y := by first | exact Or.inl rfl | exact Or.inr (Or.inl rfl) | exact Or.inr (Or.inr rfl)) (hd : (y == ("__debug__" : Str)) = false := by decide) (hcd : (y == ("__classdict__" : Str)) = false := by decide)
    (ha : ∀ v, assign (.Subscript (.Name y p) i pos) X.env v = (do
      let ov ← holding [v] (eval (.Name y p) X.env)
      let iv ← holding [v, ov] (eval i X.env)
      standAt pos
      holding [v, ov, iv] (setItem ov iv v)
      release [v, ov, iv] []) := by intro _; rfl) : DG X c (.Subscript (.Name y p) i pos) (gSub (tVar j) ti rSetL) (gPut j mi) := ⟨pg_sub (pv j hN hv hd hcd) hi.p set_list ha, r_gput hi.r⟩
/-- xs.extend(e) -/
theorem r_ext {i : Nat} (h : REv c te me) : RSt c (tDrop (tBM K "list" rExtend (tVar i) (tCons te tNil))) (sExtV i me) := by
  intro M σ H ρ S f ρ' hm D q
  unfold sExtV at hm
  split at hm
  case isFalse => cases hm
  rename_i hw
  obtain ⟨p0, d0, e0⟩ := ownsL_some hw
  obtain ⟨a, ha, _, _, o0, ho0, hc0⟩ := S.own e0
  obtain ⟨d, ρ1, h1, h2⟩ := mBd_some hm
  split at h2
  · rename_i es
    split at h2
    · rename_i p ds e1
      obtain ⟨hl, e2⟩ := if_some h2
      cases e2
      cases hc0 with
      | lst _ =>
        refine ⟨_, ha, .inl ⟨rfl, _, SqL.of ho0⟩, h M σ H ρ S _ ρ1 h1 _ fun M1 v H1 E1 S1 hv => ?_⟩
        cases hv with
        | lst n hH hy =>
          obtain ⟨xs, hx, hlx, E2, S2⟩ := grown ha e1 E1 S1 hy
          exact ⟨a, _, xs, _, rfl, rfl, hx, hH, by rw [hlx, hy.length]; exact hl, q M1 _ _ E2 S2⟩
    · cases h2
  · cases h2
theorem s_ext {y : Str} {p apos cpos : Pos} (i : Nat) (he : DE X c e te me) (hN : X.N[i]? = some y := by rfl) (hv : Vis X.env.scope y := by first | exact Or.inl rfl | exact Or.inr (Or.inl rfl) | exact Or.inr (Or.inr rfl)) (hd : (y == ("__debug__" : Str)) = false := by decide) (hcd : (y == ("__classdict__" : Str)) = false := by decide)
    (hbase : attributeBase (.Name y p) "extend" X.env (eval (.Name y p) X.env) = eval (.Name y p) X.env := by rfl)
    (hfew : ((backTo cpos (starEach [e] X.env)).all (fun x => !x.1) && (backToKw cpos (keywordEach [] X.env)).all (fun x => x.1.isSome) && decide (([e] : List Expr).length + ([] : List Keyword).length + (if ([] : List Keyword).isEmpty then 0 else 1) < 30)) = true := by rfl)
    (hline : (apos.endLine == cpos.line) = true := by rfl) (hs : starEach [e] X.env = (false, eval e X.env) :: starEach [] X.env := by rfl) (hplain : (backTo cpos (starEach [] X.env)).any (·.1) = false := by rfl)
    (hsw : swapsWith (.Call (.Attribute (.Name y p) "extend" apos) [e] [] cpos) none pos.line X.env = pure false := by rfl) (hK : X.K = K := by rfl) :
    DS X c (.Expr (.Call (.Attribute (.Name y p) "extend" apos) [e] [] cpos) pos) (tDrop (tBM K "list" rExtend (tVar i) (tCons te tNil))) (sExtV i me) :=
  ⟨by rw [← hK]; exact ps_expr (pe_bm PySem.F.plainAttrs_list PySem.F.slot_list_extend PySem.F.type_list_extend mt_extend (pv i hN hv hd hcd) (pa_cons he.p pa_nil hs) hbase hfew hline hs hplain) hsw, r_ext he.r⟩
end
section
variable {P : Program} {w : World} {K : PySem.W.Frag} {mg : Str → Option Value} {base : Heap} {x qual : Str} {st : Stmt} {f : Addr} {fd : FuncData} {N ps : List Str} {k m n : Nat} {b : Mo Fl} {dvs : List V} {kws : List (Str × V)}
theorem okOD (F : FunD K x qual (defArgs st) (defBody st) (defScope st) dvs kws f fd) (S : FnScope N ps (defScope st)) (hm : ps.length = m) (hn : N.length = m + n) (B : BodyD P w K mg base qual st f N k b) : FnOk P w K mg base CX0 (k + 1) f fd ps (spO K m (runO m n b)) := by
  refine F.ok S (fun vs H Q E h => ?_) (fun cdv A outer s H vs Q E hr h => ?_)
  · obtain ⟨M, a, d0, xs, ds, r, d1, rfl, _, _, _, hd, hl, _⟩ := h
    rw [List.length_cons, hd.length, hl, hm]
  · obtain ⟨t, d⟩ := B cdv A outer s H E hr
    exact ⟨t, (d (fun _ => False) (fun _ => False) H).p.nox, run_O hn (fun M0 P0 H0 => (d M0 P0 H0).r) h⟩
end
end DL
set_option autoImplicit false
namespace DL
open PySem PySem.Spec PyProof.Rows L2
structure IsCT (K : PySem.W.Frag) (C : Addr) : Prop where
  cl : Cls K C
  ca : PySem.W.findIn K (.ref C) "__class__" = some (some (.builtin "object.__class__"))
  cn : PySem.W.specialIn K (.builtin "object.__class__") "__get__" = some (some (.builtin "getset_descriptor.__get__"))
  ct : PySem.W.takesIn K (.builtin "object.__class__") = some true
  cm : PySem.W.mroIn K C (.type "object") = some true
def dIsCT (C : Addr) : List D → Option D
  | [.ins B _ _, .cls E] => if E = C ∧ B = C then some (.bl true) else none
  | _ => none
theorem call_ISICT {X : Cx} {C : Addr} (hC : IsCT X.K C) : CallR X (.builtin "isinstance") (rC X.K (dIsCT C)) := by
  intro pins s σ H xs us Q I r h
  obtain ⟨M, ds, z, k, hd, hg, q⟩ := h
  unfold dIsCT at hg
  split at hg
  · obtain ⟨⟨rfl, rfl⟩, rfl⟩ := if_some hg
    obtain ⟨v, w, rfl, hv, hw⟩ := two_of hd
    cases hw
    cases hv with
    | ins n h _ _ => exact call_isi pins s σ H _ us Q I r ⟨_, .ref _, .ref _, .ref _, true, rfl, .own _, .base (.ins h hC.cl hC.ca hC.cn hC.ct hC.cm), by simp [PySem.W.kitOne], q _ H (.refl H) (.bl _)⟩
  · cases hg
end DL
set_option autoImplicit false
namespace DL
open PySem PySem.Spec PyProof.Rows L2
def key? : D → Option Key
  | .int i => some (.inl i)
  | .str x => some (.inr x)
  | _ => none
def keyD : Key → D
  | .inl i => .int i
  | .inr x => .str x
theorem key_kV {K : PySem.W.Frag} {M : Addr → Prop} {H : Hp} {v : V} {d : D} {k : Key} (h : Dat K M H v d) (e : key? d = some k) : v = kV k := by
  cases h <;> simp [key?] at e
  · subst e; rfl
  · subst e; rfl
theorem dat_key {K : PySem.W.Frag} {M : Addr → Prop} {H : Hp} (k : Key) : Dat K M H (kV k) (keyD k) := by
  cases k with
  | inl i => exact .int i
  | inr x => exact .str x
def lookK : List Key → List D → Key → Option D
  | x :: ks, d :: ds, k => if x = k then some d else lookK ks ds k
  | _, _, _ => none
def hasK (ks : List Key) (k : Key) : Bool := ks.any fun x => decide (x = k)
def putKs (ks : List Key) (k : Key) : List Key := if hasK ks k = true then ks else ks ++ [k]
def setDs : List Key → List D → Key → D → List D
  | x :: ks, d :: ds, k, e => (if x = k then e else d) :: setDs ks ds k e
  | _, ds, _, _ => ds
def putDs (ks : List Key) (ds : List D) (k : Key) (e : D) : List D := if hasK ks k = true then setDs ks ds k e else ds ++ [e]
section
variable {K : PySem.W.Frag} {M : Addr → Prop} {H : Hp}
theorem lookK_dat : ∀ {kvs : List (Key × V)} {ds : List D} {k : Key} {d : D}, DatAll K M H (kvs.map (·.2)) ds → lookK (kvs.map (·.1)) ds k = some d → ∃ v, valV kvs k = some v ∧ Dat K M H v d
  | [], _, _, _, _, e => by simp [lookK] at e
  | (x, v) :: r, d :: ds, k, d', .cons h t, e => by
    rw [List.map_cons, lookK] at e
    split at e
    · rename_i q
      cases e
      exact ⟨v, valV_pos q, h⟩
    · rename_i q
      obtain ⟨w, h1, h2⟩ := lookK_dat t e
      exact ⟨w, by rw [valV_neg q]; exact h1, h2⟩
theorem hasK_map (kvs : List (Key × V)) (k : Key) : hasK (kvs.map (·.1)) k = kvs.any fun kv => decide (kv.1 = k) := by
  unfold hasK
  rw [List.any_map]
  rfl
theorem setDs_dat {v : V} {e : D} (he : Dat K M H v e) : ∀ {kvs : List (Key × V)} {ds : List D} {k : Key}, DatAll K M H (kvs.map (·.2)) ds → DatAll K M H ((kvs.map fun kv => if kv.1 = k then (kv.1, v) else kv).map (·.2)) (setDs (kvs.map (·.1)) ds k e)
  | [], _, _, .nil => .nil
  | (x, w) :: r, d :: ds, k, .cons h t => by
    simp only [List.map_cons, setDs]
    by_cases q : x = k
    · rw [if_pos q, if_pos q]
      exact .cons he (setDs_dat he t)
    · rw [if_neg q, if_neg q]
      exact .cons h (setDs_dat he t)
theorem putK_keys (kvs : List (Key × V)) (k : Key) (v : V) : (putK kvs k v).map (·.1) = putKs (kvs.map (·.1)) k := by
  unfold putK putKs
  rw [hasK_map]
  split
  · rw [List.map_map]
    refine List.map_congr_left fun kv _ => ?_
    show (if kv.1 = k then (kv.1, v) else kv).1 = kv.1
    split <;> rfl
  · rw [List.map_append]; rfl
theorem putK_dat {kvs : List (Key × V)} {ds : List D} {k : Key} {v : V} {e : D} (h : DatAll K M H (kvs.map (·.2)) ds) (he : Dat K M H v e) : DatAll K M H ((putK kvs k v).map (·.2)) (putDs (kvs.map (·.1)) ds k e) := by
  unfold putK putDs
  rw [hasK_map]
  split
  · exact setDs_dat he h
  · rw [List.map_append]
    exact h.append (.cons he .nil)
end
theorem dat_dic {K : PySem.W.Frag} {M : Addr → Prop} {H : Hp} {v : V} {ks : List Key} {ds : List D} (h : Dat K M H v (.dic ks ds)) : ∃ a kvs, v = .ref a ∧ ¬ M a ∧ Rd H a (.dK kvs) ∧ kvs.map (·.1) = ks ∧ DatAll K M H (kvs.map (·.2)) ds := by
  cases h with
  | dic n hr hk ha => exact ⟨_, _, rfl, n, hr, hk, ha⟩
theorem cont_dic {K : PySem.W.Frag} {M : Addr → Prop} {H : Hp} {o : HO} {ks : List Key} {ds : List D} (h : Cont K M H o (.dic ks ds)) : ∃ kvs, o = .dK kvs ∧ kvs.map (·.1) = ks ∧ DatAll K M H (kvs.map (·.2)) ds := by
  cases h with
  | dic hk ha => exact ⟨_, rfl, hk, ha⟩
theorem keys_dat {K : PySem.W.Frag} {M : Addr → Prop} {H : Hp} : ∀ kvs : List (Key × V), DatAll K M H (kvs.map fun kv => kV kv.1) ((kvs.map (·.1)).map keyD)
  | [] => .nil
  | p :: r => .cons (dat_key p.1) (keys_dat r)
def mDNew : Mo D := mC (.dic [] [])
def mDisp1 (mk mv : Mo D) : Mo D := mBd mk fun k => mBd mv fun v => mL ((key? k).map fun k => .dic [k] [v])
def dGetD : D → D → Option D
  | .dic ks ds, k => (key? k).bind fun k => lookK ks ds k
  | _, _ => none
def ownsDc (i : Nat) (ρ : Cs) : Bool := match ρ[i]? with
  | some (.own _ (.dic _ _)) => true
  | _ => false
theorem ownsDc_some {i : Nat} {ρ : Cs} (h : ownsDc i ρ = true) : ∃ p ks ds, ρ[i]? = some (.own p (.dic ks ds)) := by
  unfold ownsDc at h
  split at h
  · exact ⟨_, _, _, by assumption⟩
  · cases h
def sDPutV (i : Nat) (mk mv : Mo D) : Mo Fl := fun ρ => if ownsDc i ρ = true then mBd mv (fun v => mBd mk fun k ρ2 => match ρ2[i]?, key? k with
  | some (.own p (.dic ks ds)), some kk => if ks.length < sizeLine then some (.nx, ρ2.set i (.own p (.dic (putKs ks kk) (putDs ks ds kk v)))) else none
  | _, _ => none) ρ else none
def dListD : List D → Option D
  | [.dic ks _] => some (.lst (ks.map keyD))
  | _ => none
section
variable {K : PySem.W.Frag} {c : Ctx K} {td ty tk tv : TE} {md my mk mv : Mo D}
theorem r_dnew : RNw c tDNewK mDNew := by
  intro M σ H ρ S d ρ' hm Q q p hp
  obtain ⟨rfl, rfl⟩ := mC_some hm
  exact r_new S .refl S hp (same_new hp) upd_same (.dic rfl .nil) q
theorem r_dget (hd : REv c td md) (hy : REv c ty my) : REv c (tDGet td ty) (mOp dGetD md my) := by
  intro M σ H ρ S d ρ' hm Q q
  obtain ⟨x, ρ1, h1, hm⟩ := mBd_some hm
  obtain ⟨y, ρ2, h2, hm⟩ := mBd_some hm
  obtain ⟨hg, rfl⟩ := mL_some hm
  refine hd M σ H ρ S x ρ1 h1 _ fun M1 v H1 E1 S1 d1 => hy M1 σ H1 ρ1 S1 y _ h2 _ fun M2 w H2 E2 S2 d2 => ?_
  have d1 := d1.ev S1.kind E2.ev
  cases x with
  | dic ks ds =>
    obtain ⟨a, kvs, rfl, n, hr, hk, ha⟩ := dat_dic d1
    subst hk
    unfold dGetD at hg
    obtain ⟨k, ek, el⟩ := Option.bind_eq_some_iff.mp hg
    obtain ⟨v', hv, hd'⟩ := lookK_dat ha el
    exact ⟨a, v', rfl, .inl ⟨kvs, k, hr, key_kV d2 ek, hv.symm⟩, q M2 v' H2 (E1.trans E2 S.kind) S2 hd'⟩
  | _ => simp [dGetD] at hg
theorem r_disp1 (hk : REv c tk mk) (hv : REv c tv mv) : RNw c (tDisp [(tk, tv)]) (mDisp1 mk mv) := by
  intro M σ H ρ S d ρ' hm Q q p hp
  obtain ⟨k, ρ1, h1, hm⟩ := mBd_some hm
  obtain ⟨v, ρ2, h2, hm⟩ := mBd_some hm
  obtain ⟨hg, rfl⟩ := mL_some hm
  obtain ⟨kk, ek, rfl⟩ := map_some hg
  obtain ⟨eD, sD, nD⟩ := S.nw (o := .dK []) (d := .dic [] []) hp (same_new hp) upd_same (.dic rfl .nil)
  refine hk _ σ _ ρ sD k ρ1 h1 _ fun M1 x H1 E1 S1 d1 => hv M1 σ H1 ρ1 S1 v _ h2 _ fun M2 y H2 E2 S2 d2 => ?_
  have n2 := (nD.es sD.kind E1).es S1.kind E2
  obtain ⟨o, ho, hc⟩ := n2.o
  obtain ⟨kvs, rfl, hz, _⟩ := cont_dic hc
  · have hz : kvs = [] := List.map_eq_nil_iff.mp hz
    subst hz
    refine ⟨ho, [(kk, y)], by rw [key_kV d1 ek]; rfl, by simp, ?_⟩
    obtain ⟨E7, S7⟩ := S2.put (o := .dK (mergeK [] [(kk, y)])) n2.m n2.h0 n2.nh trivial
    have E := (eD.trans E1 S.kind).trans E2 S.kind
    refine q M2 p _ hp ⟨E.ev.trans E7, fun b o n h => ?_, E.hs, E.mc, fun b h => E.dm b ?_⟩ S7 ⟨n2.m, n2.nh, n2.h0, n2.n0, _, upd_same, .dic rfl (.cons (d2.ev S2.kind E7) .nil)⟩
    · rw [upd_ne (fun z => by rw [z, hp] at h; cases h)]
      exact E.kp b o n h
    · by_cases z : b = p
      · subst z; rw [upd_same] at h; cases h
      · rw [upd_ne z] at h; exact h
theorem r_dput {i : Nat} (hk : REv c ty my) (hv : REv c tv mv) : RSt c (sDPut (tVar i) ty tv) (sDPutV i my mv) := by
  intro M σ H ρ S f ρ' hm D q
  unfold sDPutV at hm
  split at hm
  case isFalse => cases hm
  rename_i hw
  obtain ⟨p0, ks0, ds0, e0⟩ := ownsDc_some hw
  obtain ⟨a, ha, _, _, o0, ho0, hc0⟩ := S.own e0
  obtain ⟨v, ρ1, h1, hm⟩ := mBd_some hm
  obtain ⟨k, ρ2, h2, hm⟩ := mBd_some hm
  split at hm
  · rename_i p ks ds kk e2 ek
    obtain ⟨hl, e3⟩ := if_some hm
    cases e3
    refine hv M σ H ρ S v ρ1 h1 _ fun M1 vv H1 E1 S1 dv => ⟨_, ha, hk M1 σ H1 ρ1 S1 k ρ2 h2 _ fun M2 kv H2 E2 S2 dk => ?_⟩
    have E := E1.trans E2 S.kind
    obtain ⟨a', ha', hM, _, o, ho, hc⟩ := S2.own e2
    rw [ha] at ha'
    cases ha'
    obtain ⟨kvs, rfl, hz, hd⟩ := cont_dic hc
    · subst hz
      have ev2 : Ev M2 H2 M2 (upd H2 a (.dK (putK kvs kk vv))) := ⟨fun b h => .inl h, fun b o nb h => by rw [upd_ne (fun z => nb (by rw [z]; exact hM))]; exact h⟩
      have hd2 := (putK_dat (k := kk) hd (dv.ev S1.kind E2.ev)).ev S2.kind ev2
      have Z := S2.mut (d' := .dic (putKs (kvs.map (·.1)) kk) (putDs (kvs.map (·.1)) ds kk v)) (H' := upd H2 a (.dK (putK kvs kk vv))) ha e2 (fun b o nb h => by rw [upd_ne nb]; exact h) ⟨_, upd_same, .dic (putK_keys kvs kk vv) hd2⟩
      exact ⟨a, _, rfl, .inl ⟨kvs, kk, ho, key_kV dk ek, by simpa using hl, rfl⟩, q M2 σ _ (E.ev.trans Z.1) Z.2⟩
  · cases hm
end
section
variable {X : Cx} {K : PySem.W.Frag} {c : Ctx K} {o i k v e : Expr} {pos pos' tpos : Pos} {td ty tk tv : TE} {md my mk mv : Mo D}
theorem call_LISTD (hc : X.calm = true) : CallR X (.type "list") (rCN X.K dListD) := by
  intro pins s σ H xs us Q I r h
  obtain ⟨M, ds, z, k, hd, hg, q⟩ := h
  unfold dListD at hg
  split at hg <;> try (cases hg; done)
  cases hg
  obtain ⟨v, rfl, hv⟩ := one_of hd
  obtain ⟨a, kvs, rfl, n, hr, hk, ha⟩ := dat_dic hv
  subst hk
  exact call_listD hc pins s σ H _ us Q I r ⟨a, kvs, rfl, hr, fun p hp => q p _ _ hp (same_new hp) upd_same (.lst (keys_dat kvs))⟩
theorem d_dnew : DN X c (.Dict [] [] pos) tDNewK mDNew := ⟨pe_dnewK, r_dnew⟩
theorem d_dget (hu : X.A.units + 1 < cLine) (ho : DE X c o td md) (hi : DE X c i ty my) (hs : NoSl i := by intro _ _; rfl) : DE X c (.Subscript o i pos) (tDGet td ty) (mOp dGetD md my) := ⟨pe_dget hu ho.p hi.p hs, r_dget ho.r hi.r⟩
theorem d_disp1 (hk : DE X c k tk mk) (hv : DE X c v tv mv) : DN X c (.Dict [some k] [v] pos) (tDisp [(tk, tv)]) (mDisp1 mk mv) := ⟨pe_disp (pps_cons hk.p hv.p pps_nil) rfl rfl (by simp) (by simp), r_disp1 hk.r hv.r⟩
theorem s_dput {y : Str} {p : Pos} (hu : X.A.units + 1 < cLine) (j : Nat) (hk : DE X c i ty my) (hv : DE X c e tv mv) (hN : X.N[j]? = some y := by rfl) (hvs : Vis X.env.scope y := by first | exact Or.inl rfl | exact Or.inr (Or.inl rfl) | exact Or.inr (Or.inr rfl)) (hd : (y == ("__debug__" : Str)) = false := by decide) (hcd : (y == ("__classdict__" : Str)) = false := by decide)
    (hs : swapsWith e (some (.Subscript (.Name y p) i pos')) pos.line X.env = pure false := by rfl) : DS X c (.Assign [.Subscript (.Name y p) i pos'] e pos) (sDPut (tVar j) ty tv) (sDPutV j my mv) := ⟨ps_dput hu (pv j hN hvs hd hcd) hk.p hv.p hs, r_dput hk.r hv.r⟩
end
structure Sw (d : Addr) (kvs : List (Key × V)) (H H' : Hp) : Prop where
  off : ∀ b, b ≠ d → H' b = H b
  l : Rd H d (.dK kvs)
  r : Rd H' d (.dK kvs)
section
variable {K : PySem.W.Frag} {M M' : Addr → Prop} {H H' : Hp} {d : Addr} {kvs : List (Key × V)}
theorem Rd.one {a : Addr} {u u' : HO} (h : Rd H a u) (h' : Rd H a u') (n : ∀ o w, u ≠ .frz o w) (n' : ∀ o w, u' ≠ .frz o w) : u = u' := by
  rcases h with h | ⟨o, h⟩ <;> rcases h' with h' | ⟨o', h'⟩ <;> rw [h] at h' <;> cases h' <;> first | rfl | exact absurd rfl (n _ _) | exact absurd rfl (n' _ _)
theorem Sw.ne (s : Sw d kvs H H') {a : Addr} {u : HO} (h : Rd H a u) (n : ∀ o w, u ≠ .frz o w) (nk : ∀ ks, u ≠ .dK ks) : a ≠ d := fun z => by
  subst z
  exact nk _ (Rd.one h s.l n (fun o w q => by cases q))
theorem Sw.rd (s : Sw d kvs H H') {a : Addr} {u : HO} (h : Rd H a u) (n : ∀ o w, u ≠ .frz o w) : Rd H' a u := by
  by_cases z : a = d
  · subst z
    rw [Rd.one h s.l n (fun o w q => by cases q)]
    exact s.r
  · unfold Rd at h ⊢
    rw [s.off a z]
    exact h
mutual
theorem Dat.sw (s : Sw d kvs H H') : ∀ {v : V} {x : D}, Dat K M H v x → Dat K M H' v x
  | _, _, .non => .non
  | _, _, .bl b => .bl b
  | _, _, .int i => .int i
  | _, _, .str x => .str x
  | _, _, .tup h a => .tup (by
      rcases h with h | h
      · exact .inl (s.rd h fun o w q => by cases q)
      · exact .inr h) (DatAll.sw s a)
  | _, _, .lst n h a => .lst n (by
      have := s.ne (.inl h) (fun o w q => by cases q) (fun ks q => by cases q)
      rw [s.off _ this]; exact h) (DatAll.sw s a)
  | _, _, .dic n h q a => .dic n (s.rd h fun o w q => by cases q) q (DatAll.sw s a)
  | _, _, .dit n h q a => .dit n (s.rd h fun o w q => by cases q) q (DatAll.sw s a)
  | _, _, .ins n h q a => .ins n (by
      have := s.ne (.inl h) (fun o w q => by cases q) (fun ks q => by cases q)
      rw [s.off _ this]; exact h) q (DatAll.sw s a)
  | _, _, .cls a => .cls a
  | _, _, .ty a => .ty a
  | _, _, .scr h => .scr (by
      rcases h with (h | ⟨o, h⟩) | h
      · obtain ⟨_, _, z, _⟩ := fz_some h
        cases z
      · obtain ⟨ob, u, z, w⟩ := fz_some h
        cases z
        have := s.ne (.inr ⟨_, w⟩) (fun o w q => by cases q) (fun ks q => by cases q)
        exact .inl (.inr ⟨_, fz_of (by rw [s.off _ this]; exact w)⟩)
      · exact .inr h)
theorem DatAll.sw (s : Sw d kvs H H') : ∀ {vs : List V} {xs : List D}, DatAll K M H vs xs → DatAll K M H' vs xs
  | _, _, .nil => .nil
  | _, _, .cons r t => .cons (Dat.sw s r) (DatAll.sw s t)
end
theorem Cont.sw (s : Sw d kvs H H') {u : HO} {x : D} (o : Cont K M H u x) : Cont K M H' u x := by
  cases o with
  | lst q => exact .lst (q.sw s)
  | dic z q => exact .dic z (q.sw s)
  | dit z q => exact .dit z (q.sw s)
  | ins z q => exact .ins z (q.sw s)
theorem Own.sw (s : Sw d kvs H H') {a : Addr} {x : D} (n : a ≠ d) (o : Own K M H a x) : Own K M H' a x := by
  obtain ⟨u, h, hc⟩ := o
  exact ⟨u, by rw [s.off a n]; exact h, hc.sw s⟩
end
def Ctx.lock {K : PySem.W.Frag} (c : Ctx K) (d : Addr) (o : HO) : Ctx K := ⟨c.M0, c.P, fun b => if b = d then (c.H0 d).map fun _ => o else c.H0 b⟩
section
variable {K : PySem.W.Frag} {c : Ctx K} {M : Addr → Prop} {σ : L2.St} {H : Hp} {ρ : Cs} {d : Addr} {kvs : List (Key × V)} {od : Obj}
theorem sw_cells {H' : Hp} {c' : Ctx K} (s : Sw d kvs H H') (nM : ¬ M d) (e1 : c'.M0 = c.M0) (e2 : c'.P = c.P) {x : Option V} {y : Cell} (h : CellR c M H x y) : CellR c' M H' x y := by
  cases h with
  | no => exact .no _
  | dat q => exact .dat (q.sw s)
  | own m q w => exact .own m (by rw [e1, e2]; exact q) (w.sw s fun z => nM (by rw [← z]; exact m))
theorem Sta.lock (S : Sta c M σ H ρ) (hd : H d = some (.dK kvs)) (nM : ¬ M d) : Sta (c.lock d (.frz od (.dK kvs))) M σ (upd H d (.frz od (.dK kvs))) ρ := by
  have s : Sw d kvs H (upd H d (.frz od (.dK kvs))) := ⟨fun b n => upd_ne n, .inl hd, .inr ⟨od, upd_same⟩⟩
  refine ⟨S.pm, S.sub, fun b h n => ?_, fun b h => ?_, fun b o n h => ?_, S.len, fun i x y h1 h2 => sw_cells (c := c) (c' := c.lock d (.frz od (.dK kvs))) s nM rfl rfl (S.cell i x y h1 h2), S.inj⟩
  · have nb : b ≠ d := fun z => nM (by rw [← z]; exact h)
    show (if b = d then _ else _) = _
    rw [if_neg nb]
    exact S.new b h n
  · have nb : b ≠ d := fun z => nM (by rw [← z]; exact h)
    rw [upd_ne nb]
    exact S.kind b h
  · have h : (if b = d then (c.H0 d).map fun _ => HO.frz od (.dK kvs) else c.H0 b) = some o := h
    by_cases z : b = d
    · subst z
      rw [if_pos rfl] at h
      obtain ⟨_, _, rfl⟩ := Option.map_eq_some_iff.mp h
      exact upd_same
    · rw [if_neg z] at h
      rw [upd_ne z]
      exact S.base b o n h
theorem Sta.unlock (S : Sta (c.lock d (.frz od (.dK kvs))) M σ H ρ) (hd : H d = some (.frz od (.dK kvs))) (nM : ¬ M d) (h0 : ∀ o, c.H0 d = some o → o = .dK kvs) : Sta c M σ (upd H d (.dK kvs)) ρ := by
  have s : Sw d kvs H (upd H d (.dK kvs)) := ⟨fun b n => upd_ne n, .inr ⟨od, hd⟩, .inl upd_same⟩
  refine ⟨S.pm, S.sub, fun b h n => ?_, fun b h => ?_, fun b o n h => ?_, S.len, fun i x y h1 h2 => sw_cells (c := c.lock d (.frz od (.dK kvs))) (c' := c) s nM rfl rfl (S.cell i x y h1 h2), S.inj⟩
  · have nb : b ≠ d := fun z => nM (by rw [← z]; exact h)
    have := S.new b h n
    have this : (if b = d then (c.H0 d).map fun _ => HO.frz od (.dK kvs) else c.H0 b) = none := this
    rw [if_neg nb] at this
    exact this
  · have nb : b ≠ d := fun z => nM (by rw [← z]; exact h)
    rw [upd_ne nb]
    exact S.kind b h
  · by_cases z : b = d
    · subst z
      rw [upd_same, h0 o h]
    · rw [upd_ne z]
      refine S.base b o n ?_
      show (if b = d then _ else _) = _
      rw [if_neg z]
      exact h
end
def sForD (i : Nat) (g : D → Mo Unit) (b : Mo Fl) : Mo Fl := fun ρ => match ρ[i]? with
  | some (.dat (.dic ks _)) => goFor g b (ks.map keyD) ρ
  | _ => none
def tForK (i : Nat) (g : TG) (tb : TS) : TS := fun D σ H => tFor (iKeys (tVar i)) g tb D σ H ∨ tLock (tFor (iKeys (tVar i)) g tb) D σ H
theorem ps_forK {X : Cx} {st : Stmt} {i : Nat} {g : TG} {tb : TS} (h : PS X st (tFor (iKeys (tVar i)) g tb)) : PS X st (tForK i g tb) := ⟨fun pins s σ H D I hw => hw.elim (h.run pins s σ H D I) ((ps_lock h).run pins s σ H D I)⟩
section
variable {K : PySem.W.Frag} {c : Ctx K} {g : TG} {mg : D → Mo Unit} {tb : TS} {mb : Mo Fl}
/-- the turns of a loop, what is walked being at hand -/
theorem go_for {M' : Addr → Prop} {σ : L2.St} {H' : Hp} {ρ1 ρ' : Cs} {J : It} {ds : List D} {G : Hp → Prop} {Y : Nat → Hp → V → Hp → Prop} {f : Fl} {D : Ends} (hg : RTg c g mg) (hb : RSt c tb mb) (S' : Sta c M' σ H' ρ1) (W : Wk c M' H' J ds G Y) (h2 : goFor mg mb ds ρ1 = some (f, ρ')) (q' : Post c M' H' D f ρ') :
    ∃ W : Nat → Nat → L2.St → Hp → Prop, (∃ m, W 0 m σ H') ∧ ∀ i m σ H, W i m σ H → (J.stop i H ∧ D.nx σ H) ∨ (J.go i H ∧ ∃ N : L2.St → Hp → Prop, (∀ σ' H', N σ' H' → ∃ m', m' < m ∧ W (i + 1) m' σ' H') ∧ ∀ x H', J.yld i H x H' → g x σ H' fun σ2 H2 => tb ⟨N, D.rt, D.nx, N⟩ σ2 H2) := by
  refine for_it W.w (fun i σ2 H2 => ∃ M2 ρ2, Ev M' H' M2 H2 ∧ Sta c M2 σ2 H2 ρ2 ∧ goFor mg mb (ds.drop i) ρ2 = some (f, ρ')) ⟨M', ρ1, .refl, S', by rw [List.drop_zero]; exact h2⟩ (fun i σ2 H2 _ ⟨M2, ρ2, e, _, _⟩ => W.g M2 H2 e) ?_ ?_
  · rintro i x σ2 H2 H3 hlt ⟨M2, ρ2, e2, S2, go⟩ y
    obtain ⟨s3, d, hd, dx⟩ := W.y i M2 H2 x H3 e2 S2.kind hlt y
    rw [drop_get hd] at go
    unfold goFor at go
    cases e3 : mg d ρ2 with
    | none => rw [e3] at go; cases go
    | some r =>
      obtain ⟨u, ρ3⟩ := r
      rw [e3] at go
      simp only at go
      refine hg M2 σ2 H3 ρ2 (S2.same s3) x d dx u ρ3 e3 _ fun M4 σ4 H4 E4 S4 => ?_
      have e4 : Ev M' H' M4 H4 := (e2.trans (.same s3)).trans E4.ev
      cases e5 : mb ρ3 with
      | none => rw [e5] at go; cases go
      | some r5 =>
        obtain ⟨f5, ρ5⟩ := r5
        rw [e5] at go
        refine hb M4 σ4 H4 ρ3 S4 f5 ρ5 e5 _ ?_
        cases f5 with
        | nx => exact fun M6 σ6 H6 E6 S6 => ⟨M6, ρ5, e4.trans E6, S6, go⟩
        | ct => exact fun M6 σ6 H6 E6 S6 => ⟨M6, ρ5, e4.trans E6, S6, go⟩
        | bk =>
          cases go
          exact fun M6 σ6 H6 E6 S6 => q' M6 σ6 H6 (e4.trans E6) S6
        | rt d =>
          cases go
          exact fun M6 σ6 v H6 E6 S6 hd => q' M6 σ6 v H6 (e4.trans E6) S6 hd
        | rn d =>
          cases go
          exact fun M6 σ6 a H6 E6 S6 n => q' M6 σ6 a H6 (e4.trans E6) S6 n
  · rintro σ2 H2 ⟨M2, ρ2, e2, S2, go⟩
    rw [List.drop_length] at go
    cases go
    exact q' M2 σ2 H2 e2 S2
theorem wk_keys {M : Addr → Prop} {H : Hp} {d : Addr} {o : Obj} {kvs : List (Key × V)} (n : ¬ M d) (h : H d = some (.frz o (.dK kvs))) : Wk c M H (Itk d o kvs) ((kvs.map (·.1)).map keyD) (fun H => H d = some (.frz o (.dK kvs))) (fun i H x H' => H' = H ∧ ∃ k v, kvs[i]? = some (k, v) ∧ x = kV k) := by
  refine ⟨by rw [List.length_map, List.length_map]; exact walk_keys, fun M1 H1 e => e.h d _ n h, fun i M1 H1 x H2 e k hi y => ?_⟩
  obtain ⟨rfl, k, v, hk, rfl⟩ := y
  exact ⟨.refl _, keyD k, by rw [List.getElem?_map, List.getElem?_map, hk]; rfl, dat_key k⟩
theorem r_forD {i : Nat} (hg : ∀ c : Ctx K, RTg c g mg) (hb : ∀ c : Ctx K, RSt c tb mb) : RSt c (tForK i g tb) (sForD i mg mb) := by
  intro M σ H ρ S f ρ' hm D q
  unfold sForD at hm
  split at hm
  case h_2 => cases hm
  rename_i ks ds e0
  obtain ⟨v, hv, hd⟩ := S.dat e0
  obtain ⟨a, kvs, rfl, n, hr, hk, ha⟩ := dat_dic hd
  · subst hk
    rcases hr with hr | ⟨o, hr⟩
    · refine .inr ⟨a, .dK kvs, hr, trivial, fun od => ?_⟩
      refine ⟨_, hv, a, od, rfl, .inl ⟨kvs, upd_same, ?_⟩⟩
      have h0 : ∀ o, c.H0 a = some o → o = .dK kvs := fun o h => by
        have := S.base a o (fun z => n (S.sub a (S.pm a z))) h
        rw [hr] at this
        exact (Option.some.inj this).symm
      have nd : ∀ {M' : Addr → Prop} {H' : Hp}, Ev M (upd H a (.frz od (.dK kvs))) M' H' → ¬ M' a ∧ H' a = some (.frz od (.dK kvs)) := fun E => ⟨E.not n upd_same, E.h a _ n upd_same⟩
      have back : ∀ {M' : Addr → Prop} {H' : Hp}, Ev M (upd H a (.frz od (.dK kvs))) M' H' → Ev M H M' (upd H' a (.dK kvs)) := fun {M' H'} E => by
        refine ⟨fun b h => ?_, fun b o nb h => ?_⟩
        · rcases E.m b h with h | h
          · exact .inl h
          · by_cases z : b = a
            · subst z; rw [upd_same] at h; cases h
            · rw [upd_ne z] at h; exact .inr h
        · by_cases z : b = a
          · subst z
            rw [hr] at h
            cases h
            exact upd_same
          · rw [upd_ne z]
            exact E.h b o nb (by rw [upd_ne z]; exact h)
      have sw : ∀ {H' : Hp}, H' a = some (.frz od (.dK kvs)) → Sw a kvs H' (upd H' a (.dK kvs)) := fun h => ⟨fun b n => upd_ne n, .inr ⟨od, h⟩, .inl upd_same⟩
      refine go_for (hg _) (hb _) (S.lock hr n) (wk_keys n upd_same) hm ?_
      cases f with
      | nx => exact fun M' σ' H' E S' => ⟨(nd E).2, q M' σ' _ (back E) (S'.unlock (nd E).2 (nd E).1 h0)⟩
      | bk => exact fun M' σ' H' E S' => ⟨(nd E).2, q M' σ' _ (back E) (S'.unlock (nd E).2 (nd E).1 h0)⟩
      | ct => exact fun M' σ' H' E S' => ⟨(nd E).2, q M' σ' _ (back E) (S'.unlock (nd E).2 (nd E).1 h0)⟩
      | rt d => exact fun M' σ' v H' E S' hd => ⟨(nd E).2, q M' σ' v _ (back E) (S'.unlock (nd E).2 (nd E).1 h0) (hd.sw (sw (nd E).2))⟩
      | rn d => exact fun M' σ' b H' E S' hn => ⟨(nd E).2, q M' σ' b _ (back E) (S'.unlock (nd E).2 (nd E).1 h0) (by
          have nb : b ≠ a := fun z => (nd E).1 (by rw [← z]; exact hn.m)
          refine ⟨hn.m, hn.nh, ?_, hn.n0, hn.o.sw (sw (nd E).2) nb⟩
          have h := hn.h0
          have h : (if b = a then (c.H0 a).map fun _ => HO.frz od (.dK kvs) else c.H0 b) = none := h
          rw [if_neg nb] at h
          exact h)⟩
    · refine .inl ⟨_, hv, a, o, rfl, .inl ⟨kvs, hr, ?_⟩⟩
      exact go_for (hg _) (hb _) S (wk_keys n hr) hm q
end
theorem s_forD {X : Cx} {K : PySem.W.Frag} {c : Ctx K} {g : TG} {mg : D → Mo Unit} {tb : TS} {mb : Mo Fl} {tg : Expr} {body : List Stmt} {y : Str} {p pos : Pos} (hp : PassesOwn (model X.prog X.w) X.A X.env X.xe) (hc : X.calm = true) (i : Nat) (hg : ∀ c : Ctx K, DG X c tg g mg) (hb : ∀ c : Ctx K, DB X c body tb mb) (hN : X.N[i]? = some y := by rfl) (hv : Vis X.env.scope y := by first | exact Or.inl rfl | exact Or.inr (Or.inl rfl) | exact Or.inr (Or.inr rfl)) (hd : (y == ("__debug__" : Str)) = false := by decide) (hcd : (y == ("__classdict__" : Str)) = false := by decide)
    (hs : ∀ x, foldedSetIterable (.Name y p) X.env x = pure x := by intro _; rfl) : DS X c (.For tg (.Name y p) body [] pos) (tForK i g tb) (sForD i mg mb) := ⟨ps_forK (ps_for hp hc (pi_keys (pv i hN hv hd hcd)) (hg c).p (hb c).p hs), r_forD (fun c => (hg c).r) (fun c => (hb c).r)⟩
end DL
set_option autoImplicit false
namespace DL
open PySem PySem.Spec PyProof.Rows L2
def dListR : List D → Option D
  | [.int i] => if -(2 ^ 62) ≤ i ∧ i < 2 ^ 62 ∧ i.toNat ≤ 2 ^ 24 then some (.lst (rngD 0 i.toNat)) else none
  | [.int i, .int j] => if -(2 ^ 62) ≤ i ∧ i < 2 ^ 62 ∧ -(2 ^ 62) ≤ j ∧ j < 2 ^ 62 ∧ (j - i).toNat ≤ 2 ^ 24 then some (.lst (rngD i (j - i).toNat)) else none
  | _ => none
section
variable {X : Cx} {K : PySem.W.Frag} {c : Ctx K} {a b : Expr} {pos p p2 : Pos} {ta tb : TE} {ma mb : Mo D}
theorem rng_dat {M : Addr → Prop} {H : Hp} : ∀ (n : Nat) (lo : Int), DatAll K M H ((List.range n).map fun i => V.int (lo + (i : Nat))) (rngD lo n) := by
  intro n lo
  have := DatAll.of_ints (K := K) (M := M) (H := H) ((List.range n).map fun i : Nat => lo + (i : Int))
  rw [List.map_map, List.map_map] at this
  exact this
theorem r_listR2 (ha : REv c ta ma) (hb : REv c tb mb) : RNw c (tLstRg (tRg2 ta tb)) (mFn dListR (aCons ma (aCons mb aNil))) := by
  intro M σ H ρ S d ρ' hm Q q
  obtain ⟨ds, ρ1, h1, hm⟩ := mBd_some hm
  obtain ⟨hg, rfl⟩ := mL_some hm
  obtain ⟨x, ρ2, h2, h1⟩ := mBd_some h1
  obtain ⟨l, ρ3, h3, h1⟩ := mBd_some h1
  obtain ⟨y, ρ4, h4, h3⟩ := mBd_some h3
  obtain ⟨l2, ρ5, h5, h3⟩ := mBd_some h3
  cases h5
  cases h3
  cases h1
  refine ha M σ H ρ S x ρ2 h2 _ fun M1 v H1 E1 S1 d1 => hb M1 σ H1 ρ2 S1 y ρ' h4 _ fun M2 w H2 E2 S2 d2 => ?_
  cases x with
  | int i =>
    cases y with
    | int j =>
      cases d1
      cases d2
      unfold dListR at hg
      obtain ⟨⟨b1, b2, b3, b4, b5⟩, rfl⟩ := if_some hg
      refine ⟨i, j, rfl, rfl, ⟨b1, b2, b3, b4, b5⟩, fun p hp => ?_⟩
      exact r_new S (E1.trans E2 S.kind) S2 hp (same_new hp) upd_same (.lst (rng_dat _ _)) q
    | _ => simp [dListR] at hg
  | _ => simp [dListR] at hg
theorem d_listR2 {p3 : Pos} (hc : X.calm = true) (hm : X.mg "list" = none) (hm2 : X.mg "range" = none) (ha : DE X c a ta ma) (hb : DE X c b tb mb) (hg : Gl X "list" := by rfl) (hg2 : Gl X "range" := by rfl) (na : starEach [a, b] X.env = (false, eval a X.env) :: starEach [b] X.env := by rfl)
    (nb : starEach [b] X.env = (false, eval b X.env) :: starEach [] X.env := by rfl) (hp : (backTo p (starEach [b] X.env)).any (·.1) = false := by rfl) (nc : starEach [.Call (.Name "range" p2) [a, b] [] p] X.env = (false, eval (.Call (.Name "range" p2) [a, b] [] p) X.env) :: starEach [] X.env := by rfl) : DN X c (.Call (.Name "list" p3) [.Call (.Name "range" p2) [a, b] [] p] [] pos) (tLstRg (tRg2 ta tb)) (mFn dListR (aCons ma (aCons mb aNil))) := ⟨pe_listRg hc hg hm (prg_2 hg2 hm2 ha.p hb.p na nb hp) nc, r_listR2 ha.r hb.r⟩
end
end DL
set_option autoImplicit false
namespace DL
open PySem PySem.Spec PyProof.Rows L2
section
variable {ρ ρ1 ρ2 ρ3 : Cs} {a b e : Mo D} {t t' : Mo Bool} {l : Mo (List D)} {x y z d : D} {ds es : List D} {g : D → D → Option D} {u : D → Option D} {f : List D → Option D} {i : Nat} {p q : Bool}
theorem e_c {α : Type} {v : α} : mC v ρ = some (v, ρ) := rfl
theorem e_var (h : ρ[i]? = some (.dat d)) : mVar i ρ = some (d, ρ) := by unfold mVar; rw [h]
theorem e_varO (h : ρ[i]? = some (.own false d)) : mVar i ρ = some (d, ρ.set i (.dat d)) := by unfold mVar; rw [h]
theorem e_as {α : Type} {m : Mo α} {v w : α} (h : m ρ = some (v, ρ1)) (e : ρ1 = ρ2) (e' : v = w) : m ρ = some (w, ρ2) := by rw [h, e, e']
theorem e_bd {α β : Type} {m : Mo α} {k : α → Mo β} {v : α} {r : Option (β × Cs)} (h : m ρ = some (v, ρ1)) (hk : k v ρ1 = r) : mBd m k ρ = r := by unfold mBd; rw [h]; exact hk
theorem e_l {α : Type} {o : Option α} {v : α} (h : o = some v) : mL o ρ = some (v, ρ) := by unfold mL; rw [h]
theorem e_op (ha : a ρ = some (x, ρ1)) (hb : b ρ1 = some (y, ρ2)) (hg : g x y = some z) : mOp g a b ρ = some (z, ρ2) := e_bd ha (e_bd hb (e_l hg))
theorem e_un (ha : a ρ = some (x, ρ1)) (hg : u x = some z) : mUn u a ρ = some (z, ρ1) := e_bd ha (e_l hg)
theorem e_tst (ha : a ρ = some (.bl p, ρ1)) : mTst a ρ = some (p, ρ1) := e_bd ha (e_l rfl)
theorem e_anil : aNil ρ = some ([], ρ) := rfl
theorem e_acons (ha : a ρ = some (x, ρ1)) (hl : l ρ1 = some (ds, ρ2)) : aCons a l ρ = some (x :: ds, ρ2) := e_bd ha (e_bd hl rfl)
theorem e_tup (h : l ρ = some (ds, ρ1)) (hl : ds.length ≤ sizeLine) : mTup l ρ = some (.tup ds, ρ1) := e_bd h (e_l (if_pos hl))
theorem e_lst (h : l ρ = some (ds, ρ1)) (hl : ds.length ≤ sizeLine) : mLst l ρ = some (.lst ds, ρ1) := e_bd h (e_l (if_pos hl))
theorem e_fn (h : l ρ = some (ds, ρ1)) (hg : f ds = some z) : mFn f l ρ = some (z, ρ1) := e_bd h (e_l hg)
theorem e_chain {h : D → D → Option D} {c : Mo D} (ha : a ρ = some (x, ρ)) (hb : b ρ = some (y, ρ)) (hg : g x y = some (.bl p)) (hc : c ρ = some (z, ρ)) (hh : h y z = some (.bl q)) : mChain g h a b c ρ = some (.bl (p && q), ρ) := by
  refine e_bd ha (e_bd hb (e_bd (e_l hg) (e_bd (e_l rfl) ?_)))
  cases p with
  | true => exact e_bd hc (e_l hh)
  | false => rfl
theorem e_notV (ha : a ρ = some (.bl p, ρ1)) : mNotV a ρ = some (.bl (!p), ρ1) := e_bd (e_tst ha) rfl
theorem e_andV (ha : a ρ = some (.bl p, ρ1)) (hb : b ρ1 = some (.bl q, ρ1)) : mAndV a b ρ = some (.bl (p && q), ρ1) := by
  refine e_bd (e_tst ha) ?_
  cases p with
  | true => exact hb
  | false => rfl
theorem e_orV (ha : a ρ = some (.bl p, ρ1)) (hb : b ρ1 = some (.bl q, ρ1)) : mOrV a b ρ = some (.bl (p || q), ρ1) := by
  refine e_bd (e_tst ha) ?_
  cases p with
  | true => rfl
  | false => exact hb
theorem e_not (ha : t ρ = some (p, ρ1)) : mNot t ρ = some (!p, ρ1) := e_bd ha rfl
theorem e_and (ha : t ρ = some (p, ρ1)) (hb : t' ρ1 = some (q, ρ1)) : mAnd t t' ρ = some (p && q, ρ1) := by
  refine e_bd ha ?_
  cases p with
  | true => exact hb
  | false => rfl
theorem e_or (ha : t ρ = some (p, ρ1)) (hb : t' ρ1 = some (q, ρ1)) : mOr t t' ρ = some (p || q, ρ1) := by
  refine e_bd ha ?_
  cases p with
  | true => rfl
  | false => exact hb
theorem e_andC (ha : t ρ = some (p, ρ1)) (hb : p = true → t' ρ1 = some (q, ρ1)) : mAnd t t' ρ = some (p && q, ρ1) := by
  refine e_bd ha ?_
  cases p with
  | true => exact hb rfl
  | false => rfl
theorem e_orC (ha : t ρ = some (p, ρ1)) (hb : p = false → t' ρ1 = some (q, ρ1)) : mOr t t' ρ = some (p || q, ρ1) := by
  refine e_bd ha ?_
  cases p with
  | true => rfl
  | false => exact hb rfl
theorem e_if (ht : t ρ = some (p, ρ1)) (ha : p = true → a ρ1 = some (x, ρ2)) (hb : p = false → b ρ1 = some (y, ρ2)) : mIf t a b ρ = some (if p = true then x else y, ρ2) := by
  refine e_bd ht ?_
  cases p with
  | true => exact ha rfl
  | false => exact hb rfl
theorem e_if1 {r : Option (D × Cs)} (ht : t ρ = some (true, ρ1)) (ha : a ρ1 = r) : mIf t a b ρ = r := e_bd ht ha
theorem e_if0 {r : Option (D × Cs)} (ht : t ρ = some (false, ρ1)) (ha : b ρ1 = r) : mIf t a b ρ = r := e_bd ht ha
theorem e_no : mNo ρ = some (none, ρ) := rfl
theorem e_part {k : Int} (ha : a ρ = some (.int k, ρ1)) : mPart a ρ = some (some k, ρ1) := e_bd ha (e_bd (e_l rfl) rfl)
theorem e_sl {g : D → Option Int → Option Int → Option D} {lo hi : Option Int} {ml mh : Mo (Option Int)} (ha : a ρ = some (x, ρ1)) (h1 : ml ρ1 = some (lo, ρ2)) (h2 : mh ρ2 = some (hi, ρ3)) (hg : g x lo hi = some z) : mSl g a ml mh ρ = some (z, ρ3) := e_bd ha (e_bd h1 (e_bd h2 (e_l hg)))
theorem e_ixO {v : List D} {k : Int} (h0 : ρ[i]? = some (.own p (.lst v))) (hb : b ρ = some (.int k, ρ1)) (h1 : ρ1[i]? = some (.own q (.lst es))) (hx : atI es k = some z) : mIxV i b ρ = some (z, ρ1) := by
  unfold mIxV
  rw [h0]
  exact e_bd hb (by simp only [h1]; exact e_l hx)
theorem e_ixD (h0 : ρ[i]? = some (.dat x)) (hb : b ρ = some (y, ρ1)) (hg : dIx x y = some z) : mIxV i b ρ = some (z, ρ1) := by
  unfold mIxV
  rw [h0]
  exact e_op (e_var h0) hb hg
theorem e_fnPo (h0 : ρ[i]? = some (.own p x)) (hg : f [x] = some z) (hs : scal z = true) : mFnP f i ρ = some (z, ρ) := by
  unfold mFnP
  rw [h0]
  exact e_l (by rw [hg]; exact if_pos hs)
theorem e_fnPd (h0 : ρ[i]? = some (.dat x)) (hg : f [x] = some z) : mFnP f i ρ = some (z, ρ) := by
  unfold mFnP
  rw [h0]
  exact e_fn (e_acons (e_var h0) e_anil) hg
theorem e_rtO (ha : a ρ = some (x, ρ1)) (h0 : ρ1[i]? = some (.own p y)) (hg : g x y = some z) (hs : scal z = true) : mOpRt g a i ρ = some (z, ρ1) := by
  refine e_bd ha ?_
  simp only [h0]
  exact e_l (by rw [hg]; exact if_pos hs)
theorem e_rtD (ha : a ρ = some (x, ρ1)) (h0 : ρ1[i]? = some (.dat y)) (hg : g x y = some z) : mOpRt g a i ρ = some (z, ρ1) := by
  refine e_bd ha ?_
  simp only [h0]
  exact e_bd (e_var h0) (e_l hg)
theorem e_ltO (h0 : ρ[i]? = some (.own p d)) (hb : b ρ = some (y, ρ1)) (h1 : ρ1[i]? = some (.own q x)) (hg : g x y = some z) (hs : scal z = true) : mOpL g i b ρ = some (z, ρ1) := by
  unfold mOpL
  rw [h0]
  exact e_bd hb (by simp only [h1]; exact e_l (by rw [hg]; exact if_pos hs))
theorem e_ltD (h0 : ρ[i]? = some (.dat x)) (hb : b ρ = some (y, ρ1)) (hg : g x y = some z) : mOpL g i b ρ = some (z, ρ1) := by
  unfold mOpL
  rw [h0]
  exact e_op (e_var h0) hb hg
theorem e_callO {F : D → List D → Option (D × D)} {d0 d1 d2 : D} (h0 : ρ[i]? = some (.own p d0)) (ha : l ρ = some (ds, ρ1)) (h1 : ρ1[i]? = some (.own q d1)) (hF : F d1 ds = some (z, d2)) : mCallO F i l ρ = some (z, ρ1.set i (.own q d2)) := by
  unfold mCallO
  rw [if_pos (by unfold owns; rw [h0])]
  refine e_bd ha ?_
  simp only [h1, hF]
theorem e_callNew {F : D → List D → Option (D × D)} {d0 d1 : D} (he : e ρ = some (d0, ρ1)) (ha : l ρ1 = some (ds, ρ2)) (hF : F d0 ds = some (z, d1)) : mCallNew F e l ρ = some (z, ρ2) := e_bd he (e_bd ha (e_l (by rw [hF]; rfl)))
theorem e_star (ha : a ρ = some (.tup ds, ρ1)) (hl : l ρ1 = some (es, ρ2)) : aStar a l ρ = some (ds ++ es, ρ2) := e_bd ha (e_bd (e_l rfl) (e_bd hl rfl))
theorem e_prop {C : Addr} {ns : List Str} {F : List D → Option D} (ha : a ρ = some (.ins C ns ds, ρ1)) (hF : F [.ins C ns ds] = some z) : mProp C F a ρ = some (z, ρ1) := by
  refine e_bd ha ?_
  rw [if_pos (by simp [isIns])]
  exact e_l hF
theorem e_fld {C : Addr} {ns : List Str} {s : Str} (ha : a ρ = some (.ins C ns ds, ρ1)) (hF : lookD ns ds s = some z) : mFld C s a ρ = some (z, ρ1) := by
  refine e_bd ha ?_
  simp only [if_true, eq_self]
  exact e_l hF
theorem e_meth {C : Addr} {ns : List Str} {nm : Str} {F : List D → Option D} (ha : a ρ = some (.ins C ns ds, ρ1)) (hn : ns.contains nm = false) (hl : l ρ1 = some (es, ρ2)) (hF : F (.ins C ns ds :: es) = some z) : mMeth C nm F a l ρ = some (z, ρ2) := by
  refine e_bd ha ?_
  rw [if_pos (by simp only [isObj, hn, beq_self_eq_true, Bool.not_false, Bool.and_self])]
  exact e_bd hl (e_l hF)
theorem e_make {C : Addr} {F : D → List D → Option (D × D)} {dds : List D} (hl : l ρ = some (ds, ρ1)) (hF : F (.ins C [] []) (ds ++ dds) = some (.non, d)) : mMake C F dds l ρ = some (d, ρ1) := e_bd hl (e_l (by rw [hF]))
theorem e_kw {is : List Nat} {n nk : Nat} {k : Mo (List D)} {F : List D → Option D} (hl : l ρ = some (ds, ρ1)) (hk : k ρ1 = some (es, ρ2)) (h1 : ds.length = n) (h2 : es.length = nk) (hF : F (pick is (ds ++ es)) = some z) : mKw is n nk F l k ρ = some (z, ρ2) := by
  refine e_bd hl (e_bd hk ?_)
  rw [if_pos ⟨h1, h2⟩]
  exact e_l hF
end
section
variable {ρ ρ1 ρ2 : Cs} {a b e : Mo D} {t : Mo Bool} {l : Mo (List D)} {x y z d : D} {ds : List D} {i : Nat} {p q : Bool} {k m m' : Mo Fl} {P : Option (Fl × Cs) → Prop}
theorem st_one (h : P (sSeq m sNx ρ)) : P (m ρ) := by
  have e : sSeq m sNx ρ = m ρ := by
    unfold sSeq
    cases h : m ρ with
    | none => rfl
    | some r =>
      obtain ⟨f, ρ'⟩ := r
      cases f <;> rfl
  rw [← e]; exact h
theorem st_assoc (h : P (sSeq m (sSeq m' k) ρ)) : P (sSeq (sSeq m m') k ρ) := by
  have e : sSeq (sSeq m m') k ρ = sSeq m (sSeq m' k) ρ := by
    unfold sSeq
    cases h : m ρ with
    | none => rfl
    | some r =>
      obtain ⟨f, ρ'⟩ := r
      cases f <;> rfl
  rw [e]; exact h
theorem st_run (h : m ρ = some (.nx, ρ1)) (hk : P (k ρ1)) : P (sSeq m k ρ) := by
  unfold sSeq
  rw [h]; exact hk
theorem st_end (h : m ρ = some (.rt d, ρ1)) (hk : P (some (.rt d, ρ1))) : P (sSeq m k ρ) := by
  unfold sSeq
  rw [h]; exact hk
theorem st_nx (hk : P (k ρ)) : P (sSeq sNx k ρ) := st_run rfl hk
theorem st_set (h : a ρ = some (d, ρ1)) (hk : P (k (ρ1.set i (.dat d)))) : P (sSeq (sSet i a) k ρ) := st_run (e_bd h rfl) hk
theorem st_setN (h : a ρ = some (d, ρ1)) (hk : P (k (ρ1.set i (.own false d)))) : P (sSeq (sSetN i a) k ρ) := st_run (e_bd h rfl) hk
theorem st_drop (h : a ρ = some (d, ρ1)) (hk : P (k ρ1)) : P (sSeq (sDrop a) k ρ) := st_run (e_bd h rfl) hk
theorem st_ret (h : a ρ = some (d, ρ1)) (hk : P (some (.rt d, ρ1))) : P (sSeq (sRet a) k ρ) := st_end (e_bd h rfl) hk
theorem st_retNew (h : a ρ = some (d, ρ1)) (hk : P (some (.rn d, ρ1))) : P (sSeq (sRetNew a) k ρ) := by
  have e : sRetNew a ρ = some (.rn d, ρ1) := e_bd h rfl
  unfold sSeq
  rw [e]; exact hk
theorem st_retN (hk : P (some (.rt .non, ρ))) : P (sSeq sRetN k ρ) := st_end rfl hk
theorem st_if (ht : t ρ = some (p, ρ1)) (h1 : p = true → P (sSeq m k ρ1)) (h2 : p = false → P (sSeq m' k ρ1)) : P (sSeq (sIf t m m') k ρ) := by
  cases p with
  | true =>
    have := h1 rfl
    unfold sSeq at this ⊢
    have e : sIf t m m' ρ = m ρ1 := e_bd ht rfl
    rw [e]; exact this
  | false =>
    have := h2 rfl
    unfold sSeq at this ⊢
    have e : sIf t m m' ρ = m' ρ1 := e_bd ht rfl
    rw [e]; exact this
theorem st_par {is : List Nat} {fs : List Bool} (h : l ρ = some (ds, ρ1)) (hs : stAll is fs ds ρ1 = some ρ2) (hk : P (k ρ2)) : P (sSeq (sPar is fs l) k ρ) := st_run (e_bd h (by simp only [hs])) hk
theorem st_asg {g : D → Mo Unit} {u : Unit} (h : a ρ = some (d, ρ1)) (hg : g d ρ1 = some (u, ρ2)) (hk : P (k ρ2)) : P (sSeq (sAsg a g) k ρ) := st_run (e_bd h (e_bd hg rfl)) hk
theorem st_app {ds : List D} (h0 : ρ[i]? = some (.own p (.lst ds))) (h : a ρ = some (d, ρ1)) {es : List D} (h1 : ρ1[i]? = some (.own q (.lst es))) (hl : es.length < sizeLine) (hk : P (k (ρ1.set i (.own q (.lst (es ++ [d])))))) : P (sSeq (sAppV i a) k ρ) := by
  refine st_run ?_ hk
  unfold sAppV
  rw [if_pos (by unfold ownsL; rw [h0])]
  refine e_bd h ?_
  simp only [h1]
  exact if_pos hl
theorem st_fld {C : Addr} {s : Str} {ns : List Str} {es : List D} (h : a ρ = some (d, ρ1)) (h1 : ρ1[i]? = some (.own q (.ins C ns es))) (hl : es.length < 1000) (hk : P (k (ρ1.set i (.own q (.ins C (putN s ns) (putD s d ns es)))))) : P (sSeq (sFldV C i s a) k ρ) := by
  refine st_run (e_bd h ?_) hk
  rw [h1]
  exact if_pos ⟨rfl, hl⟩
theorem g_nm {d : D} : gNm i d ρ = some ((), ρ.set i (.dat d)) := rfl
theorem g_putE {d0 : D} {ds es : List D} {n : Int} {j : Nat} (h0 : ρ[i]? = some (.own p d0)) (hb : b ρ = some (.int n, ρ1)) (h1 : ρ1[i]? = some (.own q (.lst es))) (hj : ixN es.length n = some j) : gPut i b d ρ = some ((), ρ1.set i (.own q (.lst (es.set j d)))) := by
  unfold gPut
  rw [if_pos (by unfold owns; rw [h0])]
  refine e_bd hb ?_
  unfold putL
  simp only [h1, int?, hj]
/-- a loop's body: on; broken; returned -/
def BodyQ (N B : Cs → Prop) (R : Option (Fl × Cs) → Prop) : Option (Fl × Cs) → Prop
  | some (.nx, ρ) | some (.ct, ρ) => N ρ
  | some (.bk, ρ) => B ρ
  | some (.rt d, ρ) => R (some (.rt d, ρ))
  | _ => False
theorem goFor_inv {α : Type} {g : D → Mo Unit} {b : Mo Fl} {enc : α → D} {R : Option (Fl × Cs) → Prop} {k : Mo Fl} : ∀ (xs done : List α) (ρ : Cs) (I : List α → Cs → Prop), I done ρ →
    (∀ ys x zs ρ, done ++ xs = ys ++ x :: zs → I ys ρ → ∃ u ρ1, g (enc x) ρ = some (u, ρ1) ∧ BodyQ (I (ys ++ [x])) (fun ρ' => R (k ρ')) R (b ρ1)) → (∀ ρ, I (done ++ xs) ρ → R (k ρ)) → R (match goFor g b (xs.map enc) ρ with
      | some (.nx, ρ') => k ρ'
      | r => r)
  | [], done, ρ, I, h0, hs, hd => by
    rw [List.append_nil] at hd
    exact hd ρ h0
  | x :: xs, done, ρ, I, h0, hs, hd => by
    obtain ⟨u, ρ1, hg, hb⟩ := hs done x xs ρ rfl h0
    rw [List.map_cons]
    unfold goFor
    rw [hg]
    simp only
    have go : ∀ ρ2, I (done ++ [x]) ρ2 → R (match goFor g b (xs.map enc) ρ2 with
      | some (.nx, ρ') => k ρ'
      | r => r) := fun ρ2 h2 => goFor_inv xs (done ++ [x]) ρ2 I h2 (fun ys y zs ρ e hy => hs ys y zs ρ (by rw [← e, List.append_assoc]; rfl) hy) fun ρ h => hd ρ (by rw [List.append_assoc] at h; exact h)
    cases eb : b ρ1 with
    | none => rw [eb] at hb; exact hb.elim
    | some r =>
      obtain ⟨f, ρ2⟩ := r
      rw [eb] at hb
      cases f with
      | nx => exact go ρ2 hb
      | ct => exact go ρ2 hb
      | bk => exact hb
      | rt d => exact hb
      | rn d => exact hb.elim
/-- for x in xs -/
theorem st_for {α : Type} {it : Mo (List D)} {g : D → Mo Unit} {enc : α → D} {xs : List α} (hi : it ρ = some (xs.map enc, ρ1)) (I : List α → Cs → Prop) (h0 : I [] ρ1)
    (hs : ∀ ys x zs ρ, xs = ys ++ x :: zs → I ys ρ → ∃ u ρ1, g (enc x) ρ = some (u, ρ1) ∧ BodyQ (I (ys ++ [x])) (fun ρ' => P (k ρ')) P (m ρ1)) (hd : ∀ ρ, I xs ρ → P (k ρ)) : P (sSeq (sFor it g m) k ρ) := by
  have := goFor_inv (g := g) (b := m) (enc := enc) (R := P) (k := k) xs [] ρ1 I h0 hs hd
  have e : sFor it g m ρ = goFor g m (xs.map enc) ρ1 := e_bd hi rfl
  unfold sSeq
  rw [e]
  exact this
/-- while -/
theorem goWh_inv {tt : Mo Bool} {b : Mo Fl} {R : Option (Fl × Cs) → Prop} {k : Mo Fl} (I : Nat → Cs → Prop) (hs : ∀ n ρ, I n ρ → ∃ p ρ1, tt ρ = some (p, ρ1) ∧ (p = false → R (k ρ1)) ∧ (p = true → BodyQ (fun ρ' => ∃ j, j < n ∧ I j ρ') (fun ρ' => R (k ρ')) R (b ρ1))) :
    ∀ (n f : Nat) (ρ : Cs), n < f → I n ρ → R (match goWh tt b f ρ with
      | some (.nx, ρ') => k ρ'
      | r => r) := by
  intro n
  induction n using Nat.strongRecOn with
  | _ n ih =>
    intro f ρ hf h
    cases f with
    | zero => omega
    | succ f =>
      obtain ⟨p, ρ1, ht, h1, h2⟩ := hs n ρ h
      unfold goWh
      rw [ht]
      cases p with
      | false => exact h1 rfl
      | true =>
        simp only
        have hb := h2 rfl
        cases eb : b ρ1 with
        | none => rw [eb] at hb; exact hb.elim
        | some r =>
          obtain ⟨fl, ρ2⟩ := r
          rw [eb] at hb
          cases fl with
          | nx =>
            obtain ⟨j, hj, hI⟩ := hb
            exact ih j hj f ρ2 (by omega) hI
          | ct =>
            obtain ⟨j, hj, hI⟩ := hb
            exact ih j hj f ρ2 (by omega) hI
          | bk => exact hb
          | rt d => exact hb
          | rn d => exact hb.elim
theorem st_while {n : Cs → Nat} (I : Nat → Cs → Prop) (j : Nat) (hj : j < n ρ) (h0 : I j ρ) (hs : ∀ n ρ, I n ρ → ∃ p ρ1, t ρ = some (p, ρ1) ∧ (p = false → P (k ρ1)) ∧ (p = true → BodyQ (fun ρ' => ∃ j, j < n ∧ I j ρ') (fun ρ' => P (k ρ')) P (m ρ1))) : P (sSeq (sWh n t m) k ρ) := by
  have := goWh_inv (tt := t) (b := m) (R := P) (k := k) I hs j (n ρ) ρ hj h0
  unfold sSeq sWh
  exact this
theorem goLc_inv {α : Type} {vs : List Nat} {g : D → Mo Unit} {t : Mo Bool} {e : Mo D} {enc : α → D} : ∀ (xs done : List α) (acc : List D) (ρ : Cs) (I : List α → List D → Cs → Prop), I done acc ρ → acc.length + xs.length ≤ sizeLine → (∀ done acc ρ, I done acc ρ → acc.length ≤ done.length) → done.length + xs.length ≤ sizeLine →
    (∀ ys x zs acc ρ, done ++ xs = ys ++ x :: zs → I ys acc ρ → ∃ u ρ1 p ρ2, g (enc x) (clr vs ρ) = some (u, ρ1) ∧ t ρ1 = some (p, ρ2) ∧ (p = false → I (ys ++ [x]) acc ρ2) ∧ (p = true → ∃ y ρ3, e ρ2 = some (y, ρ3) ∧ I (ys ++ [x]) (acc ++ [y]) ρ3)) →
    ∃ acc' ρ', goLc vs g t e (xs.map enc) acc ρ = some (acc', ρ') ∧ I (done ++ xs) acc' ρ'
  | [], done, acc, ρ, I, h0, _, _, _, _ => ⟨acc, ρ, rfl, by rw [List.append_nil]; exact h0⟩
  | x :: xs, done, acc, ρ, I, h0, hl, hln, hdl, hs => by
    obtain ⟨u, ρ1, p, ρ2, hg, ht, hf, hp⟩ := hs done x xs acc ρ rfl h0
    rw [List.length_cons] at hl hdl
    rw [List.map_cons]
    unfold goLc
    simp only [hg, ht]
    have go : ∀ acc2 ρ2, I (done ++ [x]) acc2 ρ2 → acc2.length + xs.length ≤ sizeLine → ∃ acc' ρ', goLc vs g t e (xs.map enc) acc2 ρ2 = some (acc', ρ') ∧ I (done ++ x :: xs) acc' ρ' := fun acc2 ρ2 h2 hl2 => by
      have := goLc_inv xs (done ++ [x]) acc2 ρ2 I h2 hl2 hln (by rw [List.length_append, List.length_singleton]; omega) (fun ys y zs acc ρ e hy => hs ys y zs acc ρ (by rw [← e, List.append_assoc]; rfl) hy)
      rw [List.append_assoc] at this
      exact this
    cases p with
    | false => exact go acc ρ2 (hf rfl) (by omega)
    | true =>
      obtain ⟨y, ρ3, he, hI⟩ := hp rfl
      simp only [he]
      rw [if_pos (by omega)]
      exact go _ ρ3 hI (by rw [List.length_append, List.length_singleton]; omega)
/-- [e for x in xs if t] -/
theorem e_lc {α : Type} {vs : List Nat} {it : Mo (List D)} {g : D → Mo Unit} {t : Mo Bool} {e : Mo D} {enc : α → D} {xs : List α} (hi : it ρ = some (xs.map enc, ρ1)) (hf : free vs ρ1 = true) (I : List α → List D → Cs → Prop) (h0 : I [] [] (clr vs ρ1)) (hln : ∀ done acc ρ, I done acc ρ → acc.length ≤ done.length) (hxl : xs.length ≤ sizeLine)
    (hs : ∀ ys x zs acc ρ, xs = ys ++ x :: zs → I ys acc ρ → ∃ u ρ1 p ρ2, g (enc x) (clr vs ρ) = some (u, ρ1) ∧ t ρ1 = some (p, ρ2) ∧ (p = false → I (ys ++ [x]) acc ρ2) ∧ (p = true → ∃ y ρ3, e ρ2 = some (y, ρ3) ∧ I (ys ++ [x]) (acc ++ [y]) ρ3)) :
    ∃ acc ρ', mLc vs it g t e ρ = some (.lst acc, back vs ρ1 (clr vs ρ')) ∧ I xs acc ρ' := by
  obtain ⟨acc, ρ', h1, h2⟩ := goLc_inv (vs := vs) (g := g) (t := t) (e := e) (enc := enc) xs [] [] (clr vs ρ1) I h0 (by rw [List.length_nil, Nat.zero_add]; exact hxl) hln (by rw [List.length_nil, Nat.zero_add]; exact hxl) hs
  refine ⟨acc, ρ', e_bd hi ?_, h2⟩
  rw [if_pos hf, h1]
/-- .. when nothing but its own slots changes, and each item gives one -/
theorem goLc_map {α : Type} {vs : List Nat} {g : D → Mo Unit} {e : Mo D} {enc f : α → D} {ρ0 : Cs} : ∀ (xs : List α) (acc : List D) (ρ : Cs), clr vs ρ = ρ0 → acc.length + xs.length ≤ sizeLine →
    (∀ x ∈ xs, ∃ u ρ1, g (enc x) ρ0 = some (u, ρ1) ∧ ∃ ρ3, e ρ1 = some (f x, ρ3) ∧ clr vs ρ3 = ρ0) → ∃ ρ', goLc vs g (mC true) e (xs.map enc) acc ρ = some (acc ++ xs.map f, ρ') ∧ clr vs ρ' = ρ0
  | [], acc, ρ, h, _, _ => ⟨ρ, by rw [List.map_nil, List.map_nil, List.append_nil]; rfl, h⟩
  | x :: xs, acc, ρ, h, hl, hs => by
    obtain ⟨u, ρ1, hg, ρ3, he, hc⟩ := hs x List.mem_cons_self
    rw [List.length_cons] at hl
    rw [List.map_cons, List.map_cons]
    unfold goLc
    rw [h]
    simp only [hg, e_c, he]
    rw [if_pos (by omega)]
    obtain ⟨ρ', q1, q2⟩ := goLc_map xs (acc ++ [f x]) ρ3 hc (by rw [List.length_append, List.length_singleton]; omega) fun y hy => hs y (List.mem_cons_of_mem _ hy)
    exact ⟨ρ', by rw [q1, List.append_assoc]; rfl, q2⟩
theorem e_lcm {α : Type} {vs : List Nat} {it : Mo (List D)} {g : D → Mo Unit} {e : Mo D} {enc f : α → D} {xs : List α} (hi : it ρ = some (xs.map enc, ρ1)) (hf : free vs ρ1 = true) (hxl : xs.length ≤ sizeLine)
    (hs : ∀ x ∈ xs, ∃ u ρ2, g (enc x) (clr vs ρ1) = some (u, ρ2) ∧ ∃ ρ3, e ρ2 = some (f x, ρ3) ∧ clr vs ρ3 = clr vs ρ1) (hcc : clr vs (clr vs ρ1) = clr vs ρ1) : mLc vs it g (mC true) e ρ = some (.lst (xs.map f), back vs ρ1 (clr vs ρ1)) := by
  obtain ⟨ρ', h1, h2⟩ := goLc_map (vs := vs) (g := g) (e := e) (enc := enc) (f := f) (ρ0 := clr vs ρ1) xs [] (clr vs ρ1) hcc (by rw [List.length_nil, Nat.zero_add]; exact hxl) hs
  refine e_bd hi ?_
  rw [if_pos hf, h1]
  simp only [List.nil_append, h2]
/-- .. with a test -/
theorem goLc_filter {α : Type} {vs : List Nat} {g : D → Mo Unit} {t : Mo Bool} {e : Mo D} {enc f : α → D} {ρ0 : Cs} {p : α → Bool} : ∀ (xs : List α) (acc : List D) (ρ : Cs), clr vs ρ = ρ0 → acc.length + xs.length ≤ sizeLine →
    (∀ x ∈ xs, ∃ u ρ1, g (enc x) ρ0 = some (u, ρ1) ∧ ∃ ρ2, t ρ1 = some (p x, ρ2) ∧ (p x = false → clr vs ρ2 = ρ0) ∧ (p x = true → ∃ ρ3, e ρ2 = some (f x, ρ3) ∧ clr vs ρ3 = ρ0)) → ∃ ρ', goLc vs g t e (xs.map enc) acc ρ = some (acc ++ (xs.filter p).map f, ρ') ∧ clr vs ρ' = ρ0
  | [], acc, ρ, h, _, _ => ⟨ρ, by rw [List.map_nil, List.filter_nil, List.map_nil, List.append_nil]; rfl, h⟩
  | x :: xs, acc, ρ, h, hl, hs => by
    obtain ⟨u, ρ1, hg, ρ2, ht, hf, hp⟩ := hs x List.mem_cons_self
    rw [List.length_cons] at hl
    rw [List.map_cons]
    unfold goLc
    rw [h]
    simp only [hg, ht]
    cases hc : p x with
    | false =>
      rw [List.filter_cons_of_neg (by rw [hc]; exact Bool.false_ne_true)]
      exact goLc_filter xs acc ρ2 (hf hc) (by omega) fun y hy => hs y (List.mem_cons_of_mem _ hy)
    | true =>
      obtain ⟨ρ3, he, h3⟩ := hp hc
      rw [List.filter_cons_of_pos hc]
      simp only [he]
      rw [if_pos (by omega)]
      obtain ⟨ρ', q1, q2⟩ := goLc_filter xs (acc ++ [f x]) ρ3 h3 (by rw [List.length_append, List.length_singleton]; omega) fun y hy => hs y (List.mem_cons_of_mem _ hy)
      exact ⟨ρ', by rw [q1, List.append_assoc]; rfl, q2⟩
theorem e_lcf {α : Type} {vs : List Nat} {it : Mo (List D)} {g : D → Mo Unit} {t : Mo Bool} {e : Mo D} {enc f : α → D} {xs : List α} {p : α → Bool} (hi : it ρ = some (xs.map enc, ρ1)) (hf : free vs ρ1 = true) (hxl : xs.length ≤ sizeLine)
    (hs : ∀ x ∈ xs, ∃ u ρ2, g (enc x) (clr vs ρ1) = some (u, ρ2) ∧ ∃ ρ3, t ρ2 = some (p x, ρ3) ∧ (p x = false → clr vs ρ3 = clr vs ρ1) ∧ (p x = true → ∃ ρ4, e ρ3 = some (f x, ρ4) ∧ clr vs ρ4 = clr vs ρ1)) (hcc : clr vs (clr vs ρ1) = clr vs ρ1) : mLc vs it g t e ρ = some (.lst ((xs.filter p).map f), back vs ρ1 (clr vs ρ1)) := by
  obtain ⟨ρ', h1, h2⟩ := goLc_filter (vs := vs) (g := g) (t := t) (e := e) (enc := enc) (f := f) (p := p) (ρ0 := clr vs ρ1) xs [] (clr vs ρ1) hcc (by rw [List.length_nil, Nat.zero_add]; exact hxl) hs
  refine e_bd hi ?_
  rw [if_pos hf, h1]
  simp only [List.nil_append, h2]
end
def RetQ (Q : D → Prop) (r : Option (Fl × Cs)) : Prop := ∃ d, fin1 r = some d ∧ Q d
def RetNw (Q : D → Prop) (r : Option (Fl × Cs)) : Prop := ∃ d, fin3 r = some d ∧ Q d
def RetO (Q : D → D → Prop) (r : Option (Fl × Cs)) : Prop := ∃ d e, fin2 r = some (d, e) ∧ Q d e
section
variable {ρ : Cs} {d e : D} {Q : D → Prop} {R : D → D → Prop} {m n : Nat} {b : Mo Fl} {ds : List D} {d0 : D}
theorem rq_rt (q : Q d) : RetQ Q (some (.rt d, ρ)) := ⟨d, rfl, q⟩
theorem rq_nx (q : Q .non) : RetQ Q (some (.nx, ρ)) := ⟨.non, rfl, q⟩
theorem rn_rn (q : Q d) : RetNw Q (some (.rn d, ρ)) := ⟨d, rfl, q⟩
theorem ro_rt (q : R d e) : RetO R (some (.rt d, .own true e :: ρ)) := ⟨d, e, rfl, q⟩
theorem ro_nx (q : R .non e) : RetO R (some (.nx, .own true e :: ρ)) := ⟨.non, e, rfl, q⟩
theorem retF (h : RetQ (fun r => r = d) (b (cells ds n))) (hl : ds.length = m := by rfl) : runF m n b ds = some d := by
  obtain ⟨x, h1, rfl⟩ := h
  unfold runF
  rw [if_pos hl, h1]
theorem retFE (h : RetQ Q (b (cells ds n))) (hl : ds.length = m := by rfl) : ∃ d, runF m n b ds = some d ∧ Q d := by
  obtain ⟨x, h1, q⟩ := h
  exact ⟨x, by unfold runF; rw [if_pos hl, h1], q⟩
theorem retOE (h : RetO R (b (.own true d0 :: cells ds n))) (hl : ds.length + 1 = m := by rfl) : ∃ d e, runO m n b d0 ds = some (d, e) ∧ R d e := by
  obtain ⟨x, y, h1, q⟩ := h
  exact ⟨x, y, by unfold runO; rw [if_pos hl, h1], q⟩
theorem retNE (h : RetNw Q (b (cells ds n))) (hl : ds.length = m := by rfl) : ∃ d, runN m n b ds = some d ∧ Q d := by
  obtain ⟨x, h1, q⟩ := h
  exact ⟨x, by unfold runN; rw [if_pos hl, h1], q⟩
end
section
variable {ρ ρ1 : Cs} {a : Mo D} {t : Mo Bool} {i : Nat} {C : Addr} {s : Str} {l : Mo (List D)} {is : List Nat} {fs : List Bool} {g : D → Mo Unit} {it : Mo (List D)} {n : Cs → Nat} {m m' : Mo Fl} {P : Option (Fl × Cs) → Prop}
theorem sw_ret (h : P (sSeq (sRet a) sNx ρ)) : P (sRet a ρ) := st_one h
theorem sw_retNew (h : P (sSeq (sRetNew a) sNx ρ)) : P (sRetNew a ρ) := st_one h
theorem sw_retN (h : P (sSeq sRetN sNx ρ)) : P (sRetN ρ) := st_one h
theorem sw_if (h : P (sSeq (sIf t m m') sNx ρ)) : P (sIf t m m' ρ) := st_one h
theorem sw_set (h : P (sSeq (sSet i a) sNx ρ)) : P (sSet i a ρ) := st_one h
theorem sw_setN (h : P (sSeq (sSetN i a) sNx ρ)) : P (sSetN i a ρ) := st_one h
theorem sw_app (h : P (sSeq (sAppV i a) sNx ρ)) : P (sAppV i a ρ) := st_one h
theorem sw_asg (h : P (sSeq (sAsg a g) sNx ρ)) : P (sAsg a g ρ) := st_one h
theorem sw_par (h : P (sSeq (sPar is fs l) sNx ρ)) : P (sPar is fs l ρ) := st_one h
theorem sw_fld (h : P (sSeq (sFldV C i s a) sNx ρ)) : P (sFldV C i s a ρ) := st_one h
theorem sw_drop (h : P (sSeq (sDrop a) sNx ρ)) : P (sDrop a ρ) := st_one h
theorem sw_for (h : P (sSeq (sFor it g m) sNx ρ)) : P (sFor it g m ρ) := st_one h
theorem sw_nx (h : P (some (.nx, ρ))) : P (sNx ρ) := h
theorem sw_ct (h : P (some (.ct, ρ))) : P (sCt ρ) := h
theorem sw_bk (h : P (some (.bk, ρ))) : P (sBk ρ) := h
end
@[simp] theorem isTy_tt : isTy "tuple" "tuple" = true := rfl
@[simp] theorem isTy_ii : isTy "int" "int" = true := rfl
@[simp] theorem isTy_ib : isTy "int" "bool" = false := rfl
@[simp] theorem isTy_ss : isTy "str" "str" = true := rfl
@[simp] theorem isTy_nt : isTy "NoneType" "tuple" = false := rfl
@[simp] theorem isTy_ns : isTy "NoneType" "str" = false := rfl
@[simp] theorem isTy_is : isTy "int" "str" = false := rfl
theorem len_le {n : Nat} (h : n ≤ 1000) : n ≤ sizeLine := Nat.le_trans h (by decide)
theorem rng_ok {n : Nat} (h : n ≤ 1000000) : rng1? [.int (n : Int)] = some ((List.range n).map fun k : Nat => D.int (0 + (k : Int))) := by
  have e : rng1? [.int (n : Int)] = if -(2 ^ 62) ≤ (n : Int) ∧ (n : Int) < 2 ^ 62 then some (rngD 0 (n : Int).toNat) else none := rfl
  rw [e, if_pos (by omega), Int.toNat_natCast]
  rfl
end DL
open PySem PySem.Spec PyProof.Rows L2 DL
set_option hygiene false
local macro_rules
  | `(tactic| refine_lift' evl) => `(tactic| first | rfl | assumption | (exact if_pos (by assumption)) | decide | (exact DL.len_le (by simp)) | (exact Nat.le_of_ble_eq_true rfl))
  | `(tactic| refine_lift' evl [$ls,*]) => do
    let alts ← ls.getElems.mapM fun t => `(tacticSeq| exact $t)
    let mut r ← `(tactic| first | rfl | assumption | (exact if_pos (by assumption)) | decide | (exact DL.len_le (by simp)) | (exact Nat.le_of_ble_eq_true rfl))
    for t in ls.getElems.reverse do
      r ← `(tactic| first | exact $t | $r:tactic)
    for t in ls.getElems.reverse do
      r ← `(tactic| first | with_reducible exact $t | $r:tactic)
    return r
local macro_rules
  | `(tactic| refine_lift' evx) => `(tactic| assumption)
  | `(tactic| refine_lift' evx [$ls,*]) => do
    let mut r ← `(tactic| assumption)
    for t in ls.getElems.reverse do
      r ← `(tactic| first | exact $t | $r:tactic)
    return r
local macro_rules
  | `(tactic| refine_lift' ev) => `(tactic| refine_lift' ev [])
  | `(tactic| refine_lift' ev [$ls,*]) => `(tactic| with_reducible first
      | refine_lift' evx [$ls,*] | exact e_c | exact e_anil | exact e_no
      | (apply e_var; (focus (with_unfolding_all rfl)))
      | (apply e_op; (focus (refine_lift' ev [$ls,*])); (focus (refine_lift' ev [$ls,*])); (focus (with_unfolding_all refine_lift' evl [$ls,*])))
      | (apply e_acons; (focus (refine_lift' ev [$ls,*])); (focus (refine_lift' ev [$ls,*])))
      | (apply e_fn; (focus (refine_lift' ev [$ls,*])); (focus (with_unfolding_all refine_lift' evl [$ls,*])))
      | (apply e_un; (focus (refine_lift' ev [$ls,*])); (focus (with_unfolding_all refine_lift' evl [$ls,*])))
      | (apply e_tst; (focus (refine_lift' ev [$ls,*])))
      | (apply e_tup; (focus (refine_lift' ev [$ls,*])); (focus (with_unfolding_all refine_lift' evl [$ls,*])))
      | (apply e_lst; (focus (refine_lift' ev [$ls,*])); (focus (with_unfolding_all refine_lift' evl [$ls,*])))
      | (apply e_chain; (focus (refine_lift' ev [$ls,*])); (focus (refine_lift' ev [$ls,*])); (focus (with_unfolding_all refine_lift' evl [$ls,*])); (focus (refine_lift' ev [$ls,*])); (focus (with_unfolding_all refine_lift' evl [$ls,*])))
      | (apply e_notV; (focus (refine_lift' ev [$ls,*])))
      | (apply e_andV; (focus (refine_lift' ev [$ls,*])); (focus (refine_lift' ev [$ls,*])))
      | (apply e_orV; (focus (refine_lift' ev [$ls,*])); (focus (refine_lift' ev [$ls,*])))
      | (apply e_not; (focus (refine_lift' ev [$ls,*])))
      | (apply e_and; (focus (refine_lift' ev [$ls,*])); (focus (refine_lift' ev [$ls,*])))
      | (apply e_or; (focus (refine_lift' ev [$ls,*])); (focus (refine_lift' ev [$ls,*])))
      | (apply e_part; (focus (refine_lift' ev [$ls,*])))
      | (apply e_sl; (focus (refine_lift' ev [$ls,*])); (focus (refine_lift' ev [$ls,*])); (focus (refine_lift' ev [$ls,*])); (focus (with_unfolding_all refine_lift' evl [$ls,*])))
      | (apply e_ixO; (focus (with_unfolding_all rfl)); (focus (refine_lift' ev [$ls,*])); (focus (with_unfolding_all rfl)); (focus (with_unfolding_all refine_lift' evl [$ls,*])))
      | (apply e_ixD; (focus (with_unfolding_all rfl)); (focus (refine_lift' ev [$ls,*])); (focus (with_unfolding_all refine_lift' evl [$ls,*])))
      | (apply e_fnPo; (focus (with_unfolding_all rfl)); (focus (with_unfolding_all refine_lift' evl [$ls,*])); (focus (with_unfolding_all rfl)))
      | (apply e_fnPd; (focus (with_unfolding_all rfl)); (focus (with_unfolding_all refine_lift' evl [$ls,*])))
      | (apply e_rtO; (focus (refine_lift' ev [$ls,*])); (focus (with_unfolding_all rfl)); (focus (with_unfolding_all refine_lift' evl [$ls,*])); (focus (with_unfolding_all rfl)))
      | (apply e_rtD; (focus (refine_lift' ev [$ls,*])); (focus (with_unfolding_all rfl)); (focus (with_unfolding_all refine_lift' evl [$ls,*])))
      | (apply e_ltO; (focus (with_unfolding_all rfl)); (focus (refine_lift' ev [$ls,*])); (focus (with_unfolding_all rfl)); (focus (with_unfolding_all refine_lift' evl [$ls,*])); (focus (with_unfolding_all rfl)))
      | (apply e_ltD; (focus (with_unfolding_all rfl)); (focus (refine_lift' ev [$ls,*])); (focus (with_unfolding_all refine_lift' evl [$ls,*])))
      | (apply e_callO; (focus (with_unfolding_all rfl)); (focus (refine_lift' ev [$ls,*])); (focus (with_unfolding_all rfl)); (focus (with_unfolding_all refine_lift' evl [$ls,*])))
      | (apply e_callNew; (focus (refine_lift' ev [$ls,*])); (focus (refine_lift' ev [$ls,*])); (focus (with_unfolding_all refine_lift' evl [$ls,*])))
      | (apply e_star; (focus (refine_lift' ev [$ls,*])); (focus (refine_lift' ev [$ls,*])))
      | (apply e_prop; (focus (refine_lift' ev [$ls,*])); (focus (with_unfolding_all refine_lift' evl [$ls,*])))
      | (apply e_fld; (focus (refine_lift' ev [$ls,*])); (focus (with_unfolding_all refine_lift' evl [$ls,*])))
      | (apply e_meth; (focus (refine_lift' ev [$ls,*])); (focus (with_unfolding_all refine_lift' evl [$ls,*])); (focus (refine_lift' ev [$ls,*])); (focus (with_unfolding_all refine_lift' evl [$ls,*])))
      | (apply e_make; (focus (refine_lift' ev [$ls,*])); (focus (with_unfolding_all refine_lift' evl [$ls,*])))
      | (apply e_kw; (focus (refine_lift' ev [$ls,*])); (focus (refine_lift' ev [$ls,*])); (focus (with_unfolding_all rfl)); (focus (with_unfolding_all rfl)); (focus (with_unfolding_all refine_lift' evl [$ls,*])))
      | (apply e_if; (focus (refine_lift' ev [$ls,*])); (focus (intro _; refine_lift' ev [$ls,*])); (focus (intro _; refine_lift' ev [$ls,*])))
      | (apply e_varO; (focus (with_unfolding_all rfl))))
local macro_rules
  | `(tactic| refine_lift' eva) => `(tactic| refine_lift' eva [])
  | `(tactic| refine_lift' eva [$ls,*]) => `(tactic| (apply e_as; (focus (refine_lift' ev [$ls,*])); (focus (with_unfolding_all rfl)); (focus (with_unfolding_all rfl))))
local macro_rules
  | `(tactic| refine_lift' st) => `(tactic| refine_lift' st [])
  | `(tactic| refine_lift' st [$ls,*]) => `(tactic| with_reducible (first | apply sw_ret | apply sw_if | apply sw_set | apply sw_setN | apply sw_app | apply sw_asg | apply sw_par | apply sw_fld | apply sw_drop | apply sw_for | apply sw_retN | apply sw_retNew | skip) <;> first
      | apply sw_nx | apply sw_ct | apply sw_bk | apply st_assoc | apply st_nx | apply st_retN
      | (apply st_set; (focus (refine_lift' ev [$ls,*])))
      | (apply st_setN; (focus (refine_lift' ev [$ls,*])))
      | (apply st_par; (focus (refine_lift' ev [$ls,*])); (focus (with_unfolding_all rfl)))
      | (apply st_ret; (focus (refine_lift' ev [$ls,*])))
      | (apply st_drop; (focus (refine_lift' ev [$ls,*])))
      | (apply st_retNew; (focus (refine_lift' ev [$ls,*])))
      | (apply st_fld; (focus (refine_lift' ev [$ls,*])); (focus (with_unfolding_all rfl)); (focus (with_unfolding_all refine_lift' evl [$ls,*])))
      | (apply st_app; (focus (with_unfolding_all rfl)); (focus (refine_lift' ev [$ls,*])); (focus (with_unfolding_all rfl)); (focus (with_unfolding_all refine_lift' evl [$ls,*])))
      | (apply st_asg; (focus (refine_lift' ev [$ls,*])); (focus (with_unfolding_all first | rfl | (apply g_putE; (focus rfl); (focus (refine_lift' ev [$ls,*])); (focus rfl); (focus (refine_lift' evl [$ls,*]))))))
      | (apply st_if; (focus (refine_lift' ev [$ls,*]))))
set_option autoImplicit false
namespace DL
open PySem PySem.Spec PyProof.Rows L2
/-- a set with nothing in it, as it is laid -/
abbrev bareSet (w : World) : Obj := { cls := .type "set", dict := none, data := .set #[] 0 (.fresh 0 0 (!w.params.followText "set-order")) }
section
variable {P : Program} {w : World} {A : Around} {E : Value → Shared → Prop} {s : Shared}
/-- set(xs) of a list of ints: what it holds is known, and it can be walked -/
def HeldSet (w : World) (s : Shared) (ns : List Int) (h' : Heap) : Prop := (∃ c, c ≤ ns.length ∧ SetR w h' s.heap.objs.size (fun j => decide (j ∈ ns)) c) ∧ ∀ b o, s.heap.get? b = some o → h'.get? b = some o
set_option maxHeartbeats 4000000 in
theorem set_of_list {a : Addr} {vs : Array Value} {ns : List Int} {Q : Value → Shared → Prop} (hd : A.handled = none) (hv : s.heap.IsList a vs) (hi : IntsAre vs.toList ns) (few : ns.length + 1 < scanBound)
    (q : ∀ h' tk, HeldSet w s ns h' → Q (.ref s.heap.objs.size) { s with heap := h', toks := tk }) : wpAny (model P w) A (call (.type "set") [.ref a]) Q E s := by
  have len : vs.size = ns.length := (Array.length_toList (xs := vs)).symm.trans (IntsAre.length hi)
  have ⟨_, _, hmro⟩ := F.called_set.mro
  have f1 := F.called_set.made
  have f2 := F.called_set.sub
  have f3 := F.called_set.notType
  have f4 := F.called_set.canCreate
  have f5 := F.typeCall_set_1 (.ref a)
  refine wpAny_call (codeAny_of_tree (wpAny_pure ⟨Code.quiet_builtin _ (by decide +kernel), codeAny_builtin F.entry_type_call ?_⟩))
  rw [Around.under_plain (weight_type_call_type "set" [.ref a] []) rfl]
  repeat (any_goals (first | assumption | wp_step))
  refine codeAny_mono (code_set_led1 (.ref a) (E := E) (Q₁ := fun x s1 => x = .ref s.heap.objs.size ∧ s1 = { s with heap := s.heap.push (bareSet w) }) ⟨rfl, rfl⟩) fun r s1 hr => ?_
  match r, hr with
  | .error e, hr => exact hr
  | .ok (.ret x), hr =>
    obtain ⟨rfl, rfl⟩ := hr
    have at0 : (s.heap.push (bareSet w)).get? s.heap.objs.size = some (bareSet w) := Heap.get?_push_size _ rfl
    have ty0 : Shared.TypeIs { s with heap := s.heap.push (bareSet w) } (.ref s.heap.objs.size) "set" := ⟨_, at0, rfl⟩
    have f6 := F.called_set.init.lookup
    have f7 := F.called_set.init.bind (.ref s.heap.objs.size)
    repeat (any_goals (first | assumption | wp_step))
    refine codeAny_mono (codeAny_call_builtin (R := wants (fun x s2 => x = .none ∧ ∃ h' tk, s2 = { s with heap := h', toks := tk } ∧ HeldSet w s ns h') E) F.called_set.init.plain F.entry_set_init (check_set_init_1 ty0 ?_)) fun r2 s2 hr2 => ?_
    · obtain ⟨⟨_, dd, _, sl⟩, ho, hc, nn, hdt⟩ := hv
      simp only at hc hdt
      subst hc hdt
      have lt0 : a < s.heap.objs.size := Heap.lt_size ho
      have ho' := Heap.get?_push_of_some (bareSet w) ho
      have il : (s.heap.push (bareSet w)).IsList a vs := ⟨_, ho', rfl, nn, rfl⟩
      have g1 := F.sub_list_set
      have g2 := F.sub_list_frozenset
      have g3 : (Value.type "list" == Value.type "dict") = false := by decide
      unfold Builtin.«set.__init__» noKeywords Builtin.Frozenset.updateFrom
      generalize it0 : pyIter = it1
      wp_walk
      subst it0
      refine wpAny_pyIter_list il (wpAny_bind (wpAny_runValue ?_))
      have sz1 : (s.heap.push (bareSet w)).objs.size = s.heap.objs.size + 1 := Heap.size_push ..
      have apart : a ≠ (s.heap.push (bareSet w)).objs.size := sz1 ▸ Nat.ne_of_lt (Nat.lt_succ_of_lt lt0)
      refine set_update_ints ((Walks.list (by simp [hd]) _ a apart vs).toS) s.heap.objs.size (by rw [sz1]; simp only [List.mem_cons, List.not_mem_nil, or_false, not_or]; exact ⟨Nat.ne_of_lt (Nat.lt_succ_self _), Nat.ne_of_gt lt0⟩) ns len few ?_ vs.size 0 _ rfl (Nat.zero_le _) ⟨⟨_, Heap.get?_push_size _ rfl, rfl, rfl⟩, il.push _⟩ ⟨0, Nat.le_refl 0, setR_new_at (Heap.get?_push_of_some _ at0)⟩ ?_
      · intro i v hv
        have hi' : i < ns.length := len ▸ (Array.getElem?_eq_some_iff.mp hv).1
        obtain ⟨t, e⟩ := IntsAre.int_at hi i v (Array.getElem?_toList.trans hv)
        refine ⟨ns[i], t, List.getElem?_eq_getElem hi', e.trans ?_⟩
        rw [List.getD_eq_getElem?_getD, List.getElem?_eq_getElem hi', Option.getD_some]
      · intro s3 c hm hcn hS
        have e3 : s3 = { s with heap := s3.heap, toks := s3.toks } := by
          have x1 := hm.gens
          have x2 := hm.drawn
          have x3 := hm.os
          cases s3
          simp only at x1 x2 x3
          subst x1 x2 x3
          rfl
        refine wpAny_pure (wpAny_pure ⟨rfl, s3.heap, s3.toks, e3, ⟨c, by omega, hS⟩, fun b o e => ?_⟩)
        have lb := Heap.lt_size e
        exact hm.heap b o (by rw [sz1]; simp only [List.mem_cons, List.not_mem_nil, or_false, not_or]; exact ⟨Nat.ne_of_lt lb, Nat.ne_of_lt (Nat.lt_succ_of_lt lb)⟩) (Heap.get?_push_of_some _ (Heap.get?_push_of_some _ e))
    · match r2, hr2 with
      | .error e, hr2 => exact hr2
      | .ok (.ret x), hr2 =>
        obtain ⟨rfl, h', tk, rfl, hS⟩ := hr2
        repeat (any_goals (first | assumption | wp_step))
        exact q _ _ hS
set_option maxHeartbeats 4000000 in
/-- sorted(set), however many it holds -/
theorem sorted_heldSet {a : Addr} {S : Int → Bool} {n : Nat} {Q : Value → Shared → Prop} (R : SetR w s.heap a S n) (hd : A.handled = none)
    (q : ∀ s' p (out : Array Value) (c : Nat) (ns : List Int), (∀ b o, s.heap.get? b = some o → s'.heap.get? b = some o) → s'.gens = s.gens → s'.os = s.os → s.heap.objs.size ≤ p → s'.heap.get? p = some (seqObj "list" out c) → IntsAre out.toList ns →
      ns.Pairwise (· < ·) → (∀ k, k ∈ ns ↔ S k = true) → ns.length = n → Q (.ref p) s') : wpAny (model P w) A (call (.builtin "sorted") [.ref a]) Q E s := by
  obtain ⟨o, es, ep, t, ho, hx, hdt, good, nd, mem, few, fit, hn, ris, led⟩ := R
  have small : n ≤ sizeLine := by
    unfold scanBound at few
    have : (4096 : Nat) ≤ sizeLine := by decide
    omega
  refine Calls.call_function_entry kind_sorted plain_sorted entry_sorted (args_sorted1 _) ?_
  unfold Builtin.«sorted»
  refine wpAny_bind (m := checkCount "sorted" 1 1 _) (wpAny_pure (wpAny_bind (collect_set (A := A.in1) hd ⟨o, ho, hx.1, hdt⟩ fit few ris led fun s1 vs k1 z1 g1 o1 pm => ?_)))
  have lv : vs.length = n := by rw [pm.length_eq, List.length_map, Array.length_toList, hn]
  have iv : IntsAre vs (vs.map Builtin.Re.reRawOf) := ints_of vs fun v hv => by
    obtain ⟨e, he, z⟩ := List.mem_map.mp (pm.mem_iff.mp hv)
    obtain ⟨k, tk, y, _⟩ := good e he
    exact ⟨k, tk, z.symm.trans y⟩
  have pk : (vs.map Builtin.Re.reRawOf).Perm (es.toList.map keyOf) := (List.map_map ▸ pm.map Builtin.Re.reRawOf :)
  have at0 : (s1.heap.push (seqObj "list" vs.toArray 0)).get? s1.heap.objs.size = some (seqObj "list" vs.toArray 0) := Heap.get?_push_size _ rfl
  refine wpAny_bind (wpAny_newList (wpAny_bind (wpAny_holding (wpAny_call_entry slot_list_sort ⟨_, at0, rfl⟩ entry_list_sort (list_sort_treeAny at0 iv (lv ▸ small) fun out ns a1 a2 a3 => ⟨_, rfl, ?_⟩) (args_list_sort _)))) (lv ▸ small))
  obtain ⟨c, hc⟩ := sortedHeap_at (vs := vs) (out := out) at0
  have pn := a2.trans pk
  refine wpAny_pure ⟨_, rfl, q _ s1.heap.objs.size out c ns (fun b u e => ?_) g1 o1 z1 hc a1 (lt_of_le_nodup ns a3 (pn.nodup_iff.mpr nd)) (fun k => by rw [pn.mem_iff, mem k]) ?_⟩
  · have lb := Heap.lt_size (k1 b u e)
    exact (sortedHeap_old (Nat.ne_of_lt lb) (by rw [size_push']; exact Nat.lt_succ_of_lt lb)).trans (Heap.get?_push_of_some _ (k1 b u e))
  · rw [pn.length_eq, List.length_map, Array.length_toList, hn]
end
end DL
set_option autoImplicit false
namespace DL
open PySem PySem.Spec PyProof.Rows L2
theorem zip_len0 : typeLookup (.type "zip") "__len__" = pure none := by
  rw [typeLookup_type, builtinLookup_eq_fast]
  kernel_rfl
theorem zip_hint0 : typeLookup (.type "zip") "__length_hint__" = pure none := by
  rw [typeLookup_type, builtinLookup_eq_fast]
  kernel_rfl
/-- a zip that has given out f0, if anything -/
abbrev ZipO (TI TO : Addr) (f0 f1 : Value) : Obj := { cls := .type "zip", dict := none, data := .fields #[f0, f1, .bool false, .ref TI, .ref TO], slots := #[] }
section
variable {P : Program} {w : World} {A : Around} {E : Value → Shared → Prop} {s : Shared}
theorem if_alive {a : Addr} {Q : Option Obj → Shared → Prop} (h : Q (s.heap.get? a) s) : wpAny (model P w) A (loadIfAlive a) Q E s := by
  intro Γ p _
  simp only [loadIfAlive, Sem.wp_loadIfAlive]
  exact h
/-- the next pair, where the last one is kept -/
theorem zip_keeps {z TI TO i1 i2 l1 l2 T : Addr} {o : Obj} {f1 : Value} {k1 k2 : Nat} {xs ys : Array Value} {x y : Value} {Q : Value → Shared → Prop} (D : ZipApart z TI TO i1 i2 l1 l2) (hz : s.heap.get? z = some (ZipO TI TO (rawInt T) f1)) (hT : s.heap.get? T = some o)
    (hTI : IsPair s.heap TI (.ref i1) (.ref i2)) (h1 : s.heap.IsListIter i1 l1 k1) (h2 : s.heap.IsListIter i2 l2 k2) (hl1 : s.heap.IsList l1 xs) (hl2 : s.heap.IsList l2 ys) (hx : xs[k1]? = some x) (hy : ys[k2]? = some y)
    (q : ∀ h' f, h'.get? z = some (ZipO TI TO (rawInt T) f) → h'.IsListIter i1 l1 (k1 + 1) → h'.IsListIter i2 l2 (k2 + 1) → IsPair h' s.heap.objs.size x y → (∀ c o, c ≠ z → c ≠ i1 → c ≠ i2 → s.heap.get? c = some o → h'.get? c = some o) → Q (.ref s.heap.objs.size) { s with heap := h' }) :
    wpAny (model P w) A (Builtin.«zip.__next__» ⟨[.ref z], []⟩) (fun fin s' => ∃ v, fin = .done (.ret v) ∧ Q v s') E s := by
  show wpAny _ _ (field (.ref z) 2 >>= _) _ _ _
  refine wpAny_bind (wpAny_field hz rfl (x := .bool false) rfl (wpAny_bind (wpAny_field hz rfl (x := .ref TI) rfl (wpAny_bind (wpAny_seqItems hTI rfl (wpAny_bind ?_))))))
  unfold Builtin.SmallTypes.ownedTupleIsFree
  refine wpAny_bind (wpAny_field hz rfl (x := rawInt T) rfl (wpAny_bind (if_alive ?_)))
  have hT' : s.heap.get? (((T : Nat) : Int).toNat) = some o := by rw [Int.toNat_natCast]; exact hT
  rw [hT']
  simp only [Option.isNone_some, Bool.false_eq_true, if_false]
  refine wpAny_bind (wpAny_field hz rfl (x := f1) rfl ?_)
  refine wpAny_mono (Q := fun a s' => a = false ∧ ∃ h0 f, s' = { s with heap := h0 } ∧ h0.get? z = some (ZipO TI TO (rawInt T) f) ∧ Heap.SameBut z s.heap h0) (E := E) ?_ ?_ fun _ _ e => e
  · by_cases hf : (f1 != Value.bool true) = true
    · rw [if_pos hf]
      exact wpAny_bind (wpAny_setField_rec hz (by simp) fun h0 z0 s0 => wpAny_pure ⟨rfl, h0, _, rfl, z0, s0⟩)
    · rw [if_neg hf]
      exact wpAny_pure ⟨rfl, s.heap, f1, rfl, hz, rfl, fun _ _ => rfl⟩
  · rintro a s' ⟨rfl, h0, f, rfl, z0, s0⟩
    rw [if_neg (by decide)]
    simp only [← Array.forIn_toList, List.forIn_cons, List.forIn_nil]
    refine wpAny_bind (wpAny_bind (wpAny_bind (wpAny_holding ?_)))
    show wpAny _ _ (Builtin.SmallTypes.nextOf (.ref i1) >>= _) _ _ _
    refine wpAny_bind (wpAny_nextOf_list_item (h1.extBut s0.extBut D.i1z) (hl1.extBut s0.extBut D.l1z) hx fun h2' j1 s1 => wpAny_pure (wpAny_pure ?_))
    refine wpAny_bind (wpAny_bind (wpAny_holding ?_))
    show wpAny _ _ (Builtin.SmallTypes.nextOf (.ref i2) >>= _) _ _ _
    refine wpAny_bind (wpAny_nextOf_list_item ((h2.extBut s0.extBut D.i2z).extBut s1.extBut D.i12.symm) ((hl2.extBut s0.extBut D.l2z).extBut s1.extBut D.l2i1) hy fun h3' j2 s2 => wpAny_pure (wpAny_pure (wpAny_pure ?_)))
    have n3 : h3'.objs.size = s.heap.objs.size := by rw [s2.1, s1.1, s0.1]
    refine wpAny_bind (wpAny_newTuple ?_ (by show 2 ≤ sizeLine; decide))
    have old : ∀ c o, c ≠ z → c ≠ i1 → c ≠ i2 → s.heap.get? c = some o → h3'.get? c = some o := fun c o c1 c2 c3 e => s2.extBut _ _ c3 (s1.extBut _ _ c2 (s0.extBut _ _ c1 e))
    have z3 : h3'.get? z = some (ZipO TI TO (rawInt T) f) := s2.extBut _ _ D.i2z.symm (s1.extBut _ _ D.i1z.symm z0)
    refine wpAny_pure ⟨_, rfl, ?_⟩
    show Q (.ref h3'.objs.size) _
    rw [n3]
    refine q _ f (Heap.get?_push_of_some _ z3) ((j1.extBut s2.extBut D.i12).at fun o e => Heap.get?_push_of_some _ e) (j2.at fun o e => Heap.get?_push_of_some _ e) ?_ fun c o c1 c2 c3 e => Heap.get?_push_of_some _ (old c o c1 c2 c3 e)
    rw [← n3]
    exact Heap.get?_push_size _ rfl
/-- none is left: it ends, the last pair kept or none given out yet -/
theorem zip_keeps_end {z TI TO i1 i2 l1 l2 T : Addr} {o : Obj} {f1 : Value} {k1 k2 : Nat} {xs ys : Array Value} {Q : Fin → Shared → Prop} (hd : A.handled = none) (D : ZipApart z TI TO i1 i2 l1 l2) (hz : s.heap.get? z = some (ZipO TI TO (rawInt T) f1)) (hT : s.heap.get? T = some o)
    (hTI : IsPair s.heap TI (.ref i1) (.ref i2)) (h1 : s.heap.IsListIter i1 l1 k1) (h2 : s.heap.IsListIter i2 l2 k2) (hl1 : s.heap.IsList l1 xs) (hl2 : s.heap.IsList l2 ys) (hend : xs[k1]? = none ∨ ys[k2]? = none)
    (q : ∀ h' e, (∀ c o, c ≠ z → c ≠ i1 → c ≠ i2 → s.heap.get? c = some o → h'.get? c = some o) → (∃ o, h'.get? e = some o ∧ o.cls = .type "StopIteration") → E (.ref e) { s with heap := h' }) :
    wpAny (model P w) A (Builtin.«zip.__next__» ⟨[.ref z], []⟩) Q E s := by
  show wpAny _ _ (field (.ref z) 2 >>= _) _ _ _
  refine wpAny_bind (wpAny_field hz rfl (x := .bool false) rfl (wpAny_bind (wpAny_field hz rfl (x := .ref TI) rfl (wpAny_bind (wpAny_seqItems hTI rfl (wpAny_bind ?_))))))
  unfold Builtin.SmallTypes.ownedTupleIsFree
  refine wpAny_bind (wpAny_field hz rfl (x := rawInt T) rfl (wpAny_bind (if_alive ?_)))
  have hT' : s.heap.get? (((T : Nat) : Int).toNat) = some o := by rw [Int.toNat_natCast]; exact hT
  rw [hT']
  simp only [Option.isNone_some, Bool.false_eq_true, if_false]
  refine wpAny_bind (wpAny_field hz rfl (x := f1) rfl ?_)
  refine wpAny_mono (Q := fun a s' => a = false ∧ ∃ h0 f, s' = { s with heap := h0 } ∧ h0.get? z = some (ZipO TI TO (rawInt T) f) ∧ Heap.SameBut z s.heap h0) (E := E) ?_ ?_ fun _ _ e => e
  · by_cases hf : (f1 != Value.bool true) = true
    · rw [if_pos hf]
      exact wpAny_bind (wpAny_setField_rec hz (by simp) fun h0 z0 s0 => wpAny_pure ⟨rfl, h0, _, rfl, z0, s0⟩)
    · rw [if_neg hf]
      exact wpAny_pure ⟨rfl, s.heap, f1, rfl, hz, rfl, fun _ _ => rfl⟩
  · rintro a s' ⟨rfl, h0, f, rfl, z0, s0⟩
    rw [if_neg (by decide)]
    simp only [← Array.forIn_toList, List.forIn_cons, List.forIn_nil]
    refine wpAny_bind (wpAny_bind (wpAny_bind (wpAny_holding ?_)))
    show wpAny _ _ (Builtin.SmallTypes.nextOf (.ref i1) >>= _) _ _ _
    cases hx : xs[k1]? with
    | none =>
      exact wpAny_bind (wpAny_nextOf_list_end hd (h1.extBut s0.extBut D.i1z) (hl1.extBut s0.extBut D.l1z) hx fun h2' e s1 he => q h2' e (fun c o c1 c2 _ x => s1 _ _ c2 (s0.extBut _ _ c1 x)) he)
    | some x =>
      have hy : ys[k2]? = none := hend.elim (fun z => by rw [hx] at z; cases z) id
      refine wpAny_bind (wpAny_nextOf_list_item (h1.extBut s0.extBut D.i1z) (hl1.extBut s0.extBut D.l1z) hx fun h2' j1 s1 => wpAny_pure (wpAny_pure ?_))
      refine wpAny_bind (wpAny_bind (wpAny_holding ?_))
      show wpAny _ _ (Builtin.SmallTypes.nextOf (.ref i2) >>= _) _ _ _
      exact wpAny_bind (wpAny_nextOf_list_end hd ((h2.extBut s0.extBut D.i2z).extBut s1.extBut D.i12.symm) ((hl2.extBut s0.extBut D.l2z).extBut s1.extBut D.l2i1) hy fun h3' e s2 he => q h3' e (fun c o c1 c2 c3 x => s2 _ _ c3 (s1.extBut _ _ c2 (s0.extBut _ _ c1 x))) he)
end
/-- where a zip stands at the i-th pair, while the list at S keeps all pairs given out so far -/
structure ZAt (h : Heap) (z TI TO i1 i2 l1 l2 S : Addr) (xs ys : Array Value) (i : Nat) : Prop where
  zip : (∃ a b, IsZip h z TI TO .none ∧ IsPair h TO a b) ∨ ∃ (T : Addr) (o : Obj) (f : Value), h.get? z = some (ZipO TI TO (rawInt (T : Nat)) f) ∧ h.get? T = some o ∧ T ≠ z ∧ T ≠ i1 ∧ T ≠ i2 ∧ T ≠ S
  pair : IsPair h TI (.ref i1) (.ref i2)
  it1 : h.IsListIter i1 l1 i
  it2 : h.IsListIter i2 l2 i
  ls1 : h.IsList l1 xs
  ls2 : h.IsList l2 ys
section
variable {P : Program} {w : World} {A : Around} {E : Value → Shared → Prop} {s : Shared} {z TI TO i1 i2 l1 l2 S : Addr} {xs ys : Array Value} {i : Nat}
theorem ZAt.ty (Z : ZAt s.heap z TI TO i1 i2 l1 l2 S xs ys i) : s.TypeIs (.ref z) "zip" := by
  rcases Z.zip with ⟨_, _, h, _⟩ | ⟨_, _, _, h, _⟩
  · exact ⟨_, h, rfl⟩
  · exact ⟨_, h, rfl⟩
/-- S is none of them -/
structure ZOff (z TI TO i1 i2 l1 l2 S : Addr) : Prop where
  z : S ≠ z
  TI : S ≠ TI
  TO : S ≠ TO
  i1 : S ≠ i1
  i2 : S ≠ i2
  l1 : S ≠ l1
  l2 : S ≠ l2
theorem ZAt.frame {h h' : Heap} (O : ZOff z TI TO i1 i2 l1 l2 S) (Z : ZAt h z TI TO i1 i2 l1 l2 S xs ys i) (k : ∀ c o, c ≠ S → h.get? c = some o → h'.get? c = some o) : ZAt h' z TI TO i1 i2 l1 l2 S xs ys i := by
  refine ⟨?_, k _ _ O.TI.symm Z.pair, Z.it1.at fun o e => k _ o O.i1.symm e, Z.it2.at fun o e => k _ o O.i2.symm e, Z.ls1.at fun o e => k _ o O.l1.symm e, Z.ls2.at fun o e => k _ o O.l2.symm e⟩
  rcases Z.zip with ⟨a, b, hz, hTO⟩ | ⟨T, o, f, hz, hT, t1, t2, t3, t4⟩
  · exact .inl ⟨a, b, k _ _ O.z.symm hz, k _ _ O.TO.symm hTO⟩
  · exact .inr ⟨T, o, f, k _ _ O.z.symm hz, k _ _ t4 hT, t1, t2, t3, t4⟩
theorem ZAt.next (D : ZipApart z TI TO i1 i2 l1 l2) (Z : ZAt s.heap z TI TO i1 i2 l1 l2 S xs ys i) (hS : S < s.heap.objs.size) {x y : Value} (hx : xs[i]? = some x) (hy : ys[i]? = some y) {Q : Option Value → Shared → Prop}
    (q : ∀ h', ZAt h' z TI TO i1 i2 l1 l2 S xs ys (i + 1) → IsPair h' s.heap.objs.size x y → (∀ c o, c ≠ z → c ≠ TO → c ≠ i1 → c ≠ i2 → s.heap.get? c = some o → h'.get? c = some o) → Q (some (.ref s.heap.objs.size)) { s with heap := h' }) :
    wpAny (model P w) A (pyNext (.ref z)) Q E s := by
  have lt : ∀ {c o}, s.heap.get? c = some o → s.heap.objs.size ≠ c := fun e => Nat.ne_of_gt (Heap.lt_size e)
  have n1 : s.heap.objs.size ≠ i1 := by obtain ⟨_, e, _⟩ := Z.it1; exact lt e
  have n2 : s.heap.objs.size ≠ i2 := by obtain ⟨_, e, _⟩ := Z.it2; exact lt e
  rcases Z.zip with ⟨a, b, hz, hTO⟩ | ⟨T, o, f, hz, hT, t1, t2, t3, t4⟩
  · refine wpAny_pyNext_zip_item D hz Z.pair hTO Z.it1 Z.it2 Z.ls1 Z.ls2 hx hy fun h' z' o' j1 j2 p' _ k => q h' ⟨.inr ⟨_, _, _, z', p', lt hz, n1, n2, Nat.ne_of_gt hS⟩, ?_, j1, j2, ?_, ?_⟩ p' k
    · exact k _ _ D.TIz D.TITO D.TIi1 D.TIi2 Z.pair
    · exact Z.ls1.at fun o e => k _ o D.l1z D.l1TO D.l1i1 D.l1i2 e
    · exact Z.ls2.at fun o e => k _ o D.l2z D.l2TO D.l2i1 D.l2i2 e
  · unfold pyNext
    refine wpAny_bind (wpAny_attempt (wpAny_callSpecial?_slot (name := Str.ofString "__next__") Z.ty F.slot_zip_next (wpAny_call_entry F.slot_zip_next Z.ty F.entry_zip_next (zip_keeps D hz hT Z.pair Z.it1 Z.it2 Z.ls1 Z.ls2 hx hy fun h' f' z' j1 j2 p' k => wpAny_pure ?_) (F.args_zip_next_1 _))))
    refine q h' ⟨.inr ⟨T, o, f', z', k _ _ t1 t2 t3 hT, t1, t2, t3, t4⟩, k _ _ D.TIz D.TIi1 D.TIi2 Z.pair, j1, j2, ?_, ?_⟩ p' fun c o c1 _ c3 c4 e => k c o c1 c3 c4 e
    · exact Z.ls1.at fun o e => k _ o D.l1z D.l1i1 D.l1i2 e
    · exact Z.ls2.at fun o e => k _ o D.l2z D.l2i1 D.l2i2 e
theorem ZAt.done (hd : A.handled = none) (D : ZipApart z TI TO i1 i2 l1 l2) (Z : ZAt s.heap z TI TO i1 i2 l1 l2 S xs ys i) (he : xs[i]? = none ∨ ys[i]? = none) {Q : Option Value → Shared → Prop}
    (q : ∀ h', (∀ c o, c ≠ z → c ≠ TO → c ≠ i1 → c ≠ i2 → s.heap.get? c = some o → h'.get? c = some o) → Q none { s with heap := h' }) : wpAny (model P w) A (pyNext (.ref z)) Q E s := by
  rcases Z.zip with ⟨a, b, hz, hTO⟩ | ⟨T, o, f, hz, hT, _⟩
  · exact wpAny_pyNext_zip_end hd D hz Z.pair hTO Z.it1 Z.it2 Z.ls1 Z.ls2 he q
  · unfold pyNext
    refine wpAny_bind (wpAny_attempt (wpAny_callSpecial?_slot (name := Str.ofString "__next__") Z.ty F.slot_zip_next (wpAny_call_entry F.slot_zip_next Z.ty F.entry_zip_next (zip_keeps_end hd D hz hT Z.pair Z.it1 Z.it2 Z.ls1 Z.ls2 he fun h' e k x => ?_) (F.args_zip_next_1 _))))
    obtain ⟨o, ho, hc⟩ := x
    exact wpAny_bind (wpAny_isInstance (T := "StopIteration") (b := true) ⟨o, ho, hc⟩ isSubtype_stop (wpAny_pure (q _ fun c o c1 _ c3 c4 e => k c o c1 c3 c4 e)))
/-- the pairs kept so far, all of them laid from N on -/
def Kept (h : Heap) (z TO i1 i2 S : Addr) (N : Nat) (xs ys acc : Array Value) (i : Nat) : Prop := acc.size = i ∧ ∀ j, j < i → ∃ (x y : Value) (T : Addr), xs[j]? = some x ∧ ys[j]? = some y ∧ acc[j]? = some (.ref T) ∧ N ≤ T ∧ IsPair h T x y ∧ T ≠ z ∧ T ≠ TO ∧ T ≠ i1 ∧ T ≠ i2 ∧ T ≠ S ∧ ∀ j' (T' : Addr), j' < j → acc[j']? = some (.ref T') → T' ≠ T
theorem zip_loop {res : Value} {N : Nat} {R : Result → Shared → Prop} (hd : A.in1.handled = none) (D : ZipApart z TI TO i1 i2 l1 l2) (O : ZOff z TI TO i1 i2 l1 l2 S) (hl : min xs.size ys.size ≤ sizeLine) (h0 : Heap) (w0 : N = h0.objs.size) (wz : N ≤ z ∧ N ≤ TO ∧ N ≤ i1 ∧ N ≤ i2 ∧ N ≤ S)
    (q : ∀ h' acc c, h'.get? S = some { cls := .type "list", dict := none, data := .seq acc c, slots := #[] } → Kept h' z TO i1 i2 S N xs ys acc (min xs.size ys.size) → (∀ c o, h0.get? c = some o → h'.get? c = some o) → R (.ok (.ret res)) { s with heap := h' }) :
    ∀ (k i : Nat) (h : Heap) (acc : Array Value) (c : Nat), min xs.size ys.size - i = k → i ≤ min xs.size ys.size → ZAt h z TI TO i1 i2 l1 l2 S xs ys i → h.get? S = some { cls := .type "list", dict := none, data := .seq acc c, slots := #[] } → Kept h z TO i1 i2 S N xs ys acc i → (∀ c o, h0.get? c = some o → h.get? c = some o) → N ≤ h.objs.size → TO < h.objs.size →
      codeAny (model P w) A (.builtin "list.extend.loop" ⟨[.ref S, .ref z, res], []⟩) R { s with heap := h } := by
  have off0 : ∀ {c o}, h0.get? c = some o → c ≠ z ∧ c ≠ TO ∧ c ≠ i1 ∧ c ≠ i2 ∧ c ≠ S := fun {c o} e => by
    have lb : c < N := w0 ▸ Heap.lt_size e
    exact ⟨Nat.ne_of_lt (Nat.lt_of_lt_of_le lb wz.1), Nat.ne_of_lt (Nat.lt_of_lt_of_le lb wz.2.1), Nat.ne_of_lt (Nat.lt_of_lt_of_le lb wz.2.2.1), Nat.ne_of_lt (Nat.lt_of_lt_of_le lb wz.2.2.2.1), Nat.ne_of_lt (Nat.lt_of_lt_of_le lb wz.2.2.2.2)⟩
  intro k
  induction k with
  | zero =>
    intro i h acc c hk hi Z hS K k0 _ _
    have e : i = min xs.size ys.size := by omega
    subst e
    refine codeAny_builtin F.entry_extend_loop ?_
    rw [Around.under_plainId F.plain_extend_loop _]
    show wpAny _ A.in1 (pyNext (.ref z) >>= _) _ _ _
    refine wpAny_bind (Z.done (s := { s with heap := h }) hd D ?_ fun h' k' => wpAny_pure (q h' acc c (k' _ _ O.z O.TO O.i1 O.i2 hS) ⟨K.1, fun j hj => ?_⟩ fun c o e => ?_))
    · rcases Nat.le_total xs.size ys.size with z | z
      · exact .inl (Array.getElem?_eq_none (by omega))
      · exact .inr (Array.getElem?_eq_none (by omega))
    · obtain ⟨x, y, T, a1, a2, a3, a4, a5, a6, a7, a8, a9, b1⟩ := K.2 j hj
      exact ⟨x, y, T, a1, a2, a3, a4, k' _ _ a6 a7 a8 a9 a5, a6, a7, a8, a9, b1⟩
    · obtain ⟨c1, c2, c3, c4, _⟩ := off0 e
      exact k' c o c1 c2 c3 c4 (k0 c o e)
  | succ k ih =>
    intro i h acc c hk hi Z hS K k0 hN hTO
    have lx : i < xs.size := by omega
    have ly : i < ys.size := by omega
    have lS : S < h.objs.size := Heap.lt_size hS
    refine codeAny_builtin F.entry_extend_loop ?_
    rw [Around.under_plainId F.plain_extend_loop _]
    show wpAny _ A.in1 (pyNext (.ref z) >>= _) _ _ _
    refine wpAny_bind (Z.next (s := { s with heap := h }) D lS (Array.getElem?_eq_getElem lx) (Array.getElem?_eq_getElem ly) fun h' Z' p' k' => ?_)
    have hS' := k' _ _ O.z O.TO O.i1 O.i2 hS
    show wpAny _ A.in1 (updateSeq S (·.push _) >>= _) _ _ _
    have lt : ∀ {c o}, h.get? c = some o → h.objs.size ≠ c := fun e => Nat.ne_of_gt (Heap.lt_size e)
    have n0 : h.objs.size ≠ z := by
      rcases Z.zip with ⟨_, _, e, _⟩ | ⟨_, _, _, e, _⟩
      · exact lt e
      · exact lt e
    have n1 : h.objs.size ≠ i1 := by obtain ⟨_, e, _⟩ := Z.it1; exact lt e
    have n2 : h.objs.size ≠ i2 := by obtain ⟨_, e, _⟩ := Z.it2; exact lt e
    refine wpAny_bind (wpAny_updateSeq hS' rfl (wpAny_pure ⟨plainId_quiet F.plain_extend_loop _, ih (i + 1) _ (acc.push (.ref h.objs.size)) _ (by omega) (by omega) (Z'.frame O fun c o c1 e => (Heap.get?_update_other _ _ (Ne.symm c1)).trans e) (Heap.get?_update_self _ hS' rfl) ⟨by rw [Array.size_push, K.1], fun j hj => ?_⟩ (fun c o e => ?_) ?_ ?_⟩) (by rw [K.1]; omega) (by show (acc.push _).size ≤ sizeLine + 1; rw [Array.size_push, K.1]; omega))
    · have up : ∀ {c o}, c ≠ S → h'.get? c = some o → (h'.update S (Obj.mapSeq (·.push (.ref h.objs.size)))).get? c = some o := fun c1 e => (Heap.get?_update_other _ _ (Ne.symm c1)).trans e
      rcases Nat.lt_or_ge j i with c' | c'
      · obtain ⟨x, y, T, a1, a2, a3, a4, a5, a6, a7, a8, a9, b1⟩ := K.2 j c'
        refine ⟨x, y, T, a1, a2, ?_, a4, up b1.1 (k' _ _ a6 a7 a8 a9 a5), a6, a7, a8, a9, b1.1, fun j' T' hj' e' => b1.2 j' T' hj' ?_⟩
        · rw [Array.getElem?_push, if_neg (by rw [K.1]; omega)]
          exact a3
        · rw [Array.getElem?_push, if_neg (by rw [K.1]; omega)] at e'
          exact e'
      · have e : j = i := by omega
        subst e
        refine ⟨_, _, h.objs.size, Array.getElem?_eq_getElem lx, Array.getElem?_eq_getElem ly, ?_, hN, up (Nat.ne_of_gt lS) p', n0, Nat.ne_of_gt hTO, n1, n2, Nat.ne_of_gt lS, fun j' T' hj' e' => ?_⟩
        · rw [Array.getElem?_push, if_pos (by rw [K.1])]
        · rw [Array.getElem?_push, if_neg (by rw [K.1]; omega)] at e'
          obtain ⟨_, _, T2, _, _, b3, _, b5, _⟩ := K.2 j' hj'
          rw [e'] at b3
          cases b3
          exact Nat.ne_of_lt (Heap.lt_size b5)
    · obtain ⟨c1, c2, c3, c4, c5⟩ := off0 e
      exact (Heap.get?_update_other _ _ (Ne.symm c5)).trans (k' c o c1 c2 c3 c4 (k0 c o e))
    · rw [Heap.size_update]
      exact Nat.le_trans hN (Nat.le_of_lt (Heap.lt_size p'))
    · rw [Heap.size_update]
      exact Nat.lt_trans hTO (Heap.lt_size p')
abbrev bareList : Obj := { cls := .type "list", data := .seq #[] }
/-- list(z), z the zip of two lists, just made -/
theorem list_of_zip {Q : Value → Shared → Prop} {a b : Value} (hd : A.handled = none) (D : ZipApart z TI TO i1 i2 l1 l2) (hz : IsZip s.heap z TI TO .none) (hTI : IsPair s.heap TI (.ref i1) (.ref i2)) (hTO : IsPair s.heap TO a b) (h1 : s.heap.IsListIter i1 l1 0) (h2 : s.heap.IsListIter i2 l2 0) (hl1 : s.heap.IsList l1 xs) (hl2 : s.heap.IsList l2 ys) (hl : min xs.size ys.size ≤ sizeLine)
    (h0 : Heap) (k0 : ∀ c o, h0.get? c = some o → s.heap.get? c = some o) (w0 : h0.objs.size ≤ z ∧ h0.objs.size ≤ TO ∧ h0.objs.size ≤ i1 ∧ h0.objs.size ≤ i2)
    (q : ∀ h' S acc c, h0.objs.size ≤ S → h'.get? S = some { cls := .type "list", dict := none, data := .seq acc c, slots := #[] } → Kept h' z TO i1 i2 S h0.objs.size xs ys acc (min xs.size ys.size) → (∀ c o, h0.get? c = some o → h'.get? c = some o) → Q (.ref S) { s with heap := h' }) :
    wpAny (model P w) A (call (.type "list") [.ref z]) Q E s := by
  have lt : ∀ {c o}, s.heap.get? c = some o → s.heap.objs.size ≠ c := fun e => Nat.ne_of_gt (Heap.lt_size e)
  have ltz := Heap.lt_size hz
  have hS : (s.heap.push bareList).get? s.heap.objs.size = some bareList := Heap.get?_push_size _ rfl
  have O : ZOff z TI TO i1 i2 l1 l2 s.heap.objs.size := ⟨lt hz, lt hTI, lt hTO, (by obtain ⟨_, e, _⟩ := h1; exact lt e), (by obtain ⟨_, e, _⟩ := h2; exact lt e), (by obtain ⟨_, e, _⟩ := hl1; exact lt e), (by obtain ⟨_, e, _⟩ := hl2; exact lt e)⟩
  have Z0 : ZAt (s.heap.push bareList) z TI TO i1 i2 l1 l2 s.heap.objs.size xs ys 0 :=
    ⟨.inl ⟨a, b, Heap.get?_push_of_some _ hz, Heap.get?_push_of_some _ hTO⟩, Heap.get?_push_of_some _ hTI, h1.at fun o e => Heap.get?_push_of_some _ e, h2.at fun o e => Heap.get?_push_of_some _ e, hl1.at fun o e => Heap.get?_push_of_some _ e, hl2.at fun o e => Heap.get?_push_of_some _ e⟩
  refine callType_codes (Q₁ := fun x s1 => x = .ref s.heap.objs.size ∧ s1 = { s with heap := s.heap.push bareList }) F.called_list (F.typeCall_list_1 _) F.entry_list_init (code_list_new _ ⟨rfl, rfl⟩) fun x s1 e => ?_
  obtain ⟨rfl, rfl⟩ := e
  refine ⟨⟨_, hS, rfl⟩, F.args_list_init_2 _ _, ?_⟩
  show wpAny _ _ (Builtin.List.listItems (.ref s.heap.objs.size) >>= _) _ _ _
  unfold Builtin.List.listItems
  refine wpAny_bind (wpAny_bind (wpAny_seqItems hS rfl (wpAny_pure ?_)))
  show wpAny _ _ (updateSeq s.heap.objs.size (fun _ => #[]) >>= _) _ _ _
  refine wpAny_bind (wpAny_updateSeq hS rfl ?_)
  have hS2 := Heap.get?_update_self (Obj.mapSeq (fun _ => (#[] : Array Value))) hS rfl
  refine wpAny_bind (wpAny_letGo ?_)
  have up1 : ∀ c o, c ≠ s.heap.objs.size → (s.heap.push bareList).get? c = some o → ((s.heap.push bareList).update s.heap.objs.size (Obj.mapSeq (fun _ => (#[] : Array Value)))).get? c = some o := fun c o c1 e => (Heap.get?_update_other _ _ (Ne.symm c1)).trans e
  have Z1 := Z0.frame O up1
  have ty1 := Z1.ty (s := { s with heap := (s.heap.push bareList).update s.heap.objs.size (Obj.mapSeq (fun _ => (#[] : Array Value))) })
  unfold Builtin.List.listExtendWith
  refine wpAny_bind (wpAny_typeOf ty1 ?_)
  have c1 : Builtin.List.listSameRef (.ref s.heap.objs.size) (.ref z) = false := by simp [Builtin.List.listSameRef, O.z]
  have c2 : (Value.type "zip" == Value.type "list") = false := by decide
  have c3 : (Value.type "zip" == Value.type "tuple") = false := by decide
  simp only [c1, c2, c3, Bool.or_false, Bool.false_eq_true, if_false]
  refine wpAny_bind (wpAny_pyIter_zip (up1 _ _ O.z.symm (Heap.get?_push_of_some _ hz)) (wpAny_bind (wpAny_holding ?_)))
  unfold Builtin.List.listLengthHint
  refine wpAny_bind (wpAny_specialOf ty1 zip_len0 ?_)
  show wpAny _ _ (specialOf (Value.ref z) (Str.ofString "__length_hint__") >>= _) _ _ _
  refine wpAny_bind (wpAny_specialOf ty1 zip_hint0 (wpAny_pure ?_))
  show wpAny _ _ (rule "list.extend.makes-room" >>= fun _ => Builtin.List.listTouch (.ref s.heap.objs.size) >>= _) _ _ _
  refine wpAny_bind (wpAny_rule (wpAny_bind ?_))
  show wpAny _ _ (updateSeq s.heap.objs.size (·.push .none) >>= fun _ => updateSeq s.heap.objs.size (·.pop)) _ _ _
  refine wpAny_bind (wpAny_updateSeq hS2 rfl ?_)
  have hS3 := Heap.get?_update_self (Obj.mapSeq (·.push Value.none)) hS2 rfl
  refine wpAny_updateSeq hS3 rfl ?_
  have hS4 := Heap.get?_update_self (Obj.mapSeq (·.pop)) hS3 rfl
  have up2 : ∀ c o, c ≠ s.heap.objs.size → s.heap.get? c = some o → ((((s.heap.push bareList).update s.heap.objs.size (Obj.mapSeq (fun _ => (#[] : Array Value)))).update s.heap.objs.size (Obj.mapSeq (·.push Value.none))).update s.heap.objs.size (Obj.mapSeq (·.pop))).get? c = some o :=
    fun c o c1 e => (Heap.get?_update_other _ _ (Ne.symm c1)).trans ((Heap.get?_update_other _ _ (Ne.symm c1)).trans (up1 c o c1 (Heap.get?_push_of_some _ e)))
  have Z2 := Z1.frame O fun c o c1 (e : _ = some o) => (Heap.get?_update_other _ (Obj.mapSeq (·.pop)) (Ne.symm c1)).trans ((Heap.get?_update_other _ (Obj.mapSeq (·.push Value.none)) (Ne.symm c1)).trans e)
  have h0s : h0.objs.size ≤ s.heap.objs.size := Nat.le_trans w0.1 (Nat.le_of_lt ltz)
  refine wpAny_pure ⟨plainId_quiet F.plain_extend_loop _, zip_loop (R := _) (by simp [hd]) D O hl h0 rfl ⟨w0.1, w0.2.1, w0.2.2.1, w0.2.2.2, h0s⟩ (fun h' acc c hS' K k' => ?_) _ 0 _ #[] _ rfl (Nat.zero_le _) Z2 hS4 ⟨rfl, fun j hj => absurd hj (Nat.not_lt_zero _)⟩ (fun c o e => up2 c o (Nat.ne_of_lt (Nat.lt_of_lt_of_le (Heap.lt_size e) h0s)) (k0 c o e)) ?_ ?_⟩
  · exact ⟨rfl, q h' _ acc c h0s hS' K k'⟩
  · simp only [Heap.size_update, Heap.size_push]
    exact Nat.le_succ_of_le h0s
  · simp only [Heap.size_update, Heap.size_push]
    exact Nat.lt_succ_of_lt (Heap.lt_size hTO)
end
end DL
set_option autoImplicit false
namespace DL
open PySem PySem.Spec PyProof.Rows L2
def upds (H : Hp) : List (Addr × HO) → Hp
  | [] => H
  | p :: r => upd (upds H r) p.1 p.2
theorem upds_off {H : Hp} {b : Addr} : ∀ {l : List (Addr × HO)}, (∀ p ∈ l, p.1 ≠ b) → upds H l b = H b
  | [], _ => rfl
  | p :: r, h => (upd_ne (h p List.mem_cons_self).symm).trans (upds_off fun q hq => h q (List.mem_cons_of_mem _ hq))
theorem upds_in {H : Hp} {b : Addr} {o : HO} : ∀ {l : List (Addr × HO)}, upds H l b = some o → (∃ p ∈ l, p.1 = b ∧ p.2 = o) ∨ ((∀ p ∈ l, p.1 ≠ b) ∧ H b = some o)
  | [], h => .inr ⟨fun _ z => absurd z List.not_mem_nil, h⟩
  | p :: r, h => by
    by_cases e : p.1 = b
    · subst e
      rw [upds, upd_same] at h
      exact .inl ⟨p, List.mem_cons_self, rfl, Option.some.inj h⟩
    · rw [upds, upd_ne (Ne.symm e)] at h
      rcases upds_in h with ⟨q, hq, h1⟩ | ⟨h1, h2⟩
      · exact .inl ⟨q, List.mem_cons_of_mem _ hq, h1⟩
      · exact .inr ⟨fun q hq => (List.mem_cons.mp hq).elim (fun z => z ▸ e) (h1 q), h2⟩
theorem upds_at {H : Hp} {p : Addr × HO} : ∀ {l : List (Addr × HO)}, (l.map (·.1)).Nodup → p ∈ l → upds H l p.1 = some p.2
  | q :: r, hn, h => by
    rw [List.map_cons, List.nodup_cons] at hn
    rcases List.mem_cons.mp h with e | h
    · subst e; exact upd_same
    · rw [upds, upd_ne (fun z => hn.1 (List.mem_map.mpr ⟨p, h, z⟩))]
      exact upds_at hn.2 h
theorem upds_same {H : Hp} {l : List (Addr × HO)} (h : ∀ p ∈ l, H p.1 = none) : Same H (upds H l) := fun b o e => by
  refine (upds_off fun p hp z => ?_).trans e
  have w := h p hp
  rw [z, e] at w
  cases w
section
variable {X : Cx} {pins : List (Addr × Obj)} {σ : L2.St} {H : Hp} {s : Shared}
theorem laids {h' : Heap} {t' : Nat} (I : Inv X pins σ H s) (l : List (Addr × HO)) (k : ∀ b u, s.heap.get? b = some u → h'.get? b = some u) (hp : ∀ p ∈ l, s.heap.objs.size ≤ p.1) (new : ∀ p ∈ l, ObjOk X.prog X.w (upds H l) h' p.1 p.2) : Inv X pins σ (upds H l) { s with heap := h', toks := t' } := by
  have off : ∀ {b o}, s.heap.get? b = some o → ∀ p ∈ l, p.1 ≠ b := fun e p h z => absurd (Heap.lt_size e) (Nat.not_lt.mpr (z ▸ hp p h))
  have offH : ∀ {b o}, H b = some o → ∀ p ∈ l, p.1 ≠ b := fun e p h z => absurd ((I.hok.lt e)) (Nat.not_lt.mpr (z ▸ hp p h))
  refine I.un ⟨fun b u q _ _ _ => k b u q, fun b u q _ _ _ => ⟨u.slots, k b u q⟩, fun b u q n _ => (upds_off (off q)).trans n, fun b u q _ => ⟨u, k b u q⟩, fun b xs q => (upds_off (offH q)).trans q, fun b u xs q => (upds_off (offH q)).trans q, fun b ps q => ⟨#[], by rw [upds_off (offH q), q]; simp⟩⟩ fun b o e => ?_
  rcases upds_in e with ⟨p, hp', e1, e2⟩ | ⟨h1, h2⟩
  · subst e1 e2
    exact new p hp'
  · exact (I.hok b o h2).stay (fun c v _ q => k c v q) (fun c q => (upds_off (offH q)).trans q) fun c xs q => (upds_off (offH q)).trans q
end
def pairD (x y : D) : D := .tup [x, y]
def dListZ : List D → Option D
  | [.lst xs, .lst ys] => if min xs.length ys.length ≤ sizeLine then some (.lst (List.zipWith pairD xs ys)) else none
  | _ => none
/-- a call that lays several objects, of which one is handed out -/
def rCZ (K : PySem.W.Frag) (g : List D → Option D) : List V → Hp → VK → Prop := fun xs H Q => ∃ M ds r, Kind M H ∧ DatAll K M H xs ds ∧ g ds = some r ∧ ∀ Hm, Same H Hm → ∀ a H' o, Hm a = none → Same Hm H' → H' a = some o → Cont K M Hm o r → Q (.ref a) H'
theorem r_fnZ {K : PySem.W.Frag} {c : Ctx K} {tl : TA} {ml : Mo (List D)} {g : List D → Option D} (h : RAv c tl ml) : RNw c (tCB (rCZ K g) tl) (mFn g ml) := by
  intro M σ H ρ S d ρ' hm Q q
  obtain ⟨xs, ρ1, h1, hm⟩ := mBd_some hm
  obtain ⟨hg, rfl⟩ := mL_some hm
  exact h M σ H ρ S xs _ h1 _ fun M1 vs H1 E1 S1 d1 => ⟨M1, xs, d, S1.kind, d1, hg, fun Hm s1 a H' o n s ho h => r_new S (E1.trans (.same s1) S.kind) (S1.same s1) n s ho h q⟩
/-- each address with the pair that stands there -/
def pairsAt : List Addr → List V → List V → List (Addr × HO)
  | t :: ts, x :: xs, y :: ys => (t, .tup [x, y]) :: pairsAt ts xs ys
  | _, _, _ => []
theorem pairsAt_get : ∀ {ts : List Addr} {xs ys : List V} {p : Addr × HO}, p ∈ pairsAt ts xs ys → ∃ (j : Nat) (x y : V), ts[j]? = some p.1 ∧ xs[j]? = some x ∧ ys[j]? = some y ∧ p.2 = .tup [x, y]
  | t :: ts, x :: xs, y :: ys, p, h => by
    rcases List.mem_cons.mp h with rfl | h
    · exact ⟨0, x, y, rfl, rfl, rfl, rfl⟩
    · obtain ⟨j, a, b, h1, h2, h3, h4⟩ := pairsAt_get h
      exact ⟨j + 1, a, b, h1, h2, h3, h4⟩
  | [], _, _, _, h => absurd h List.not_mem_nil
  | _ :: _, [], _, _, h => absurd h List.not_mem_nil
  | _ :: _, _ :: _, [], _, h => absurd h List.not_mem_nil
theorem pairsAt_mem : ∀ {ts : List Addr} {xs ys : List V} {j : Nat} {t : Addr} {x y : V}, ts[j]? = some t → xs[j]? = some x → ys[j]? = some y → (t, HO.tup [x, y]) ∈ pairsAt ts xs ys
  | t :: ts, x :: xs, y :: ys, 0, _, _, _, h1, h2, h3 => by
    cases h1; cases h2; cases h3
    exact List.mem_cons_self
  | t :: ts, x :: xs, y :: ys, j + 1, _, _, _, h1, h2, h3 => List.mem_cons_of_mem _ (pairsAt_mem (j := j) h1 h2 h3)
  | [], _, _, _, _, _, _, h, _, _ => by simp at h
  | _ :: _, [], _, _, _, _, _, _, h, _ => by simp at h
  | _ :: _, _ :: _, [], _, _, _, _, _, _, h => by simp at h
theorem pairsAt_fst : ∀ {ts : List Addr} {xs ys : List V}, ts.length = min xs.length ys.length → (pairsAt ts xs ys).map (·.1) = ts
  | [], _, _, _ => rfl
  | t :: ts, x :: xs, y :: ys, h => by
    rw [pairsAt, List.map_cons, pairsAt_fst (by simp only [List.length_cons] at h; omega)]
  | _ :: _, [], _, h => by simp at h
  | _ :: _, _ :: _, [], h => by simp at h
theorem dat_pairs {K : PySem.W.Frag} {M : Addr → Prop} {H H' : Hp} (e : Same H H') : ∀ {ts : List Addr} {xs ys : List V} {ds es : List D}, DatAll K M H xs ds → DatAll K M H ys es → ts.length = min xs.length ys.length → (∀ (j : Nat) (t : Addr) (x y : V), ts[j]? = some t → xs[j]? = some x → ys[j]? = some y → H' t = some (.tup [x, y])) → DatAll K M H' (ts.map V.ref) (List.zipWith pairD ds es)
  | [], [], _, _, _, .nil, _, _, _ => .nil
  | [], _ :: _, [], _, _, .cons _ _, .nil, _, _ => .nil
  | [], _ :: _, _ :: _, _, _, _, _, h, _ => by simp at h
  | t :: ts, [], _, _, _, _, _, h, _ => by simp at h
  | t :: ts, _ :: _, [], _, _, _, _, h, _ => by simp at h
  | t :: ts, x :: xs, y :: ys, _, _, .cons a as, .cons b bs, h, q => by
    refine .cons (.tup (.inl (.inl (q 0 t x y rfl rfl rfl))) (.cons (a.same e) (.cons (b.same e) .nil))) (dat_pairs e as bs (by simp only [List.length_cons] at h; omega) fun j t' x' y' h1 h2 h3 => q (j + 1) t' x' y' h1 h2 h3)
theorem vals_refs : ∀ ts : List Addr, Vals (ts.map V.ref) (ts.map Value.ref)
  | [] => .nil
  | _ :: ts => .cons rfl (vals_refs ts)
section
variable {X : Cx} {e e2 : Expr} {ta : TA} {p p2 q0 pos : Pos}
theorem nodup_refs {h : Heap} {z TO i1 i2 S : Addr} {N n : Nat} {xs ys acc : Array Value} (K : Kept h z TO i1 i2 S N xs ys acc n) : ∃ ts : List Addr, acc.toList = ts.map Value.ref ∧ ts.length = n ∧ ts.Nodup ∧ ∀ (j : Nat) (t : Addr), ts[j]? = some t → ∃ x y, xs[j]? = some x ∧ ys[j]? = some y ∧ N ≤ t ∧ IsPair h t x y ∧ t ≠ S := by
  have go : ∀ (l : List Value), (∀ v ∈ l, ∃ t : Addr, v = .ref t) → ∃ ts : List Addr, l = ts.map Value.ref := fun l => by
    induction l with
    | nil => exact fun _ => ⟨[], rfl⟩
    | cons v l ih =>
      intro h
      obtain ⟨t, rfl⟩ := h v List.mem_cons_self
      obtain ⟨ts, rfl⟩ := ih fun w hw => h w (List.mem_cons_of_mem _ hw)
      exact ⟨t :: ts, rfl⟩
  obtain ⟨ts, ht⟩ := go acc.toList fun v hv => by
    obtain ⟨j, hj⟩ := List.mem_iff_getElem?.mp hv
    rw [Array.getElem?_toList] at hj
    have lj : j < n := by rw [← K.1]; exact (Array.getElem?_eq_some_iff.mp hj).1
    obtain ⟨x, y, T, _, _, a3, _⟩ := K.2 j lj
    rw [hj] at a3
    exact ⟨T, Option.some.inj a3⟩
  have hl : ts.length = n := by rw [← K.1, ← Array.length_toList, ht, List.length_map]
  have at' : ∀ (j : Nat) (t : Addr), ts[j]? = some t → acc[j]? = some (.ref t) := fun j t e => by rw [← Array.getElem?_toList, ht, List.getElem?_map, e]; rfl
  refine ⟨ts, ht, hl, List.pairwise_iff_getElem.mpr fun i j hi hj hij e => ?_, fun j t hj => ?_⟩
  · obtain ⟨_, _, T, _, _, a3, _, _, _, _, _, _, _, a7⟩ := K.2 j (by omega)
    have e1 := at' i _ (List.getElem?_eq_getElem hi)
    have e2 := at' j _ (List.getElem?_eq_getElem hj)
    rw [e2] at a3
    cases a3
    exact a7 i _ hij e1 e
  · have lj : j < n := by rw [← hl]; exact (List.getElem?_eq_some_iff.mp hj).1
    obtain ⟨x, y, T, a1, a2, a3, a4, a5, _, _, _, _, a6, _⟩ := K.2 j lj
    rw [at' j t hj] at a3
    cases a3
    exact ⟨x, y, a1, a2, a4, a5, a6⟩
theorem pe_listzip (hc : X.calm = true) (hg : Gl X "list") (hm : X.mg "list" = none) (hg2 : Gl X "zip") (hm2 : X.mg "zip" = none) (ha : PA X [e, e2] ta)
    (hs : starEach [e, e2] X.env = (false, eval e X.env) :: starEach [e2] X.env := by rfl) (hpl : (backTo q0 (starEach [e2] X.env)).any (·.1) = false := by rfl)
    (na : starEach [.Call (.Name "zip" p2) [e, e2] [] q0] X.env = (false, eval (.Call (.Name "zip" p2) [e, e2] [] q0) X.env) :: starEach [] X.env := by rfl) : PE X (.Call (.Name "list" p) [.Call (.Name "zip" p2) [e, e2] [] q0] [] pos) (tCB (rCZ X.K dListZ) ta) := by
  refine ⟨fun pins s σ H Q I h => ?_⟩
  refine Call_ (ld_blt I hg hm boot_list (PyProof.Rows.callWith_type1 (PyProof.Rows.args_cons ?_ na) na rfl))
  refine Call_ (ld_blt I hg2 hm2 PyProof.Rows.boot_zip (PyProof.Rows.callWith_type1 (thn (ha.run q0 pins s σ H _ I h) fun us s1 ⟨vs, H1, I1, r1, q1⟩ => ?_) hs hpl))
  obtain ⟨M, ds, d, km, hd, hg', q⟩ := q1
  unfold dListZ at hg'
  split at hg' <;> try (cases hg'; done)
  obtain ⟨hl, rfl⟩ := if_some hg'
  obtain ⟨v, w, rfl, hv, hw⟩ := two_of hd
  obtain ⟨u1, u2, rfl, ru, rw'⟩ : ∃ a b, us = [a, b] ∧ RelV v a ∧ RelV w b := by
    cases r1 with
    | cons r r1 => cases r1 with | cons r' r1 => cases r1; exact ⟨_, _, rfl, r, r'⟩
  cases hv with
  | @lst l1 xs ds n1 hH1 hx =>
    cases hw with
    | @lst l2 ys es n2 hH2 hy =>
      cases ru; cases rw'
      obtain ⟨its, rv, pl, hz⟩ := I1.list (SqL.of hH1)
      obtain ⟨its2, rv2, pl2, hz2⟩ := I1.list (SqL.of hH2)
      have il1 := pl.isList
      have il2 := pl2.isList
      refine call_zip_2 il1 il2 fun h' z0 z1 z2 j1 j2 hsz hk => PyProof.Rows.args_nil ?_
      have hd0 := I1.ok.hd hc
      have lx : its.length = xs.length := rv.length.symm
      have ly : its2.length = ys.length := rv2.length.symm
      have sx : its.toArray.size = xs.length := by rw [List.size_toArray, lx]
      have sy : its2.toArray.size = ys.length := by rw [List.size_toArray, ly]
      refine list_of_zip (s := { s1 with heap := h' }) hd0 (PySem.W.ktu_apart s1.heap.objs.size l1 l2 pl.lt pl2.lt) z0 z1 z2 j1 j2 (il1.at fun o e => hk _ o e) (il2.at fun o e => hk _ o e) ?_ s1.heap hk ⟨Nat.le_add_right _ _, Nat.le_add_right _ _, Nat.le_refl _, Nat.le_succ _⟩ fun h2 S acc c hS hat K k2 => ?_
      · rw [sx, sy, hx.length, hy.length]; exact hl
      · obtain ⟨ts, ht, hlt, hnd, hat'⟩ := nodup_refs K
        rw [sx, sy] at hlt
        have hn := pairsAt_fst (xs := xs) (ys := ys) hlt
        have fresh : ∀ t, s1.heap.objs.size ≤ t → H1 t = none := fun t z => I1.hok.fresh z
        have big : ∀ p ∈ pairsAt ts xs ys, s1.heap.objs.size ≤ p.1 ∧ p.1 ≠ S := fun p hp => by
          obtain ⟨j, x, y, a1, _⟩ := pairsAt_get hp
          obtain ⟨_, _, _, _, b3, _, b5⟩ := hat' j p.1 a1
          exact ⟨b3, b5⟩
        have sm := upds_same (H := H1) (l := pairsAt ts xs ys) fun p hp => fresh _ (big p hp).1
        have nS : upds H1 (pairsAt ts xs ys) S = none := (upds_off fun p hp => (big p hp).2).trans (fresh S hS)
        have sm2 : Same H1 (upds H1 ((S, HO.lst (ts.map V.ref)) :: pairsAt ts xs ys)) := fun b o z => (upd_ne (fun e => by rw [e, fresh S hS] at z; cases z)).trans (sm b o z)
        refine ⟨.ref S, upds H1 ((S, .lst (ts.map V.ref)) :: pairsAt ts xs ys), laids (t' := s1.toks) I1 _ k2 (fun p hp => ?_) (fun p hp => ?_), rfl, q (upds H1 (pairsAt ts xs ys)) sm S _ _ nS (fun b o z => (upd_ne (fun e => by rw [e, nS] at z; cases z)).trans z) upd_same (.lst ?_)⟩
        · rcases List.mem_cons.mp hp with rfl | hp
          · exact hS
          · exact (big p hp).1
        · rcases List.mem_cons.mp hp with rfl | hp
          · exact ⟨by rw [List.length_map, hlt, hx.length, hy.length]; exact hl, ts.map Value.ref, c, vals_refs ts, by rw [← ht, Array.toArray_toList]; exact hat⟩
          · obtain ⟨j, x, y, a1, a2, a3, a4⟩ := pairsAt_get hp
            obtain ⟨b1, b2, b3, b4, _, b6, _⟩ := hat' j p.1 a1
            obtain ⟨ux, hux, rux⟩ := rv.get a2
            obtain ⟨uy, huy, ruy⟩ := rv2.get a3
            rw [List.getElem?_toArray] at b3 b4
            rw [hux] at b3
            rw [huy] at b4
            cases b3; cases b4
            rw [a4]
            exact ⟨by show 2 ≤ sizeLine; decide, [_, _], .cons rux (.cons ruy .nil), ⟨_, b6, rfl, _, rfl⟩⟩
        · exact dat_pairs (H := H1) sm hx hy hlt fun j t x y h1 h2 h3 => upds_at (p := (t, HO.tup [x, y])) (by rw [hn]; exact hnd) (pairsAt_mem h1 h2 h3)
end
section
variable {X : Cx} {K : PySem.W.Frag} {c : Ctx K} {e e2 : Expr} {p p2 q0 pos : Pos} {tl : TA} {ml : Mo (List D)}
theorem d_listzip (hm : X.mg "list" = none) (hm2 : X.mg "zip" = none) (ha : DA X c [e, e2] tl ml) (hc : X.calm = true := by rfl) (hg : Gl X "list" := by rfl) (hg2 : Gl X "zip" := by rfl)
    (hs : starEach [e, e2] X.env = (false, eval e X.env) :: starEach [e2] X.env := by rfl) (hpl : (backTo q0 (starEach [e2] X.env)).any (·.1) = false := by rfl)
    (na : starEach [.Call (.Name "zip" p2) [e, e2] [] q0] X.env = (false, eval (.Call (.Name "zip" p2) [e, e2] [] q0) X.env) :: starEach [] X.env := by rfl) (hK : X.K = K := by rfl) : DN X c (.Call (.Name "list" p) [.Call (.Name "zip" p2) [e, e2] [] q0] [] pos) (tCB (rCZ K dListZ) tl) (mFn dListZ ml) :=
  ⟨by rw [← hK]; exact pe_listzip hc hg hm hg2 hm2 ha.p hs hpl na, r_fnZ ha.r⟩
end
def ints? : List D → Option (List Int)
  | [] => some []
  | .int i :: r => (ints? r).map (i :: ·)
  | _ => none
theorem ints_eq : ∀ {ds : List D} {ns : List Int}, ints? ds = some ns → ds = ns.map D.int
  | [], _, h => by cases h; rfl
  | .int b :: r, _, h => by
    obtain ⟨t, e, rfl⟩ := map_some (show (ints? r).map _ = _ from h)
    rw [ints_eq e]; rfl
  | .non :: _, _, h | .bl _ :: _, _, h | .str _ :: _, _, h | .tup _ :: _, _, h | .lst _ :: _, _, h | .dic _ _ :: _, _, h | .dit _ _ :: _, _, h | .ins _ _ _ :: _, _, h | .cls _ :: _, _, h | .ty _ :: _, _, h | .scr _ :: _, _, h => by simp [ints?] at h
theorem ints_of_map : ∀ ns : List Int, ints? (ns.map D.int) = some ns
  | [] => rfl
  | n :: ns => by rw [List.map_cons, ints?, ints_of_map ns]; rfl
/-- in order, each once -/
def putU (x : Int) : List Int → List Int
  | [] => [x]
  | y :: r => if x < y then x :: y :: r else if x = y then y :: r else y :: putU x r
def sortU (ns : List Int) : List Int := ns.foldr putU []
theorem mem_putU {x z : Int} : ∀ {l : List Int}, z ∈ putU x l ↔ z = x ∨ z ∈ l
  | [] => by simp [putU]
  | y :: r => by
    unfold putU
    split
    · simp
    · split
      · rename_i e
        subst e
        simp
      · rw [List.mem_cons, mem_putU, List.mem_cons]
        constructor
        · rintro (h | h | h)
          · exact .inr (.inl h)
          · exact .inl h
          · exact .inr (.inr h)
        · rintro (h | h | h)
          · exact .inr (.inl h)
          · exact .inl h
          · exact .inr (.inr h)
theorem putU_ris {x : Int} : ∀ {l : List Int}, l.Pairwise (· < ·) → (putU x l).Pairwise (· < ·)
  | [], _ => by simp [putU]
  | y :: r, h => by
    obtain ⟨h1, h2⟩ := List.pairwise_cons.mp h
    unfold putU
    split
    · rename_i hxy
      exact List.pairwise_cons.mpr ⟨fun z hz => (List.mem_cons.mp hz).elim (fun e => e ▸ hxy) fun hz => Int.lt_trans hxy (h1 z hz), h⟩
    · split
      · exact h
      · rename_i n1 n2
        refine List.pairwise_cons.mpr ⟨fun z hz => ?_, putU_ris h2⟩
        rcases mem_putU.mp hz with rfl | hz
        · omega
        · exact h1 z hz
theorem mem_sortU {z : Int} : ∀ {l : List Int}, z ∈ sortU l ↔ z ∈ l
  | [] => by simp [sortU]
  | y :: r => by
    show z ∈ putU y (sortU r) ↔ _
    rw [mem_putU, mem_sortU, List.mem_cons]
theorem sortU_ris : ∀ l : List Int, (sortU l).Pairwise (· < ·)
  | [] => List.Pairwise.nil
  | y :: r => putU_ris (sortU_ris r)
/-- there is but one such row -/
theorem ris_eq : ∀ {l m : List Int}, l.Pairwise (· < ·) → m.Pairwise (· < ·) → (∀ z, z ∈ l ↔ z ∈ m) → l = m
  | [], [], _, _, _ => rfl
  | [], y :: r, _, _, h => absurd ((h y).mpr List.mem_cons_self) List.not_mem_nil
  | x :: l, [], _, _, h => absurd ((h x).mp List.mem_cons_self) List.not_mem_nil
  | x :: l, y :: m, h1, h2, h => by
    obtain ⟨a1, a2⟩ := List.pairwise_cons.mp h1
    obtain ⟨b1, b2⟩ := List.pairwise_cons.mp h2
    have e : x = y := by
      rcases List.mem_cons.mp ((h x).mp List.mem_cons_self) with e | e
      · exact e
      · rcases List.mem_cons.mp ((h y).mpr List.mem_cons_self) with f | f
        · exact f.symm
        · have := a1 y f
          have := b1 x e
          omega
    subst e
    rw [ris_eq a2 b2 fun z => ?_]
    constructor
    · intro hz
      rcases List.mem_cons.mp ((h z).mp (List.mem_cons_of_mem _ hz)) with e | e
      · have := a1 z hz
        omega
      · exact e
    · intro hz
      rcases List.mem_cons.mp ((h z).mpr (List.mem_cons_of_mem _ hz)) with e | e
      · have := b1 z hz
        omega
      · exact e
def dSortSet : List D → Option D
  | [.lst ds] => match ints? ds with
    | some ns => if ns.length + 1 < scanBound then some (.lst ((sortU ns).map .int)) else none
    | none => none
  | _ => none
theorem sortSet_some {ds : List D} {d : D} (h : dSortSet ds = some d) : ∃ ns : List Int, ds = [.lst (ns.map .int)] ∧ ns.length + 1 < scanBound ∧ d = .lst ((sortU ns).map .int) := by
  unfold dSortSet at h
  split at h <;> try (cases h; done)
  rename_i es
  split at h <;> try (cases h; done)
  rename_i ns e
  obtain ⟨h1, h2⟩ := if_some h
  exact ⟨ns, by rw [ints_eq e], h1, h2.symm⟩
section
variable {X : Cx} {e : Expr} {ta : TA} {p p2 q0 pos : Pos}
theorem pe_sortset (hc : X.calm = true) (hg : Gl X "sorted") (hm : X.mg "sorted" = none) (hg2 : Gl X "set") (hm2 : X.mg "set" = none) (ha : PA X [e] ta)
    (hs : starEach [e] X.env = (false, eval e X.env) :: starEach [] X.env := by rfl)
    (na : starEach [.Call (.Name "set" p2) [e] [] q0] X.env = (false, eval (.Call (.Name "set" p2) [e] [] q0) X.env) :: starEach [] X.env := by rfl) : PE X (.Call (.Name "sorted" p) [.Call (.Name "set" p2) [e] [] q0] [] pos) (tCB (rCN X.K dSortSet) ta) := by
  refine ⟨fun pins s σ H Q I h => ?_⟩
  refine Call_ (ld_blt I hg hm boot_sorted (PyProof.Rows.callWith_builtin1 (PyProof.Rows.args_cons ?_ na) na rfl))
  refine Call_ (ld_blt I hg2 hm2 PyProof.Rows.boot_set (PyProof.Rows.callWith_type1 (thn (ha.run q0 pins s σ H _ I h) fun us s1 ⟨vs, H1, I1, r1, q1⟩ => ?_) hs rfl))
  obtain ⟨M, ds, d, km, hd, hg', q⟩ := q1
  obtain ⟨ns, rfl, few, rfl⟩ := sortSet_some hg'
  obtain ⟨v, rfl, hv⟩ := one_of hd
  obtain ⟨u, rfl, ru⟩ := vals1 r1
  cases hv with
  | @lst l1 xs _ n1 hH1 hx =>
    cases ru
    have ex := hx.ints
    subst ex
    obtain ⟨its, rv, pl, hz⟩ := I1.list (SqL.of hH1)
    have hd0 := I1.ok.hd hc
    refine set_of_list hd0 pl.isList (ints_of_vals rv) few fun h' tk hS => PyProof.Rows.args_nil ?_
    obtain ⟨⟨c, hcn, R⟩, k1⟩ := hS
    refine sorted_heldSet (s := { s1 with heap := h', toks := tk }) R hd0 fun s' p out c2 ms k2 g2 o2 hp hat hi ris mem hl => ?_
    have kk : ∀ b o, s1.heap.get? b = some o → s'.heap.get? b = some o := fun b o z => k2 b o (k1 b o z)
    have em : ms = sortU ns := ris_eq ris (sortU_ris ns) fun z => by rw [mem z, decide_eq_true_eq, mem_sortU]
    have lh : s1.heap.objs.size ≤ p := Nat.le_trans (Nat.le_of_lt (by obtain ⟨o, _, _, _, ho, _⟩ := R; exact Heap.lt_size ho)) hp
    have fresh : H1 p = none := I1.hok.fresh lh
    have hlen : (ms.map V.int).length ≤ sizeLine := by
      rw [List.length_map, hl]
      have : (4096 : Nat) ≤ sizeLine := by decide
      unfold scanBound at few
      omega
    have J : Inv X pins σ (upd H1 p (.lst (ms.map V.int))) s' := I1.call' (ch := []) (o2.trans rfl) (Un.laid kk lh fresh) (I1.hok.laid kk lh ⟨hlen, out.toList, c2, vals_of_ints hi, by rw [Array.toArray_toList]; exact hat⟩) (by rw [g2]; exact I1.bare) (fun _ z => nomatch z)
    refine ⟨.ref p, _, J, rfl, q p _ _ fresh (same_new fresh) upd_same ?_⟩
    rw [em]
    exact .lst (.of_ints _)
end
section
variable {X : Cx} {K : PySem.W.Frag} {c : Ctx K} {e : Expr} {p p2 q0 pos : Pos} {tl : TA} {ml : Mo (List D)}
theorem d_sortset (hm : X.mg "sorted" = none) (hm2 : X.mg "set" = none) (ha : DA X c [e] tl ml) (hc : X.calm = true := by rfl) (hg : Gl X "sorted" := by rfl) (hg2 : Gl X "set" := by rfl) (hs : starEach [e] X.env = (false, eval e X.env) :: starEach [] X.env := by rfl)
    (na : starEach [.Call (.Name "set" p2) [e] [] q0] X.env = (false, eval (.Call (.Name "set" p2) [e] [] q0) X.env) :: starEach [] X.env := by rfl) (hK : X.K = K := by rfl) : DN X c (.Call (.Name "sorted" p) [.Call (.Name "set" p2) [e] [] q0] [] pos) (tCB (rCN K dSortSet) tl) (mFn dSortSet ml) :=
  ⟨by rw [← hK]; exact pe_sortset hc hg hm hg2 hm2 ha.p hs na, r_fnN ha.r⟩
end
end DL
set_option autoImplicit false
namespace DL
open PySem PySem.Spec PyProof.Rows L2
def truD : D → Option Bool
  | .non => some false
  | .bl b => some b
  | .int i => some (i != 0)
  | .str y => if y.length ≤ sizeLine then some ((y.length : Int) != 0) else none
  | .tup ds | .lst ds => some (!ds.isEmpty)
  | _ => none
theorem tru_dat {K : PySem.W.Frag} {M : Addr → Prop} {H : Hp} {v : V} {d : D} {b : Bool} (h : Dat K M H v d) (e : truD d = some b) : TruV K v H b := by
  have emp : ∀ {xs : List V} {ds : List D}, DatAll K M H xs ds → (!ds.isEmpty) = !xs.isEmpty := fun h => by cases h <;> rfl
  cases h with
  | non => cases e; rfl
  | bl b => cases e; rfl
  | int i => cases e; rfl
  | str x =>
    obtain ⟨h1, h2⟩ := if_some e
    exact ⟨h1, h2.symm⟩
  | tup hH hx => cases e; exact .inr (.inl ⟨_, hH, emp hx⟩)
  | lst n hH hx => cases e; exact .inl ⟨_, SqL.of hH, emp hx⟩
  | dic => cases e
  | dit => cases e
  | ins => cases e
  | cls => cases e
  | ty => cases e
  | scr => cases e
def tTru (K : PySem.W.Frag) (ta : TE) : TT := fun σ H Q => ta σ H fun x H' => ∃ k, TruV K x H' k ∧ Q k H'
/-- a name, whose object stays owned -/
def mTruV (i : Nat) : Mo Bool := fun ρ => match ρ[i]? with
  | some (.dat d) => (truD d).map fun b => (b, ρ)
  | some (.own _ d) => (truD d).map fun b => (b, ρ)
  | _ => none
section
variable {K : PySem.W.Frag} {c : Ctx K} {ta : TE} {ma : Mo D}
theorem r_truV (i : Nat) : RTt c (tTru K (tVar i)) (mTruV i) := by
  intro M σ H ρ S b ρ' hm Q q
  unfold mTruV at hm
  split at hm
  · rename_i d e
    obtain ⟨b', h1, h2⟩ := map_some hm
    cases h2
    obtain ⟨v, hv, hd⟩ := S.dat e
    exact ⟨v, hv, _, tru_dat hd h1, q M H .refl S⟩
  · rename_i p d e
    obtain ⟨b', h1, h2⟩ := map_some hm
    cases h2
    obtain ⟨a, ha, _, _, dd⟩ := S.peek e
    exact ⟨_, ha, _, tru_dat dd h1, q M H .refl S⟩
  · cases hm
end
section
variable {X : Cx} {K : PySem.W.Frag} {c : Ctx K} {e : Expr} {ta : TE} {ma : Mo D} {pos : Pos}
theorem d_truV {y : Str} (i : Nat) (hN : X.N[i]? = some y := by rfl) (hv : Vis X.env.scope y := by first | exact Or.inl rfl | exact Or.inr (Or.inl rfl) | exact Or.inr (Or.inr rfl)) (hd : (y == ("__debug__" : Str)) = false := by decide)
    (hcd : (y == ("__classdict__" : Str)) = false := by decide) (he : ∀ whole, isTrue (.Name y pos) X.env whole = (do let v ← whole; standAt (Expr.Name y pos).pos; holding [v] (truthy v)) := by intro _; rfl) (hK : X.K = K := by rfl) : DT X c (.Name y pos) (tTru K (tVar i)) (mTruV i) :=
  ⟨by rw [← hK]; exact pt_truth (pv i hN hv hd hcd) he, r_truV i⟩
end
section
variable {ρ ρ1 : Cs} {i : Nat} {a : Mo D} {d : D} {b p : Bool}
theorem e_truO (h : ρ[i]? = some (.own p d)) (hg : truD d = some b) : mTruV i ρ = some (b, ρ) := by
  unfold mTruV
  simp only [h, hg, Option.map_some]
end
end DL
set_option autoImplicit false
namespace DL
open PySem PySem.Spec PyProof.Rows L2
def hasI (C : Addr) (F : List D → Option D) (x y : D) : Option Bool := match y with
  | .ins B ns es => if B = C then (match F [.ins B ns es, x] with
    | some (.bl b) => some b
    | _ => none) else none
  | _ => none
def dNotInI (C : Addr) (F : List D → Option D) : D → D → Option D := fun x y => (hasI C F x y).map fun b => .bl (!b)
theorem hasI_some {C : Addr} {F : List D → Option D} {x y : D} {b : Bool} (h : hasI C F x y = some b) : ∃ ns es, y = .ins C ns es ∧ F [.ins C ns es, x] = some (.bl b) := by
  unfold hasI at h
  split at h
  · split at h
    · rename_i e
      subst e
      split at h
      · rename_i e
        cases h
        exact ⟨_, _, rfl, e⟩
      · cases h
    · cases h
  · cases h
section
variable {X : Cx} {C f : Addr} {fd : FuncData} {ps : List Str} {k m : Nat} {F : List D → Option D}
theorem has_run (G : FnOk X.prog X.w X.K X.mg X.base CX0 k f fd ps (spF X.K m F)) (hF : Takes m F) (hr : Room k X.A) (hb : Binds X.K fd ps []) {pins : List (Addr × Obj)} {σ : L2.St} {H : Hp} {s : Shared} {x : V} {u : Value} {a : Addr} {M : Addr → Prop} {d : D} {ns : List Str} {es : List D} {b : Bool}
    {Q : Bool → Shared → Prop} (I : Inv X pins σ H s) (rx : RelV x u) (km : Kind M H) (hx : Dat X.K M H x d) (hy : Dat X.K M H (.ref a) (.ins C ns es)) (e : F [.ins C ns es, d] = some (.bl b))
    (q : ∀ s' H', Same H H' → Inv X pins σ H' s' → Q b s') : wpAny (model X.prog X.w) X.A (call (.ref f) [.ref a, u]) (fun r s' => wpAny (model X.prog X.w) X.A (truthy r) Q X.xe s') X.xe s := by
  have hsp : spF X.K m F [.ref a, x] H (fun v H' => Same H H' ∧ v = .bl b) (fun _ _ _ => False) := ⟨M, _, _, km, .cons hy (.cons hx .nil), hF _ _ e, e, fun u H' sm hu => ⟨sm, by cases hu; rfl⟩⟩
  have e0 : Env0 X.prog X.w X.K X.mg X.base X.A X.stack s H := I.env0
  have hl := G.len _ _ _ _ hsp
  have r2 : Vals [V.ref a, x] [Value.ref a, u] := .cons rfl (.cons rx .nil)
  refine wpAny_call (codeAny_mono (G.run X.A X.stack s H ⟨[.ref a, u], []⟩ [.ref a, u] [.ref a, x] _ _ hr e0 (by
    have := hb s [.ref a, u] I.kIn (by simpa using hl)
    simpa using this) r2 hsp) fun r s' hq => ?_)
  cases r with
  | error e => exact (pass0 pins σ H s e s' I hq)
  | ok fl =>
    cases fl with
    | ret w =>
      obtain ⟨v, H', I', rz, sm, ez⟩ := I.after hq
      subst ez
      cases rz
      exact wpAny_truthy_bool (q s' H' sm I')
    | next => exact False.elim hq
    | brk => exact False.elim hq
    | cont => exact False.elim hq
theorem op_NOTINI (G : FnOk X.prog X.w X.K X.mg X.base CX0 k f fd ps (spF X.K m F)) (hF : Takes m F) (hr : Room k X.A) (hs : PySem.W.findIn X.K (.ref C) "__contains__" = some (some (.ref f))) (hf : PySem.W.isFn X.K (.ref f) = true) (hb : Binds X.K fd ps []) : OpR X (compareOp .NotIn) (rD X.K (dNotInI C F)) := by
  intro pins s σ H x y v u Q I rx ry h
  obtain ⟨M, d, e, r, km, hx, hy, hg, q⟩ := h
  obtain ⟨b, h1, rfl⟩ := map_some hg
  obtain ⟨ns, es, rfl, h2⟩ := hasI_some h1
  obtain ⟨a, dx, fs, rfl, _, hH, _, _⟩ := dat_ins hy
  cases ry
  obtain ⟨mA, J, _⟩ := ins_get I.hok hH
  obtain ⟨od, J, _⟩ := J.look
  obtain ⟨m', hF'⟩ := I.fr
  exact PySem.W.notIn_K hF' I.ok.mod.kin J hs hf (has_run G hF hr hb I rx km hx hy h2 fun s' H' sm I' => ⟨.bl (!b), H', I', rfl, q _ H' sm (.bl (!b))⟩)
end
end DL
set_option autoImplicit false
namespace DL
open PySem PySem.Spec PyProof.Rows L2
def tChain3 (r r' r'' : R2) (ta tb tc td : TE) : TE := fun σ H Q => ta σ H fun x H1 => tb σ H1 fun y H2 => r x y H2 fun z H3 => ∃ k, z = .bl k ∧
  (if k = true then tc σ H3 fun w H4 => r' y w H4 fun z' H5 => ∃ k', z' = .bl k' ∧ (if k' = true then td σ H5 fun v H6 => r'' w v H6 Q else Q (.bl false) H5) else Q (.bl false) H3)
section
variable {X : Cx} {a b c d : Expr} {ta tb tc td : TE} {pos : Pos}
theorem pt_chain3 {o1 o2 o3 : CmpOp} {r r' r'' : R2} (h1 : OpR X (compareOp o1) r) (h2 : OpR X (compareOp o2) r') (h3 : OpR X (compareOp o3) r'') (ha : PE X a ta) (hb : PE X b tb) (hc : PE X c tc) (hd : PE X d td)
    (hm : lastMarks [o1, o2, o3] [b, c, d] = false := by with_unfolding_all rfl) : PT X (.Compare a [o1, o2, o3] [b, c, d] pos) (tTest (tChain3 r r' r'' ta tb tc td)) := by
  refine ⟨fun pins s σ H Q I h => ?_⟩
  refine isTrue_chain (thn (ha.run pins s σ H _ I h) fun v s1 ⟨x, H1, I1, r1, q1⟩ => test_link (thn (hb.run pins s1 σ H1 _ I1 q1) fun u s2 ⟨y, H2, I2, r2, q2⟩ => thn (h1 pins s2 σ H2 x y v u _ I2 r1 r2 q2) fun e1 s3 ⟨z, H3, I3, r3, k, e, q3⟩ => ?_)) hm
  subst e
  cases r3
  refine wpAny_truthy_bool ?_
  cases k with
  | false =>
    obtain ⟨k', e', q'⟩ := q3
    cases e'
    exact ite_ff ⟨H3, I3, q'⟩
  | true =>
    refine ite_tt (test_link (thn (hc.run pins s3 σ H3 _ I3 q3) fun w s4 ⟨z4, H4, I4, r4, q4⟩ => thn (h2 pins s4 σ H4 y z4 u w _ I4 r2 r4 q4) fun e2 s5 ⟨z5, H5, I5, r5, k5, e5, q5⟩ => ?_))
    subst e5
    cases r5
    refine wpAny_truthy_bool ?_
    cases k5 with
    | false =>
      obtain ⟨k', e', q'⟩ := q5
      cases e'
      exact ite_ff ⟨H5, I5, q'⟩
    | true =>
      refine ite_tt (test_last (thn (hd.run pins s5 σ H5 _ I5 q5) fun v6 s6 ⟨z6, H6, I6, r6, q6⟩ => thn (h3 pins s6 σ H6 z4 z6 w v6 _ I6 r4 r6 q6) fun e7 s7 ⟨z7, H7, I7, r7, k7, e8, q7⟩ => ?_))
      subst e8
      cases r7
      exact wpAny_truthy_bool ⟨H7, I7, q7⟩
end
def mChain3 (g h i : D → D → Option D) (a b c d : Mo D) : Mo D := mBd a fun x => mBd b fun y => mBd (mL (g x y)) fun z => mBd (mL (bl? z)) fun k => if k = true then mBd c fun w => mBd (mL (h y w)) fun z2 => mBd (mL (bl? z2)) fun k2 => if k2 = true then mBd d fun v => mL (i w v) else mC z2 else mC z
section
variable {K : PySem.W.Frag} {c : Ctx K} {ta tb tc td : TE} {ma mb mc md : Mo D}
theorem r_chain3 {g h i : D → D → Option D} (ha : REv c ta ma) (hb : REv c tb mb) (hc : REv c tc mc) (hd : REv c td md) : REv c (tChain3 (rD K g) (rD K h) (rD K i) ta tb tc td) (mChain3 g h i ma mb mc md) := by
  intro M σ H ρ S d ρ' hm Q q
  obtain ⟨x, ρ1, h1, hm1⟩ := mBd_some hm
  obtain ⟨y, ρ2, h2, hm2⟩ := mBd_some hm1
  obtain ⟨z, ρ3, h3, hm3⟩ := mBd_some hm2
  obtain ⟨hg, e3⟩ := mL_some h3
  subst e3
  obtain ⟨k, ρ4, h4, hm4⟩ := mBd_some hm3
  obtain ⟨hk, e4⟩ := mL_some h4
  subst e4
  refine ha M σ H ρ S x ρ1 h1 _ fun M1 v H1 E1 S1 d1 => hb M1 σ H1 ρ1 S1 y _ h2 _ fun M2 w H2 E2 S2 d2 => ?_
  have E12 := E1.trans E2 S.kind
  refine ⟨M2, x, y, z, S2.kind, d1.ev S1.kind E2.ev, d2, hg, fun u H3 s hu => ⟨k, bl_of hu hk, ?_⟩⟩
  have E3 := E12.trans (.same s) S.kind
  have S3 := S2.same s
  have d2' := d2.same s
  cases k with
  | false =>
    rw [if_neg (by decide)] at hm4
    obtain ⟨e6, e7⟩ := mC_some hm4
    subst e6 e7
    show if false = true then _ else _
    rw [if_neg (by decide)]
    have eu := bl_of hu hk
    rw [eu] at hu
    exact q M2 _ H3 E3 S3 hu
  | true =>
    rw [if_pos rfl] at hm4
    obtain ⟨w4, ρ5, h5, hm5⟩ := mBd_some hm4
    obtain ⟨z5, ρ6, h6, hm6⟩ := mBd_some hm5
    obtain ⟨hh, e5⟩ := mL_some h6
    subst e5
    obtain ⟨k5, ρ7, h7, hm7⟩ := mBd_some hm6
    obtain ⟨hk5, e6⟩ := mL_some h7
    subst e6
    show if true = true then _ else _
    rw [if_pos rfl]
    refine hc M2 σ H3 _ S3 w4 _ h5 _ fun M4 x4 H4 E4 S4 d4 => ?_
    refine ⟨M4, y, w4, z5, S4.kind, d2'.ev S3.kind E4.ev, d4, hh, fun u5 H5 s5 hu5 => ⟨k5, bl_of hu5 hk5, ?_⟩⟩
    have E5 := (E3.trans E4 S.kind).trans (.same s5) S.kind
    have S5 := S4.same s5
    cases k5 with
    | false =>
      rw [if_neg (by decide)] at hm7
      obtain ⟨e6, e7⟩ := mC_some hm7
      subst e6 e7
      show if false = true then _ else _
      rw [if_neg (by decide)]
      have eu := bl_of hu5 hk5
      rw [eu] at hu5
      exact q M4 _ H5 E5 S5 hu5
    | true =>
      rw [if_pos rfl] at hm7
      obtain ⟨v8, ρ8, h8, hm8⟩ := mBd_some hm7
      obtain ⟨hi, e8⟩ := mL_some hm8
      subst e8
      show if true = true then _ else _
      rw [if_pos rfl]
      refine hd M4 σ H5 _ S5 v8 _ h8 _ fun M6 x6 H6 E6 S6 d6 => ?_
      exact ⟨M6, w4, v8, d, S6.kind, (d4.same s5).ev S5.kind E6.ev, d6, hi, fun u7 H7 s7 h => q M6 u7 H7 ((E5.trans E6 S.kind).trans (.same s7) S.kind) (S6.same s7) h⟩
end
section
variable {X : Cx} {K : PySem.W.Frag} {c : Ctx K} {a b d e : Expr} {ta tb td te : TE} {ma mb md me : Mo D} {pos : Pos}
theorem d_tchain3 {o1 o2 o3 : CmpOp} {g h i : D → D → Option D} (h1 : OpR X (compareOp o1) (rD X.K g)) (h2 : OpR X (compareOp o2) (rD X.K h)) (h3 : OpR X (compareOp o3) (rD X.K i)) (ha : DE X c a ta ma) (hb : DE X c b tb mb) (hc : DE X c d td md) (hd : DE X c e te me) (hm : lastMarks [o1, o2, o3] [b, d, e] = false := by rfl) (hK : X.K = K := by rfl) :
    DT X c (.Compare a [o1, o2, o3] [b, d, e] pos) (tTest (tChain3 (rD K g) (rD K h) (rD K i) ta tb td te)) (mTst (mChain3 g h i ma mb md me)) := ⟨by rw [← hK]; exact pt_chain3 h1 h2 h3 ha.p hb.p hc.p hd.p hm, r_test (r_chain3 ha.r hb.r hc.r hd.r)⟩
end
section
variable {ρ : Cs} {a b c d : Mo D} {x y z w : D} {p q r : Bool}
theorem e_chain3 {g h i : D → D → Option D} (ha : a ρ = some (x, ρ)) (hb : b ρ = some (y, ρ)) (hg : g x y = some (.bl p)) (hc : p = true → c ρ = some (z, ρ)) (hh : p = true → h y z = some (.bl q)) (hd : p = true → q = true → d ρ = some (w, ρ)) (hi : p = true → q = true → i z w = some (.bl r)) : mChain3 g h i a b c d ρ = some (.bl (p && q && r), ρ) := by
  unfold mChain3
  unfold mBd mL
  simp only [ha, hb, hg, bl?]
  cases p with
  | false => rfl
  | true =>
    simp only [hc rfl, hh rfl, if_true]
    cases q with
    | false => rfl
    | true =>
      simp only [hd rfl rfl, hi rfl rfl, if_true]
      rfl
end
end DL
set_option autoImplicit false
namespace DL
open PySem PySem.Spec PyProof.Rows L2
end DL
set_option autoImplicit false
namespace DL
open PySem PySem.Spec PyProof.Rows L2
end DL
set_option autoImplicit false
namespace DL
open PySem PySem.Spec PyProof.Rows L2
end DL
set_option autoImplicit false
namespace DL
open PySem PySem.Spec PyProof.Rows L2
end DL
set_option autoImplicit false
namespace DL
open PySem PySem.Spec PyProof.Rows L2
/-- the text of an entry -/
def txtE (e : Int × Value) : Str := match e.2 with
  | .str x _ => x
  | _ => ⟨#[]⟩
structure TxSet (w : World) (l : List (Int × Value)) (S : Str → Prop) : Prop where
  good : ∀ e ∈ l, ∃ x tk, e = (hashStr w x, Value.str x tk)
  nd : (l.map txtE).Nodup
  mem : ∀ x, x ∈ l.map txtE ↔ S x
theorem TxSet.perm {w : World} {l m : List (Int × Value)} {S : Str → Prop} (h : TxSet w l S) (p : m.Perm l) : TxSet w m S :=
  ⟨fun e z => h.good e (p.mem_iff.mp z), (p.map txtE).nodup_iff.mpr h.nd, fun x => (p.map txtE).mem_iff.trans (h.mem x)⟩
/-- the set of texts at a place, which can be walked -/
def SetT (w : World) (h : Heap) (a : Addr) (S : Str → Prop) (n : Nat) : Prop :=
  ∃ o es ep t, h.get? a = some o ∧ o.ExactSet ∧ o.data = .set es ep t ∧ TxSet w es.toList S ∧ t.fits es.size = true ∧ es.size = n ∧ n < scanBound ∧ Ris t.place.toList ∧ (w.params.followText "set-order" = true ∨ t.led = true)
theorem SetT.at {w : World} {h h' : Heap} {a : Addr} {S : Str → Prop} {n : Nat} (R : SetT w h a S n) (k : ∀ o, h.get? a = some o → h'.get? a = some o) : SetT w h' a S n := by
  obtain ⟨o, es, ep, t, z, r⟩ := R
  exact ⟨o, es, ep, t, k o z, r⟩
end DL
set_option autoImplicit false
namespace DL
open PySem PySem.Spec PyProof.Rows L2
end DL
set_option autoImplicit false
namespace DL
open PySem PySem.Spec PyProof.Rows L2
end DL
set_option autoImplicit false
namespace DL
open PySem PySem.Spec PyProof.Rows L2
end DL
set_option autoImplicit false
namespace DL
open PySem PySem.Spec PyProof.Rows L2
end DL
set_option autoImplicit false
namespace DL
open PySem PySem.Spec PyProof.Rows L2
def mKeys (i : Nat) : Mo (List D) := mBd (mVar i) fun d => match d with
  | .dic ks _ => mC (ks.map keyD)
  | _ => fun _ => none
def tLcK (i : Nat) (g : TG) (tt : TT) (te : TE) (vs : List Nat) : TE := fun σ H Q => tLc (iKeys (tVar i)) g tt te vs σ H Q ∨ tLockE (tLc (iKeys (tVar i)) g tt te vs) σ H Q
theorem pe_lcK {X : Cx} {e : Expr} {i : Nat} {g : TG} {tt : TT} {te : TE} {vs : List Nat} (h : PE X e (tLc (iKeys (tVar i)) g tt te vs)) : PE X e (tLcK i g tt te vs) := ⟨fun pins s σ H Q I hw => hw.elim (h.run pins s σ H Q I) ((pe_lock h).run pins s σ H Q I)⟩
theorem mKeys_some {i : Nat} {ρ ρ' : Cs} {ds : List D} (h : mKeys i ρ = some (ds, ρ')) : ∃ ks dl, mVar i ρ = some (.dic ks dl, ρ') ∧ ds = ks.map keyD := by
  obtain ⟨d, ρ1, h1, h2⟩ := mBd_some h
  cases d with
  | dic ks dl =>
    obtain ⟨e1, e2⟩ := mC_some h2
    exact ⟨ks, dl, by rw [h1, e2], e1⟩
  | _ => cases h2
theorem mVar_dat {i : Nat} {ρ ρ' : Cs} {d : D} (h : mVar i ρ = some (d, ρ')) : ρ'[i]? = some (.dat d) ∧ mVar i ρ' = some (d, ρ') := by
  have : ρ'[i]? = some (.dat d) := by
    unfold mVar at h
    split at h
    · rename_i e
      cases h
      exact e
    · rename_i e
      cases h
      have hl := (List.getElem?_eq_some_iff.mp e).1
      rw [List.getElem?_set_self hl]
    · cases h
  refine ⟨this, ?_⟩
  unfold mVar
  rw [this]
section
variable {K : PySem.W.Frag} {g : TG} {mg : D → Mo Unit} {tt : TT} {mt : Mo Bool} {te : TE} {me : Mo D}
theorem lcK_frz {c : Ctx K} {i : Nat} {vs : List Nat} {d : Addr} {od : Obj} {kvs : List (Key × V)} {M : Addr → Prop} {σ : L2.St} {H : Hp} {ρ ρ' : Cs} {x : D} {Q : VK} (hg : RTg c g mg) (ho : OwnG g vs) (ht : RTt c tt mt) (he : REv c te me) (S : Sta c M σ H ρ) (hv : σ[i]? = some (some (.ref d))) (hf : H d = some (.frz od (.dK kvs)))
    (hm : mLc vs (mKeys i) mg mt me ρ = some (x, ρ')) (q : ∀ M' a H', H a = none → Es σ M H ρ σ M' H' ρ' → Sta c M' σ H' ρ' → Nw c M' σ H' ρ' a x → Q (.ref a) H') : tLc (iKeys (tVar i)) g tt te vs σ H Q := by
  have r := r_lc (c := c) (wi := fun σ2 H2 R => σ2 = σ → H2 = H → R (Itk d od kvs) H) (mi := mKeys i) (vs := vs) ?_ hg ho ht he M σ H ρ S x ρ' hm Q q
  · exact ⟨_, hv, d, od, rfl, .inl ⟨kvs, hf, r rfl rfl⟩⟩
  · intro M2 σ2 H2 ρ2 S2 ds2 ρ3 hm2 R hR e1 e2
    subst e1 e2
    obtain ⟨ks, dl, h1, rfl⟩ := mKeys_some hm2
    have z := r_var i M2 σ2 H2 ρ2 S2 (.dic ks dl) ρ3 h1 (fun v H' => H' = H2 → R (Itk d od kvs) H2) (fun M' v H' E S' hd eh => by
      subst eh
      obtain ⟨v', hv', hd'⟩ := S'.dat (mVar_dat h1).1
      rw [hv] at hv'
      injection hv' with hv'
      injection hv' with hv'
      subst hv'
      obtain ⟨a, kvs', ea, n, hr, hk, _⟩ := dat_dic hd'
      injection ea with ea
      subst ea
      have ek : kvs' = kvs := by
        rcases hr with hr | ⟨o, hr⟩
        · rw [hf] at hr; cases hr
        · rw [hf] at hr
          injection hr with hr
          injection hr with _ hr
          injection hr with hr
          exact hr.symm
      subst ek
      subst hk
      exact hR M' H' _ _ _ E S' (wk_keys n hf))
    obtain ⟨_, _, z⟩ := z
    exact z rfl
theorem r_lcK {c : Ctx K} {i : Nat} {vs : List Nat} (hg : ∀ c : Ctx K, RTg c g mg) (ho : OwnG g vs) (ht : ∀ c : Ctx K, RTt c tt mt) (he : ∀ c : Ctx K, REv c te me) : RNw c (tLcK i g tt te vs) (mLc vs (mKeys i) mg mt me) := by
  intro M σ H ρ S x ρ' hm Q q
  obtain ⟨ds, ρ0, h1, h2⟩ := mBd_some hm
  obtain ⟨ks, dl, h3, rfl⟩ := mKeys_some h1
  obtain ⟨e0, h4⟩ := mVar_dat h3
  have hm0 : mLc vs (mKeys i) mg mt me ρ0 = some (x, ρ') := by
    have : mKeys i ρ0 = some (ks.map keyD, ρ0) := by
      unfold mKeys mBd
      rw [h4]
      rfl
    unfold mLc mBd
    rw [this]
    exact h2
  have z := r_var i M σ H ρ S (.dic ks dl) ρ0 h3 (fun v H' => H' = H → tLcK i g tt te vs σ H Q) (fun M1 v H1 E1 S1 _ eh => by
    subst eh
    obtain ⟨v', hv, hd⟩ := S1.dat e0
    obtain ⟨a, kvs, rfl, n, hr, hk, ha⟩ := dat_dic hd
    subst hk
    rcases hr with hr | ⟨o, hr⟩
    · refine .inr ⟨a, .dK kvs, hr, trivial, fun od => ?_⟩
      have h0 : ∀ o, c.H0 a = some o → o = .dK kvs := fun o h => by
        have := S1.base a o (fun z => n (S1.sub a (S1.pm a z))) h
        rw [hr] at this
        exact (Option.some.inj this).symm
      refine lcK_frz (c := c.lock a (.frz od (.dK kvs))) (hg _) ho (ht _) (he _) (S1.lock hr n) hv upd_same hm0 fun M' p H' hp E S' hn => ?_
      have nM : ¬ M' a := E.ev.not n upd_same
      have hA : H' a = some (.frz od (.dK kvs)) := E.ev.h a _ n upd_same
      have hpa : p ≠ a := fun z => by rw [z, upd_same] at hp; cases hp
      have sw : Sw a kvs H' (upd H' a (.dK kvs)) := ⟨fun b n => upd_ne n, .inr ⟨od, hA⟩, .inl upd_same⟩
      have ev : Ev M1 H1 M' (upd H' a (.dK kvs)) := by
        refine ⟨fun b h => ?_, fun b o nb h => ?_⟩
        · rcases E.ev.m b h with h | h
          · exact .inl h
          · by_cases z : b = a
            · subst z; rw [upd_same] at h; cases h
            · rw [upd_ne z] at h; exact .inr h
        · by_cases z : b = a
          · subst z
            rw [hr] at h
            cases h
            exact upd_same
          · rw [upd_ne z]
            exact E.ev.h b o nb (by rw [upd_ne z]; exact h)
      have es : Es σ M1 H1 ρ0 σ M' (upd H' a (.dK kvs)) ρ' := by
        refine ⟨ev, fun b o nh h => ?_, fun b o h z => ?_, E.mc, fun b h => ?_⟩
        · by_cases z : b = a
          · subst z
            rw [hr] at h
            cases h
            exact upd_same
          · rw [upd_ne z]
            exact E.kp b o nh (by rw [upd_ne z]; exact h)
        · by_cases y : b = a
          · subst y
            exact E.hs b _ upd_same z
          · exact E.hs b o (by rw [upd_ne y]; exact h) z
        · by_cases y : b = a
          · subst y
            rw [upd_same] at h
            cases h
          · rw [upd_ne y] at h
            have := E.dm b h
            rw [upd_ne y] at this
            exact this
      refine ⟨hA, q M' p _ ?_ (E1.trans es S.kind) (S'.unlock hA nM h0) ⟨hn.m, hn.nh, ?_, hn.n0, hn.o.sw sw hpa⟩⟩
      · rw [upd_ne hpa] at hp
        exact hp
      · have h := hn.h0
        have h : (if p = a then (c.H0 a).map fun _ => HO.frz od (.dK kvs) else c.H0 p) = none := h
        rw [if_neg hpa] at h
        exact h
    · exact .inl (lcK_frz (hg _) ho (ht _) (he _) S1 hv hr hm0 fun M' p H' hp E S' hn => q M' p H' hp (E1.trans E S.kind) S' hn))
  obtain ⟨_, _, z⟩ := z
  exact z rfl
end
section
variable {X : Cx} {K : PySem.W.Frag} {c : Ctx K} {elt tg : Expr} {ifs : List Expr} {scope : Scope} {own : List (Str × Nat)} {pos p : Pos} {y : Str} {g : TG} {mg : D → Mo Unit} {tt : TT} {mt : Mo Bool} {te : TE} {me : Mo D}
theorem d_lcK (hc : X.calm = true) (hN : X.N.Nodup) (i : Nat) (ok : BlkOk X.N X.env.scope scope own) (ho : OwnG g (own.map (·.2))) (B : ∀ c : Ctx K, DBlk X c scope tg elt ifs g tt te mg mt me) (hNi : X.N[i]? = some y := by rfl) (hv : Vis X.env.scope y := by first | exact Or.inl rfl | exact Or.inr (Or.inl rfl) | exact Or.inr (Or.inr rfl)) (hd : (y == ("__debug__" : Str)) = false := by decide) (hcd : (y == ("__classdict__" : Str)) = false := by decide)
    (hs : ∀ x, foldedSetIterable (.Name y p) X.env x = pure x := by intro _; rfl) : DN X c (.ListComp elt [⟨tg, .Name y p, ifs, 0⟩] scope pos) (tLcK i g tt te (own.map (·.2))) (mLc (own.map (·.2)) (mKeys i) mg mt me) :=
  ⟨pe_lcK (pe_lc hc hN (pi_keys (pv i hNi hv hd hcd)) ok (fun s H C cl fp => ((B c).g s H C cl fp).p) (fun s H C cl fp => ((B c).t s H C cl fp).p) (fun s H C cl fp => ((B c).e s H C cl fp).p) hs), r_lcK (fun c => ((B c).g {} (fun _ => none) 0 [] []).r) ho (fun c => ((B c).t {} (fun _ => none) 0 [] []).r) (fun c => ((B c).e {} (fun _ => none) 0 [] []).r)⟩
end
end DL
set_option autoImplicit false
namespace DL
open PySem PySem.Spec PyProof.Rows L2
def gDPut (i : Nat) (mk : Mo D) (v : D) : Mo Unit := fun ρ => if ownsDc i ρ = true then mBd mk (fun k ρ2 => match ρ2[i]?, key? k with
  | some (.own p (.dic ks ds)), some kk => if ks.length < sizeLine then some ((), ρ2.set i (.own p (.dic (putKs ks kk) (putDs ks ds kk v)))) else none
  | _, _ => none) ρ else none
section
variable {K : PySem.W.Frag} {c : Ctx K} {ty : TE} {my : Mo D}
theorem r_gdput {i : Nat} (hk : REv c ty my) : RTg c (gSub (tVar i) ty rSetD) (gDPut i my) := by
  intro M σ H ρ S v d hd u ρ' hm Q q
  unfold gDPut at hm
  split at hm
  case isFalse => cases hm
  rename_i hw
  obtain ⟨p0, ks0, ds0, e0⟩ := ownsDc_some hw
  obtain ⟨a, ha, _, _, o0, ho0, hc0⟩ := S.own e0
  obtain ⟨k, ρ2, h2, hm⟩ := mBd_some hm
  split at hm
  · rename_i p ks ds kk e2 ek
    obtain ⟨hl, e3⟩ := if_some hm
    cases e3
    refine ⟨_, ha, hk M σ H ρ S k ρ2 h2 _ fun M2 kv H2 E2 S2 dk => ?_⟩
    obtain ⟨a', ha', hM, _, o, ho, hc⟩ := S2.own e2
    rw [ha] at ha'
    cases ha'
    obtain ⟨kvs, rfl, hz, hdd⟩ := cont_dic hc
    subst hz
    have ev2 : Ev M2 H2 M2 (upd H2 a (.dK (putK kvs kk v))) := ⟨fun b h => .inl h, fun b o nb h => by rw [upd_ne (fun z => nb (by rw [z]; exact hM))]; exact h⟩
    have hd2 := (putK_dat (k := kk) hdd (hd.ev S.kind E2.ev)).ev S2.kind ev2
    have Z := S2.mutE (d' := .dic (putKs (kvs.map (·.1)) kk) (putDs (kvs.map (·.1)) ds kk d)) (H' := upd H2 a (.dK (putK kvs kk v))) ha e2 (fun b o nb h => by rw [upd_ne nb]; exact h) ⟨_, upd_same, .dic (putK_keys kvs kk v) hd2⟩
    exact ⟨a, _, rfl, .inl ⟨kvs, kk, ho, key_kV dk ek, by simpa using hl, rfl⟩, q M2 σ _ (E2.trans Z.1 S.kind) Z.2⟩
  · cases hm
end
theorem g_dput {X : Cx} {K : PySem.W.Frag} {c : Ctx K} {y : Str} {i : Expr} {p pos : Pos} {ti : TE} {mi : Mo D} (hu : X.A.units + 1 < cLine) (j : Nat) (hi : DE X c i ti mi) (hN : X.N[j]? = some y := by rfl) (hv : Vis X.env.scope y := by first | exact Or.inl rfl | exact Or.inr (Or.inl rfl) | exact Or.inr (Or.inr rfl)) (hd : (y == ("__debug__" : Str)) = false := by decide) (hcd : (y == ("__classdict__" : Str)) = false := by decide)
    (ha : ∀ v, assign (.Subscript (.Name y p) i pos) X.env v = (do
      let ov ← holding [v] (eval (.Name y p) X.env)
      let iv ← holding [v, ov] (eval i X.env)
      standAt pos
      holding [v, ov, iv] (setItem ov iv v)
      release [v, ov, iv] []) := by intro _; rfl) : DG X c (.Subscript (.Name y p) i pos) (gSub (tVar j) ti rSetD) (gDPut j mi) := ⟨pg_sub (pv j hN hv hd hcd) hi.p (set_dict hu) ha, r_gdput hi.r⟩
end DL
set_option autoImplicit false
namespace DL
open PySem PySem.Spec PyProof.Rows L2
def isDc (i : Nat) (ρ : Cs) : Bool := match ρ[i]? with
  | some (.own _ (.dic _ _)) => true
  | some (.dat (.dic _ _)) => true
  | _ => false
def mDGetV (i : Nat) (mk : Mo D) : Mo D := fun ρ => if isDc i ρ = true then mBd mk (fun k ρ2 => match ρ2[i]? with
  | some (.own _ d) => mL (dGetD d k) ρ2
  | some (.dat d) => mL (dGetD d k) ρ2
  | _ => none) ρ else none
section
variable {K : PySem.W.Frag} {c : Ctx K} {ty : TE} {my : Mo D}
theorem isDc_ref {M : Addr → Prop} {σ : L2.St} {H : Hp} {ρ : Cs} {i : Nat} (S : Sta c M σ H ρ) (h : isDc i ρ = true) : ∃ a, σ[i]? = some (some (.ref a)) := by
  unfold isDc at h
  split at h
  · rename_i e
    obtain ⟨a, ha, _⟩ := S.own e
    exact ⟨a, ha⟩
  · rename_i e
    obtain ⟨v, hv, hd⟩ := S.dat e
    obtain ⟨a, _, rfl, _⟩ := dat_dic hd
    exact ⟨a, hv⟩
  · cases h
theorem r_dgetV {i : Nat} (hk : REv c ty my) : REv c (tDGet (tVar i) ty) (mDGetV i my) := by
  intro M σ H ρ S d ρ' hm Q q
  unfold mDGetV at hm
  split at hm
  case isFalse => cases hm
  rename_i hw
  obtain ⟨a, ha⟩ := isDc_ref S hw
  obtain ⟨k, ρ2, h2, hm⟩ := mBd_some hm
  refine ⟨_, ha, hk M σ H ρ S k ρ2 h2 _ fun M2 w H2 E2 S2 dk => ?_⟩
  split at hm
  · rename_i p x e2
    obtain ⟨hg, rfl⟩ := mL_some hm
    obtain ⟨a', ha', hM, _, o, ho, hc⟩ := S2.own e2
    rw [ha] at ha'
    cases ha'
    cases x with
    | dic ks ds =>
      obtain ⟨kvs, rfl, hz, hdd⟩ := cont_dic hc
      subst hz
      unfold dGetD at hg
      obtain ⟨kk, ek, el⟩ := Option.bind_eq_some_iff.mp hg
      obtain ⟨v', hv, hd'⟩ := lookK_dat hdd el
      exact ⟨a, v', rfl, .inl ⟨kvs, kk, .inl ho, key_kV dk ek, hv.symm⟩, q M2 v' H2 E2 S2 hd'⟩
    | _ => simp [dGetD] at hg
  · rename_i x e2
    obtain ⟨hg, rfl⟩ := mL_some hm
    obtain ⟨v, hv2, hd⟩ := S2.dat e2
    rw [ha] at hv2
    injection hv2 with hv2
    injection hv2 with hv2
    subst hv2
    cases x with
    | dic ks ds =>
      obtain ⟨a', kvs, ea, n, hr, hz, hdd⟩ := dat_dic hd
      injection ea with ea
      subst ea
      subst hz
      unfold dGetD at hg
      obtain ⟨kk, ek, el⟩ := Option.bind_eq_some_iff.mp hg
      obtain ⟨v', hv, hd'⟩ := lookK_dat hdd el
      exact ⟨a, v', rfl, .inl ⟨kvs, kk, hr, key_kV dk ek, hv.symm⟩, q M2 v' H2 E2 S2 hd'⟩
    | _ => simp [dGetD] at hg
  · cases hm
end
theorem d_dgetV {X : Cx} {K : PySem.W.Frag} {c : Ctx K} {y : Str} {i : Expr} {p pos : Pos} {ti : TE} {mi : Mo D} (hu : X.A.units + 1 < cLine) (j : Nat) (hi : DE X c i ti mi) (hs : NoSl i := by intro _ _; rfl) (hN : X.N[j]? = some y := by rfl) (hv : Vis X.env.scope y := by first | exact Or.inl rfl | exact Or.inr (Or.inl rfl) | exact Or.inr (Or.inr rfl)) (hd : (y == ("__debug__" : Str)) = false := by decide) (hcd : (y == ("__classdict__" : Str)) = false := by decide) :
    DE X c (.Subscript (.Name y p) i pos) (tDGet (tVar j) ti) (mDGetV j mi) := ⟨pe_dget hu (pv j hN hv hd hcd) hi.p hs, r_dgetV hi.r⟩
end DL
namespace My
open PySem PySem.Spec PyProof.Rows L2 DL
def topS (i : Nat) : Stmt := PySem.Challenge.pw_touchpasses_k24_whole_great_tracks_heard.main.body.getD i (.Pass ⟨0, 0, 0, 0⟩)
abbrev sis_integer : Stmt := topS 14
theorem scis_integer : FnScope ["value"] ["value"] (defScope sis_integer) := ⟨rfl, rfl, rfl, by decide +kernel, rfl, by decide +kernel, by decide +kernel⟩
abbrev sis_between : Stmt := topS 15
theorem scis_between : FnScope ["value", "low", "high"] ["value", "low", "high"] (defScope sis_between) := ⟨rfl, rfl, rfl, by decide +kernel, rfl, by decide +kernel, by decide +kernel⟩
abbrev sis_name : Stmt := topS 16
theorem scis_name : FnScope ["value", "sign"] ["value"] (defScope sis_name) := ⟨rfl, rfl, rfl, by decide +kernel, rfl, by decide +kernel, by decide +kernel⟩
abbrev sis_word : Stmt := topS 17
theorem scis_word : FnScope ["value", "words"] ["value", "words"] (defScope sis_word) := ⟨rfl, rfl, rfl, by decide +kernel, rfl, by decide +kernel, by decide +kernel⟩
abbrev sis_stretch : Stmt := topS 18
theorem scis_stretch : FnScope ["value", "low", "high"] ["value", "low", "high"] (defScope sis_stretch) := ⟨rfl, rfl, rfl, by decide +kernel, rfl, by decide +kernel, by decide +kernel⟩
abbrev sis_length : Stmt := topS 28
theorem scis_length : FnScope ["value"] ["value"] (defScope sis_length) := ⟨rfl, rfl, rfl, by decide +kernel, rfl, by decide +kernel, by decide +kernel⟩
abbrev sare_touches : Stmt := topS 29
theorem scare_touches : FnScope ["value", "first", "last", "low", "stretch"] ["value", "first", "last"] (defScope sare_touches) := ⟨rfl, rfl, rfl, by decide +kernel, rfl, by decide +kernel, by decide +kernel⟩
abbrev sis_pass : Stmt := topS 30
theorem scis_pass : FnScope ["value", "length", "name", "mode", "first", "last", "touches", "glide", "tail"] ["value", "length"] (defScope sis_pass) := ⟨rfl, rfl, rfl, by decide +kernel, rfl, by decide +kernel, by decide +kernel⟩
abbrev sfirst_wrong : Stmt := topS 31
theorem scfirst_wrong : FnScope ["passes", "length", "names", "at", "one"] ["passes", "length"] (defScope sfirst_wrong) := ⟨rfl, rfl, rfl, by decide +kernel, rfl, by decide +kernel, by decide +kernel⟩
abbrev splace_of : Stmt := topS 32
theorem scplace_of : FnScope ["passes", "name", "at", "one"] ["passes", "name"] (defScope splace_of) := ⟨rfl, rfl, rfl, by decide +kernel, rfl, by decide +kernel, by decide +kernel⟩
abbrev sTrack_init : Stmt := inClass (topS 45) 0
theorem scTrack_init : FnScope ["self", "length", "passes", "wrong"] ["self", "length", "passes"] (defScope sTrack_init) := ⟨rfl, rfl, rfl, by decide +kernel, rfl, by decide +kernel, by decide +kernel⟩
abbrev sTrack_length : Stmt := inClass (topS 45) 2
theorem scTrack_length : FnScope ["self"] ["self"] (defScope sTrack_length) := ⟨rfl, rfl, rfl, by decide +kernel, rfl, by decide +kernel, by decide +kernel⟩
abbrev sTrack_passes : Stmt := inClass (topS 45) 3
theorem scTrack_passes : FnScope ["self"] ["self"] (defScope sTrack_passes) := ⟨rfl, rfl, rfl, by decide +kernel, rfl, by decide +kernel, by decide +kernel⟩
abbrev sTrack_contains : Stmt := inClass (topS 45) 9
theorem scTrack_contains : FnScope ["self", "x"] ["self", "x"] (defScope sTrack_contains) := ⟨rfl, rfl, rfl, by decide +kernel, rfl, by decide +kernel, by decide +kernel⟩
abbrev scheck_track : Stmt := topS 47
theorem sccheck_track : FnScope ["value"] ["value"] (defScope scheck_track) := ⟨rfl, rfl, rfl, by decide +kernel, rfl, by decide +kernel, by decide +kernel⟩
abbrev scheck_name : Stmt := topS 48
theorem sccheck_name : FnScope ["track", "value"] ["track", "value"] (defScope scheck_name) := ⟨rfl, rfl, rfl, by decide +kernel, rfl, by decide +kernel, by decide +kernel⟩
abbrev slowest : Stmt := topS 52
theorem sclowest : FnScope ["top", "bottom", "shared"] ["top", "bottom"] (defScope slowest) := ⟨rfl, rfl, rfl, by decide +kernel, rfl, by decide +kernel, by decide +kernel⟩
abbrev stimes : Stmt := topS 53
theorem sctimes : FnScope ["one", "other"] ["one", "other"] (defScope stimes) := ⟨rfl, rfl, rfl, by decide +kernel, rfl, by decide +kernel, by decide +kernel⟩
abbrev send_of : Stmt := topS 55
theorem scend_of : FnScope ["one_pass", "length", "_", "last", "tail"] ["one_pass", "length"] (defScope send_of) := ⟨rfl, rfl, rfl, by decide +kernel, rfl, by decide +kernel, by decide +kernel⟩
abbrev slast_touch : Stmt := topS 56
theorem sclast_touch : FnScope ["touches", "tick", "found", "first", "end"] ["touches", "tick"] (defScope slast_touch) := ⟨rfl, rfl, rfl, by decide +kernel, rfl, by decide +kernel, by decide +kernel⟩
abbrev swritten : Stmt := topS 57
theorem scwritten : FnScope ["one_pass", "length", "tick", "_", "mode", "first", "touches", "glide", "hand", "gone", "rest"] ["one_pass", "length", "tick"] (defScope swritten) := ⟨rfl, rfl, rfl, by decide +kernel, rfl, by decide +kernel, by decide +kernel⟩
abbrev staken_by : Stmt := topS 58
theorem sctaken_by : FnScope ["one_pass", "length", "left", "tick", "weight", "told", "hand", "share", "place", "rest", "taken"] ["one_pass", "length", "left"] (defScope staken_by) := ⟨rfl, rfl, rfl, by decide +kernel, rfl, by decide +kernel, by decide +kernel⟩
abbrev sform_of : Stmt := topS 59
theorem scform_of : FnScope ["passes", "length", "tick", "terms", "left", "one", "taken"] ["passes", "length", "tick"] (defScope sform_of) := ⟨rfl, rfl, rfl, by decide +kernel, rfl, by decide +kernel, by decide +kernel⟩
abbrev sedges_of : Stmt := topS 62
theorem scedges_of : FnScope ["one_pass", "length", "_", "mode", "first", "touches", "glide", "end", "edges", "begin", "until", "steps"] ["one_pass", "length"] (defScope sedges_of) := ⟨rfl, rfl, rfl, by decide +kernel, rfl, by decide +kernel, by decide +kernel⟩
abbrev ssegments : Stmt := topS 63
theorem scsegments : FnScope ["length", "passes", "edges", "one", "ordered"] ["length", "passes"] (defScope ssegments) := ⟨rfl, rfl, rfl, by decide +kernel, rfl, by decide +kernel, by decide +kernel⟩
abbrev sformed_segments : Stmt := topS 64
theorem scformed_segments : FnScope ["track", "length", "passes", "first", "end"] ["track"] (defScope sformed_segments) := ⟨rfl, rfl, rfl, by decide +kernel, rfl, by decide +kernel, by decide +kernel⟩
abbrev slongest : Stmt := topS 66
theorem sclongest : FnScope ["stretches", "found", "first", "end"] ["stretches"] (defScope slongest) := ⟨rfl, rfl, rfl, by decide +kernel, rfl, by decide +kernel, by decide +kernel⟩
abbrev sheard_in : Stmt := topS 68
theorem scheard_in : FnScope ["rows", "source", "found", "first", "end", "terms", "name", "tick", "_"] ["rows", "source"] (defScope sheard_in) := ⟨rfl, rfl, rfl, by decide +kernel, rfl, by decide +kernel, by decide +kernel⟩
abbrev skept_in : Stmt := topS 69
theorem sckept_in : FnScope ["rows", "first", "end", "terms"] ["rows"] (defScope skept_in) := ⟨rfl, rfl, rfl, by decide +kernel, rfl, by decide +kernel, by decide +kernel⟩
abbrev sheard : Stmt := topS 70
theorem scheard : FnScope ["track", "name"] ["track", "name"] (defScope sheard) := ⟨rfl, rfl, rfl, by decide +kernel, rfl, by decide +kernel, by decide +kernel⟩
abbrev sold_heard : Stmt := topS 71
theorem scold_heard : FnScope ["track"] ["track"] (defScope sold_heard) := ⟨rfl, rfl, rfl, by decide +kernel, rfl, by decide +kernel, by decide +kernel⟩
abbrev skept : Stmt := topS 72
theorem sckept : FnScope ["track"] ["track"] (defScope skept) := ⟨rfl, rfl, rfl, by decide +kernel, rfl, by decide +kernel, by decide +kernel⟩
abbrev slaw_purse : Stmt := topS 74
theorem sclaw_purse : FnScope ["script", "k", "cell", "digits", "seed"] ["script", "k"] (defScope slaw_purse) := ⟨rfl, rfl, rfl, by decide +kernel, rfl, by decide +kernel, by decide +kernel⟩
abbrev slaw_draw : Stmt := topS 75
theorem sclaw_draw : FnScope ["purse", "size", "seed", "by", "digit"] ["purse", "size"] (defScope slaw_draw) := ⟨rfl, rfl, rfl, by decide +kernel, rfl, by decide +kernel, by decide +kernel⟩
abbrev slaw_pick : Stmt := topS 76
theorem sclaw_pick : FnScope ["purse", "menu"] ["purse", "menu"] (defScope slaw_pick) := ⟨rfl, rfl, rfl, by decide +kernel, rfl, by decide +kernel, by decide +kernel⟩
abbrev slaw_low : Stmt := topS 77
theorem sclaw_low : FnScope ["top", "bottom", "high", "less"] ["top", "bottom"] (defScope slaw_low) := ⟨rfl, rfl, rfl, by decide +kernel, rfl, by decide +kernel, by decide +kernel⟩
abbrev slaw_touched : Stmt := topS 78
theorem sclaw_touched : FnScope ["touches_here", "tick_here", "found", "a", "b"] ["touches_here", "tick_here"] (defScope slaw_touched) := ⟨rfl, rfl, rfl, by decide +kernel, rfl, by decide +kernel, by decide +kernel⟩
abbrev slaw_mixed : Stmt := topS 79
theorem sclaw_mixed : FnScope ["ahead", "name_here", "spot", "share", "rest", "found", "each", "at", "part"] ["ahead", "name_here", "spot", "share", "rest"] (defScope slaw_mixed) := ⟨rfl, rfl, rfl, by decide +kernel, rfl, by decide +kernel, by decide +kernel⟩
abbrev slaw_at : Stmt := topS 80
theorem sclaw_at : FnScope ["long", "some", "tick_here", "name_here", "mode", "first", "last", "touches_here", "slide", "tail", "spot", "ahead", "k", "share"] ["long", "some", "tick_here"] (defScope slaw_at) := ⟨rfl, rfl, rfl, by decide +kernel, rfl, by decide +kernel, by decide +kernel⟩
abbrev slaw_form : Stmt := topS 81
theorem sclaw_form : FnScope ["long", "some", "tick_here", "ahead", "each"] ["long", "some", "tick_here"] (defScope slaw_form) := ⟨rfl, rfl, rfl, by decide +kernel, rfl, by decide +kernel, by decide +kernel⟩
abbrev slaw_touches : Stmt := topS 82
theorem sclaw_touches : FnScope ["purse", "first", "last", "many", "wide", "found", "at", "k", "a", "b"] ["purse", "first", "last", "many", "wide"] (defScope slaw_touches) := ⟨rfl, rfl, rfl, by decide +kernel, rfl, by decide +kernel, by decide +kernel⟩
abbrev slaw_pass : Stmt := topS 83
theorem sclaw_pass : FnScope ["purse", "name_here", "long", "wide", "first", "last", "touches_here", "mode", "slide", "tail"] ["purse", "name_here", "long", "wide"] (defScope slaw_pass) := ⟨rfl, rfl, rfl, by decide +kernel, rfl, by decide +kernel, by decide +kernel⟩
abbrev slaw_row : Stmt := topS 84
theorem sclaw_row : FnScope ["purse", "long", "many", "wide", "names_here", "at", "k"] ["purse", "long", "many", "wide"] (defScope slaw_row) := ⟨rfl, rfl, rfl, by decide +kernel, rfl, by decide +kernel, by decide +kernel⟩
abbrev slaw_far_row : Stmt := topS 85
theorem sclaw_far_row : FnScope ["purse", "long", "wide", "found", "at", "each", "slide"] ["purse"] (defScope slaw_far_row) := ⟨rfl, rfl, rfl, by decide +kernel, rfl, by decide +kernel, by decide +kernel⟩
abbrev slaw_spots : Stmt := topS 86
theorem sclaw_spots : FnScope ["purse", "long", "some", "found", "each", "a", "b", "k"] ["purse", "long", "some"] (defScope slaw_spots) := ⟨rfl, rfl, rfl, by decide +kernel, rfl, by decide +kernel, by decide +kernel⟩
abbrev slaw_is_in : Stmt := topS 87
theorem sclaw_is_in : FnScope ["tick_here", "told", "a", "b"] ["tick_here", "told"] (defScope slaw_is_in) := ⟨rfl, rfl, rfl, by decide +kernel, rfl, by decide +kernel, by decide +kernel⟩
abbrev slaw_is_apart : Stmt := topS 88
theorem sclaw_is_apart : FnScope ["long", "told", "ends", "a", "b", "k"] ["long", "told"] (defScope slaw_is_apart) := ⟨rfl, rfl, rfl, by decide +kernel, rfl, by decide +kernel, by decide +kernel⟩
abbrev slaw_is_touched : Stmt := topS 89
theorem sclaw_is_touched : FnScope ["one_here", "told", "a", "b", "first", "last"] ["one_here", "told"] (defScope slaw_is_touched) := ⟨rfl, rfl, rfl, by decide +kernel, rfl, by decide +kernel, by decide +kernel⟩
abbrev slaw_right : Stmt := topS 90
theorem sclaw_right : FnScope ["purse", "long", "some", "mine", "known", "each", "plain", "k", "told", "name_here", "at", "part"] ["purse"] (defScope slaw_right) := ⟨rfl, rfl, rfl, by decide +kernel, rfl, by decide +kernel, by decide +kernel⟩
abbrev slaw : Stmt := topS 91
theorem sclaw : FnScope ["script", "k"] ["script"] (defScope slaw) := ⟨rfl, rfl, rfl, by decide +kernel, rfl, by decide +kernel, by decide +kernel⟩
structure Txt (pr : Params) (K : PySem.W.Frag) (mg : Str → Option Value) where
  C : Addr
  gC : mg "Track" = some (.ref C)
  cl : Cls K C
  kC : PySem.W.keepIn K (.ref C) = true
  makes : PySem.W.makesIn K C = true
  isC : IsCT K C
  n_length : NoAttr K C "_length"
  n_passes : NoAttr K C "_passes"
  is_integer : Df K mg "is_integer" sis_integer ["value"]
  is_between : Df K mg "is_between" sis_between ["value", "low", "high"]
  is_name : Df K mg "is_name" sis_name ["value"]
  is_word : Df K mg "is_word" sis_word ["value", "words"]
  is_stretch : Df K mg "is_stretch" sis_stretch ["value", "low", "high"]
  is_length : Df K mg "is_length" sis_length ["value"]
  are_touches : Df K mg "are_touches" sare_touches ["value", "first", "last"]
  is_pass : Df K mg "is_pass" sis_pass ["value", "length"]
  first_wrong : Df K mg "first_wrong" sfirst_wrong ["passes", "length"]
  place_of : Df K mg "place_of" splace_of ["passes", "name"]
  e_Track_init : Addr
  et_Track_init : ∀ H : Hp, SqT K H e_Track_init []
  Track_init : Dd K C "__init__" "Track.__init__" sTrack_init ["self", "length", "passes"] (.ref e_Track_init)
  Track_length : Dp' K C "length" "Track.length" sTrack_length
  Track_passes : Dp' K C "passes" "Track.passes" sTrack_passes
  Track_contains : Dm K C "__contains__" "Track.__contains__" sTrack_contains ["self", "x"]
  check_track : Df K mg "check_track" scheck_track ["value"]
  check_name : Df K mg "check_name" scheck_name ["track", "value"]
  lowest : Df K mg "lowest" slowest ["top", "bottom"]
  times : Df K mg "times" stimes ["one", "other"]
  end_of : Df K mg "end_of" send_of ["one_pass", "length"]
  last_touch : Df K mg "last_touch" slast_touch ["touches", "tick"]
  written : Df K mg "written" swritten ["one_pass", "length", "tick"]
  taken_by : Df K mg "taken_by" staken_by ["one_pass", "length", "left"]
  form_of : Df K mg "form_of" sform_of ["passes", "length", "tick"]
  edges_of : Df K mg "edges_of" sedges_of ["one_pass", "length"]
  segments : Df K mg "segments" ssegments ["length", "passes"]
  formed_segments : Df K mg "formed_segments" sformed_segments ["track"]
  longest : Df K mg "longest" slongest ["stretches"]
  heard_in : Df K mg "heard_in" sheard_in ["rows", "source"]
  kept_in : Df K mg "kept_in" skept_in ["rows"]
  heard : Df K mg "heard" sheard ["track", "name"]
  old_heard : Df K mg "old_heard" sold_heard ["track"]
  kept : Df K mg "kept" skept ["track"]
  law_purse : Df K mg "_law_purse" slaw_purse ["script", "k"]
  law_draw : Df K mg "_law_draw" slaw_draw ["purse", "size"]
  law_pick : Df K mg "_law_pick" slaw_pick ["purse", "menu"]
  law_low : Df K mg "_law_low" slaw_low ["top", "bottom"]
  law_touched : Df K mg "_law_touched" slaw_touched ["touches_here", "tick_here"]
  law_mixed : Df K mg "_law_mixed" slaw_mixed ["ahead", "name_here", "spot", "share", "rest"]
  law_at : Df K mg "_law_at" slaw_at ["long", "some", "tick_here"]
  law_form : Df K mg "_law_form" slaw_form ["long", "some", "tick_here"]
  law_touches : Df K mg "_law_touches" slaw_touches ["purse", "first", "last", "many", "wide"]
  law_pass : Df K mg "_law_pass" slaw_pass ["purse", "name_here", "long", "wide"]
  law_row : Df K mg "_law_row" slaw_row ["purse", "long", "many", "wide"]
  law_far_row : Df K mg "_law_far_row" slaw_far_row ["purse"]
  law_spots : Df K mg "_law_spots" slaw_spots ["purse", "long", "some"]
  law_is_in : Df K mg "_law_is_in" slaw_is_in ["tick_here", "told"]
  law_is_apart : Df K mg "_law_is_apart" slaw_is_apart ["long", "told"]
  law_is_touched : Df K mg "_law_is_touched" slaw_is_touched ["one_here", "told"]
  law_right : Df K mg "_law_right" slaw_right ["purse"]
  law : Df K mg "law" slaw ["script"]
  c_LETTERS : L2.Cs mg "LETTERS" "abcdefghijklmnopqrstuvwxyz"
  c_DIGITS : L2.Cs mg "DIGITS" "0123456789"
  c_MOST_SIGNS : L2.Ci mg "MOST_SIGNS" 8
  c_MOST_LENGTH : L2.Ci mg "MOST_LENGTH" 1000000000000
  c_MOST_PASSES : L2.Ci mg "MOST_PASSES" 8
  c_MOST_TOUCHES : L2.Ci mg "MOST_TOUCHES" 6
  c_MOST_GLIDE : L2.Ci mg "MOST_GLIDE" 100
  c_OLD : L2.Cs mg "OLD" "old"
  c_MODES : L2.Ct K mg "MODES" [.str "write", .str "latch", .str "touch", .str "trim"]
  c_TAILS : L2.Ct K mg "TAILS" [.str "stop", .str "on"]
  c_SIZE : L2.Ci mg "SIZE" 7
  c_NOTHING : L2.Ct K mg "NOTHING" [.int 0, .int 1]
  c_WHOLE : L2.Ct K mg "WHOLE" [.int 1, .int 1]
  c_GLIDING : L2.Ct K mg "GLIDING" [.str "touch", .str "trim"]
  z_len : mg "len" = none
  z_isinstance : mg "isinstance" = none
  z_int : mg "int" = none
  z_bool : mg "bool" = none
  z_str : mg "str" = none
  z_tuple : mg "tuple" = none
  z_list : mg "list" = none
  z_all : mg "all" = none
  z_range : mg "range" = none
  z_enumerate : mg "enumerate" = none
  z_zip : mg "zip" = none
  z_abs : mg "abs" = none
  z_divmod : mg "divmod" = none
  z_max : mg "max" = none
  z_min : mg "min" = none
  z_repr : mg "repr" = none
  z_sorted : mg "sorted" = none
  z_set : mg "set" = none
  g_gcd : mg "gcd" = some (.builtin "math.gcd")
end My
namespace My
open PySem PySem.Spec PyProof.Rows L2 DL
set_option maxHeartbeats 0 in
theorem mk_txt {pr : Params} {K : PySem.W.Frag} {h : Heap} {mg : Str → Option Value} (X : K.In h) (G : h.Ns mainGlobals mg)
    {C : Addr}
    {f_is_integer : Addr} {od_is_integer an_is_integer : Option Addr} {sl_is_integer : Array (Option Value)} {oc_is_integer kV_is_integer dc_is_integer pm_is_integer cd_is_integer ct_is_integer : Value}
    {f_is_between : Addr} {od_is_between an_is_between : Option Addr} {sl_is_between : Array (Option Value)} {oc_is_between kV_is_between dc_is_between pm_is_between cd_is_between ct_is_between : Value}
    {f_is_name : Addr} {od_is_name an_is_name : Option Addr} {sl_is_name : Array (Option Value)} {oc_is_name kV_is_name dc_is_name pm_is_name cd_is_name ct_is_name : Value}
    {f_is_word : Addr} {od_is_word an_is_word : Option Addr} {sl_is_word : Array (Option Value)} {oc_is_word kV_is_word dc_is_word pm_is_word cd_is_word ct_is_word : Value}
    {f_is_stretch : Addr} {od_is_stretch an_is_stretch : Option Addr} {sl_is_stretch : Array (Option Value)} {oc_is_stretch kV_is_stretch dc_is_stretch pm_is_stretch cd_is_stretch ct_is_stretch : Value}
    {f_is_length : Addr} {od_is_length an_is_length : Option Addr} {sl_is_length : Array (Option Value)} {oc_is_length kV_is_length dc_is_length pm_is_length cd_is_length ct_is_length : Value}
    {f_are_touches : Addr} {od_are_touches an_are_touches : Option Addr} {sl_are_touches : Array (Option Value)} {oc_are_touches kV_are_touches dc_are_touches pm_are_touches cd_are_touches ct_are_touches : Value}
    {f_is_pass : Addr} {od_is_pass an_is_pass : Option Addr} {sl_is_pass : Array (Option Value)} {oc_is_pass kV_is_pass dc_is_pass pm_is_pass cd_is_pass ct_is_pass : Value}
    {f_first_wrong : Addr} {od_first_wrong an_first_wrong : Option Addr} {sl_first_wrong : Array (Option Value)} {oc_first_wrong kV_first_wrong dc_first_wrong pm_first_wrong cd_first_wrong ct_first_wrong : Value}
    {f_place_of : Addr} {od_place_of an_place_of : Option Addr} {sl_place_of : Array (Option Value)} {oc_place_of kV_place_of dc_place_of pm_place_of cd_place_of ct_place_of : Value}
    {f_Track_init : Addr} {od_Track_init an_Track_init : Option Addr} {sl_Track_init : Array (Option Value)} {oc_Track_init kV_Track_init dc_Track_init pm_Track_init cd_Track_init ct_Track_init : Value}
    {T_Track_init : Addr} {to_Track_init : Value} {td_Track_init : Option Addr} {ts_Track_init : Array (Option Value)} {tn_Track_init : Nat}
    {e_Track_init : Addr} {eo_Track_init : Option Addr} {es_Track_init : Array (Option Value)} {en_Track_init : Nat}
    {f_Track_length : Addr} {od_Track_length an_Track_length : Option Addr} {sl_Track_length : Array (Option Value)} {oc_Track_length kV_Track_length dc_Track_length pm_Track_length cd_Track_length ct_Track_length : Value}
    {p_Track_length : Addr} {pr_Track_length : List Value}
    {f_Track_passes : Addr} {od_Track_passes an_Track_passes : Option Addr} {sl_Track_passes : Array (Option Value)} {oc_Track_passes kV_Track_passes dc_Track_passes pm_Track_passes cd_Track_passes ct_Track_passes : Value}
    {p_Track_passes : Addr} {pr_Track_passes : List Value}
    {f_Track_contains : Addr} {od_Track_contains an_Track_contains : Option Addr} {sl_Track_contains : Array (Option Value)} {oc_Track_contains kV_Track_contains dc_Track_contains pm_Track_contains cd_Track_contains ct_Track_contains : Value}
    {f_check_track : Addr} {od_check_track an_check_track : Option Addr} {sl_check_track : Array (Option Value)} {oc_check_track kV_check_track dc_check_track pm_check_track cd_check_track ct_check_track : Value}
    {f_check_name : Addr} {od_check_name an_check_name : Option Addr} {sl_check_name : Array (Option Value)} {oc_check_name kV_check_name dc_check_name pm_check_name cd_check_name ct_check_name : Value}
    {f_lowest : Addr} {od_lowest an_lowest : Option Addr} {sl_lowest : Array (Option Value)} {oc_lowest kV_lowest dc_lowest pm_lowest cd_lowest ct_lowest : Value}
    {f_times : Addr} {od_times an_times : Option Addr} {sl_times : Array (Option Value)} {oc_times kV_times dc_times pm_times cd_times ct_times : Value}
    {f_end_of : Addr} {od_end_of an_end_of : Option Addr} {sl_end_of : Array (Option Value)} {oc_end_of kV_end_of dc_end_of pm_end_of cd_end_of ct_end_of : Value}
    {f_last_touch : Addr} {od_last_touch an_last_touch : Option Addr} {sl_last_touch : Array (Option Value)} {oc_last_touch kV_last_touch dc_last_touch pm_last_touch cd_last_touch ct_last_touch : Value}
    {f_written : Addr} {od_written an_written : Option Addr} {sl_written : Array (Option Value)} {oc_written kV_written dc_written pm_written cd_written ct_written : Value}
    {f_taken_by : Addr} {od_taken_by an_taken_by : Option Addr} {sl_taken_by : Array (Option Value)} {oc_taken_by kV_taken_by dc_taken_by pm_taken_by cd_taken_by ct_taken_by : Value}
    {f_form_of : Addr} {od_form_of an_form_of : Option Addr} {sl_form_of : Array (Option Value)} {oc_form_of kV_form_of dc_form_of pm_form_of cd_form_of ct_form_of : Value}
    {f_edges_of : Addr} {od_edges_of an_edges_of : Option Addr} {sl_edges_of : Array (Option Value)} {oc_edges_of kV_edges_of dc_edges_of pm_edges_of cd_edges_of ct_edges_of : Value}
    {f_segments : Addr} {od_segments an_segments : Option Addr} {sl_segments : Array (Option Value)} {oc_segments kV_segments dc_segments pm_segments cd_segments ct_segments : Value}
    {f_formed_segments : Addr} {od_formed_segments an_formed_segments : Option Addr} {sl_formed_segments : Array (Option Value)} {oc_formed_segments kV_formed_segments dc_formed_segments pm_formed_segments cd_formed_segments ct_formed_segments : Value}
    {f_longest : Addr} {od_longest an_longest : Option Addr} {sl_longest : Array (Option Value)} {oc_longest kV_longest dc_longest pm_longest cd_longest ct_longest : Value}
    {f_heard_in : Addr} {od_heard_in an_heard_in : Option Addr} {sl_heard_in : Array (Option Value)} {oc_heard_in kV_heard_in dc_heard_in pm_heard_in cd_heard_in ct_heard_in : Value}
    {f_kept_in : Addr} {od_kept_in an_kept_in : Option Addr} {sl_kept_in : Array (Option Value)} {oc_kept_in kV_kept_in dc_kept_in pm_kept_in cd_kept_in ct_kept_in : Value}
    {f_heard : Addr} {od_heard an_heard : Option Addr} {sl_heard : Array (Option Value)} {oc_heard kV_heard dc_heard pm_heard cd_heard ct_heard : Value}
    {f_old_heard : Addr} {od_old_heard an_old_heard : Option Addr} {sl_old_heard : Array (Option Value)} {oc_old_heard kV_old_heard dc_old_heard pm_old_heard cd_old_heard ct_old_heard : Value}
    {f_kept : Addr} {od_kept an_kept : Option Addr} {sl_kept : Array (Option Value)} {oc_kept kV_kept dc_kept pm_kept cd_kept ct_kept : Value}
    {f_law_purse : Addr} {od_law_purse an_law_purse : Option Addr} {sl_law_purse : Array (Option Value)} {oc_law_purse kV_law_purse dc_law_purse pm_law_purse cd_law_purse ct_law_purse : Value}
    {f_law_draw : Addr} {od_law_draw an_law_draw : Option Addr} {sl_law_draw : Array (Option Value)} {oc_law_draw kV_law_draw dc_law_draw pm_law_draw cd_law_draw ct_law_draw : Value}
    {f_law_pick : Addr} {od_law_pick an_law_pick : Option Addr} {sl_law_pick : Array (Option Value)} {oc_law_pick kV_law_pick dc_law_pick pm_law_pick cd_law_pick ct_law_pick : Value}
    {f_law_low : Addr} {od_law_low an_law_low : Option Addr} {sl_law_low : Array (Option Value)} {oc_law_low kV_law_low dc_law_low pm_law_low cd_law_low ct_law_low : Value}
    {f_law_touched : Addr} {od_law_touched an_law_touched : Option Addr} {sl_law_touched : Array (Option Value)} {oc_law_touched kV_law_touched dc_law_touched pm_law_touched cd_law_touched ct_law_touched : Value}
    {f_law_mixed : Addr} {od_law_mixed an_law_mixed : Option Addr} {sl_law_mixed : Array (Option Value)} {oc_law_mixed kV_law_mixed dc_law_mixed pm_law_mixed cd_law_mixed ct_law_mixed : Value}
    {f_law_at : Addr} {od_law_at an_law_at : Option Addr} {sl_law_at : Array (Option Value)} {oc_law_at kV_law_at dc_law_at pm_law_at cd_law_at ct_law_at : Value}
    {f_law_form : Addr} {od_law_form an_law_form : Option Addr} {sl_law_form : Array (Option Value)} {oc_law_form kV_law_form dc_law_form pm_law_form cd_law_form ct_law_form : Value}
    {f_law_touches : Addr} {od_law_touches an_law_touches : Option Addr} {sl_law_touches : Array (Option Value)} {oc_law_touches kV_law_touches dc_law_touches pm_law_touches cd_law_touches ct_law_touches : Value}
    {f_law_pass : Addr} {od_law_pass an_law_pass : Option Addr} {sl_law_pass : Array (Option Value)} {oc_law_pass kV_law_pass dc_law_pass pm_law_pass cd_law_pass ct_law_pass : Value}
    {f_law_row : Addr} {od_law_row an_law_row : Option Addr} {sl_law_row : Array (Option Value)} {oc_law_row kV_law_row dc_law_row pm_law_row cd_law_row ct_law_row : Value}
    {f_law_far_row : Addr} {od_law_far_row an_law_far_row : Option Addr} {sl_law_far_row : Array (Option Value)} {oc_law_far_row kV_law_far_row dc_law_far_row pm_law_far_row cd_law_far_row ct_law_far_row : Value}
    {f_law_spots : Addr} {od_law_spots an_law_spots : Option Addr} {sl_law_spots : Array (Option Value)} {oc_law_spots kV_law_spots dc_law_spots pm_law_spots cd_law_spots ct_law_spots : Value}
    {f_law_is_in : Addr} {od_law_is_in an_law_is_in : Option Addr} {sl_law_is_in : Array (Option Value)} {oc_law_is_in kV_law_is_in dc_law_is_in pm_law_is_in cd_law_is_in ct_law_is_in : Value}
    {f_law_is_apart : Addr} {od_law_is_apart an_law_is_apart : Option Addr} {sl_law_is_apart : Array (Option Value)} {oc_law_is_apart kV_law_is_apart dc_law_is_apart pm_law_is_apart cd_law_is_apart ct_law_is_apart : Value}
    {f_law_is_touched : Addr} {od_law_is_touched an_law_is_touched : Option Addr} {sl_law_is_touched : Array (Option Value)} {oc_law_is_touched kV_law_is_touched dc_law_is_touched pm_law_is_touched cd_law_is_touched ct_law_is_touched : Value}
    {f_law_right : Addr} {od_law_right an_law_right : Option Addr} {sl_law_right : Array (Option Value)} {oc_law_right kV_law_right dc_law_right pm_law_right cd_law_right ct_law_right : Value}
    {f_law : Addr} {od_law an_law : Option Addr} {sl_law : Array (Option Value)} {oc_law kV_law dc_law pm_law cd_law ct_law : Value}
    {t_LETTERS : Tok}
    {t_DIGITS : Tok}
    {t_MOST_SIGNS : Tok}
    {t_MOST_LENGTH : Tok}
    {t_MOST_PASSES : Tok}
    {t_MOST_TOUCHES : Tok}
    {t_MOST_GLIDE : Tok}
    {t_OLD : Tok}
    {a_MODES : Addr} {o_MODES : Option Addr} {s_MODES : Array (Option Value)} {n_MODES : Nat} {t0_MODES t1_MODES t2_MODES t3_MODES : Tok}
    {a_TAILS : Addr} {o_TAILS : Option Addr} {s_TAILS : Array (Option Value)} {n_TAILS : Nat} {t0_TAILS t1_TAILS : Tok}
    {t_SIZE : Tok}
    {a_NOTHING : Addr} {o_NOTHING : Option Addr} {s_NOTHING : Array (Option Value)} {n_NOTHING : Nat} {t0_NOTHING t1_NOTHING : Tok}
    {a_WHOLE : Addr} {o_WHOLE : Option Addr} {s_WHOLE : Array (Option Value)} {n_WHOLE : Nat} {t0_WHOLE t1_WHOLE : Tok}
    {a_GLIDING : Addr} {o_GLIDING : Option Addr} {s_GLIDING : Array (Option Value)} {n_GLIDING : Nat} {t0_GLIDING t1_GLIDING : Tok}
    (aC : PySem.W.nsIn K mainGlobals "Track" = some (some (.ref C)))
    (cpg : PySem.W.plainGet K C Str.empty = true)
    (chd : PySem.W.hasDictIn K C = true)
    (cpo : PySem.W.plainOver K C = true)
    (csa : PySem.W.findIn K (.ref C) "__setattr__" = some (some (.builtin "object.__setattr__")))
    (cmk : PySem.W.makesIn K C = true)
    (ckc : PySem.W.keepIn K (.ref C) = true)
    (cca : PySem.W.findIn K (.ref C) "__class__" = some (some (.builtin "object.__class__")))
    (ccn : PySem.W.specialIn K (.builtin "object.__class__") "__get__" = some (some (.builtin "getset_descriptor.__get__")))
    (cct : PySem.W.takesIn K (.builtin "object.__class__") = some true)
    (ccm : PySem.W.mroIn K C (.type "object") = some true)
    (na_length : PySem.W.findIn K (.ref C) "_length" = some none)
    (na_passes : PySem.W.findIn K (.ref C) "_passes" = some none)
    (a_is_integer : PySem.W.nsIn K mainGlobals "is_integer" = some (some (.ref f_is_integer)))
    (l_is_integer : K.lookup f_is_integer = some ⟨oc_is_integer, od_is_integer, .func (PySem.W.fnOf "is_integer" "is_integer" (defArgs sis_integer) (defBody sis_integer) (defScope sis_integer) .none kV_is_integer dc_is_integer pm_is_integer an_is_integer cd_is_integer ct_is_integer), sl_is_integer⟩)
    (c_is_integer : PySem.W.codeIn K cd_is_integer "is_integer" = true)
    (k_is_integer : PySem.W.keepIn K (.ref f_is_integer) = true)
    (a_is_between : PySem.W.nsIn K mainGlobals "is_between" = some (some (.ref f_is_between)))
    (l_is_between : K.lookup f_is_between = some ⟨oc_is_between, od_is_between, .func (PySem.W.fnOf "is_between" "is_between" (defArgs sis_between) (defBody sis_between) (defScope sis_between) .none kV_is_between dc_is_between pm_is_between an_is_between cd_is_between ct_is_between), sl_is_between⟩)
    (c_is_between : PySem.W.codeIn K cd_is_between "is_between" = true)
    (k_is_between : PySem.W.keepIn K (.ref f_is_between) = true)
    (a_is_name : PySem.W.nsIn K mainGlobals "is_name" = some (some (.ref f_is_name)))
    (l_is_name : K.lookup f_is_name = some ⟨oc_is_name, od_is_name, .func (PySem.W.fnOf "is_name" "is_name" (defArgs sis_name) (defBody sis_name) (defScope sis_name) .none kV_is_name dc_is_name pm_is_name an_is_name cd_is_name ct_is_name), sl_is_name⟩)
    (c_is_name : PySem.W.codeIn K cd_is_name "is_name" = true)
    (k_is_name : PySem.W.keepIn K (.ref f_is_name) = true)
    (a_is_word : PySem.W.nsIn K mainGlobals "is_word" = some (some (.ref f_is_word)))
    (l_is_word : K.lookup f_is_word = some ⟨oc_is_word, od_is_word, .func (PySem.W.fnOf "is_word" "is_word" (defArgs sis_word) (defBody sis_word) (defScope sis_word) .none kV_is_word dc_is_word pm_is_word an_is_word cd_is_word ct_is_word), sl_is_word⟩)
    (c_is_word : PySem.W.codeIn K cd_is_word "is_word" = true)
    (k_is_word : PySem.W.keepIn K (.ref f_is_word) = true)
    (a_is_stretch : PySem.W.nsIn K mainGlobals "is_stretch" = some (some (.ref f_is_stretch)))
    (l_is_stretch : K.lookup f_is_stretch = some ⟨oc_is_stretch, od_is_stretch, .func (PySem.W.fnOf "is_stretch" "is_stretch" (defArgs sis_stretch) (defBody sis_stretch) (defScope sis_stretch) .none kV_is_stretch dc_is_stretch pm_is_stretch an_is_stretch cd_is_stretch ct_is_stretch), sl_is_stretch⟩)
    (c_is_stretch : PySem.W.codeIn K cd_is_stretch "is_stretch" = true)
    (k_is_stretch : PySem.W.keepIn K (.ref f_is_stretch) = true)
    (a_is_length : PySem.W.nsIn K mainGlobals "is_length" = some (some (.ref f_is_length)))
    (l_is_length : K.lookup f_is_length = some ⟨oc_is_length, od_is_length, .func (PySem.W.fnOf "is_length" "is_length" (defArgs sis_length) (defBody sis_length) (defScope sis_length) .none kV_is_length dc_is_length pm_is_length an_is_length cd_is_length ct_is_length), sl_is_length⟩)
    (c_is_length : PySem.W.codeIn K cd_is_length "is_length" = true)
    (k_is_length : PySem.W.keepIn K (.ref f_is_length) = true)
    (a_are_touches : PySem.W.nsIn K mainGlobals "are_touches" = some (some (.ref f_are_touches)))
    (l_are_touches : K.lookup f_are_touches = some ⟨oc_are_touches, od_are_touches, .func (PySem.W.fnOf "are_touches" "are_touches" (defArgs sare_touches) (defBody sare_touches) (defScope sare_touches) .none kV_are_touches dc_are_touches pm_are_touches an_are_touches cd_are_touches ct_are_touches), sl_are_touches⟩)
    (c_are_touches : PySem.W.codeIn K cd_are_touches "are_touches" = true)
    (k_are_touches : PySem.W.keepIn K (.ref f_are_touches) = true)
    (a_is_pass : PySem.W.nsIn K mainGlobals "is_pass" = some (some (.ref f_is_pass)))
    (l_is_pass : K.lookup f_is_pass = some ⟨oc_is_pass, od_is_pass, .func (PySem.W.fnOf "is_pass" "is_pass" (defArgs sis_pass) (defBody sis_pass) (defScope sis_pass) .none kV_is_pass dc_is_pass pm_is_pass an_is_pass cd_is_pass ct_is_pass), sl_is_pass⟩)
    (c_is_pass : PySem.W.codeIn K cd_is_pass "is_pass" = true)
    (k_is_pass : PySem.W.keepIn K (.ref f_is_pass) = true)
    (a_first_wrong : PySem.W.nsIn K mainGlobals "first_wrong" = some (some (.ref f_first_wrong)))
    (l_first_wrong : K.lookup f_first_wrong = some ⟨oc_first_wrong, od_first_wrong, .func (PySem.W.fnOf "first_wrong" "first_wrong" (defArgs sfirst_wrong) (defBody sfirst_wrong) (defScope sfirst_wrong) .none kV_first_wrong dc_first_wrong pm_first_wrong an_first_wrong cd_first_wrong ct_first_wrong), sl_first_wrong⟩)
    (c_first_wrong : PySem.W.codeIn K cd_first_wrong "first_wrong" = true)
    (k_first_wrong : PySem.W.keepIn K (.ref f_first_wrong) = true)
    (a_place_of : PySem.W.nsIn K mainGlobals "place_of" = some (some (.ref f_place_of)))
    (l_place_of : K.lookup f_place_of = some ⟨oc_place_of, od_place_of, .func (PySem.W.fnOf "place_of" "place_of" (defArgs splace_of) (defBody splace_of) (defScope splace_of) .none kV_place_of dc_place_of pm_place_of an_place_of cd_place_of ct_place_of), sl_place_of⟩)
    (c_place_of : PySem.W.codeIn K cd_place_of "place_of" = true)
    (k_place_of : PySem.W.keepIn K (.ref f_place_of) = true)
    (a_Track_init : PySem.W.findIn K (.ref C) "__init__" = some (some (.ref f_Track_init)))
    (i_Track_init : PySem.W.isFn K (.ref f_Track_init) = true)
    (l_Track_init : K.lookup f_Track_init = some ⟨oc_Track_init, od_Track_init, .func (PySem.W.fnOf "__init__" "Track.__init__" (defArgs sTrack_init) (defBody sTrack_init) (defScope sTrack_init) (.ref T_Track_init) kV_Track_init dc_Track_init pm_Track_init an_Track_init cd_Track_init ct_Track_init), sl_Track_init⟩)
    (c_Track_init : PySem.W.codeIn K cd_Track_init "Track.__init__" = true)
    (k_Track_init : PySem.W.keepIn K (.ref f_Track_init) = true)
    (t_Track_init : K.lookup T_Track_init = some ⟨to_Track_init, td_Track_init, .seq #[.ref e_Track_init] tn_Track_init, ts_Track_init⟩)
    (e_Track_init_at : K.lookup e_Track_init = some ⟨.type "tuple", eo_Track_init, .seq #[] en_Track_init, es_Track_init⟩)
    (a_Track_length : PySem.W.findIn K (.ref C) "length" = some (some (.ref p_Track_length)))
    (pg_Track_length : PySem.W.specialIn K (.ref p_Track_length) "__get__" = some (some (.builtin "property.__get__")))
    (pt_Track_length : PySem.W.takesIn K (.ref p_Track_length) = some true)
    (pr_Track_length_at : PySem.W.recIn K p_Track_length "property" = some (.ref f_Track_length :: pr_Track_length))
    (l_Track_length : K.lookup f_Track_length = some ⟨oc_Track_length, od_Track_length, .func (PySem.W.fnOf "length" "Track.length" (defArgs sTrack_length) (defBody sTrack_length) (defScope sTrack_length) .none kV_Track_length dc_Track_length pm_Track_length an_Track_length cd_Track_length ct_Track_length), sl_Track_length⟩)
    (c_Track_length : PySem.W.codeIn K cd_Track_length "Track.length" = true)
    (k_Track_length : PySem.W.keepIn K (.ref f_Track_length) = true)
    (a_Track_passes : PySem.W.findIn K (.ref C) "passes" = some (some (.ref p_Track_passes)))
    (pg_Track_passes : PySem.W.specialIn K (.ref p_Track_passes) "__get__" = some (some (.builtin "property.__get__")))
    (pt_Track_passes : PySem.W.takesIn K (.ref p_Track_passes) = some true)
    (pr_Track_passes_at : PySem.W.recIn K p_Track_passes "property" = some (.ref f_Track_passes :: pr_Track_passes))
    (l_Track_passes : K.lookup f_Track_passes = some ⟨oc_Track_passes, od_Track_passes, .func (PySem.W.fnOf "passes" "Track.passes" (defArgs sTrack_passes) (defBody sTrack_passes) (defScope sTrack_passes) .none kV_Track_passes dc_Track_passes pm_Track_passes an_Track_passes cd_Track_passes ct_Track_passes), sl_Track_passes⟩)
    (c_Track_passes : PySem.W.codeIn K cd_Track_passes "Track.passes" = true)
    (k_Track_passes : PySem.W.keepIn K (.ref f_Track_passes) = true)
    (a_Track_contains : PySem.W.findIn K (.ref C) "__contains__" = some (some (.ref f_Track_contains)))
    (i_Track_contains : PySem.W.isFn K (.ref f_Track_contains) = true)
    (l_Track_contains : K.lookup f_Track_contains = some ⟨oc_Track_contains, od_Track_contains, .func (PySem.W.fnOf "__contains__" "Track.__contains__" (defArgs sTrack_contains) (defBody sTrack_contains) (defScope sTrack_contains) .none kV_Track_contains dc_Track_contains pm_Track_contains an_Track_contains cd_Track_contains ct_Track_contains), sl_Track_contains⟩)
    (c_Track_contains : PySem.W.codeIn K cd_Track_contains "Track.__contains__" = true)
    (k_Track_contains : PySem.W.keepIn K (.ref f_Track_contains) = true)
    (a_check_track : PySem.W.nsIn K mainGlobals "check_track" = some (some (.ref f_check_track)))
    (l_check_track : K.lookup f_check_track = some ⟨oc_check_track, od_check_track, .func (PySem.W.fnOf "check_track" "check_track" (defArgs scheck_track) (defBody scheck_track) (defScope scheck_track) .none kV_check_track dc_check_track pm_check_track an_check_track cd_check_track ct_check_track), sl_check_track⟩)
    (c_check_track : PySem.W.codeIn K cd_check_track "check_track" = true)
    (k_check_track : PySem.W.keepIn K (.ref f_check_track) = true)
    (a_check_name : PySem.W.nsIn K mainGlobals "check_name" = some (some (.ref f_check_name)))
    (l_check_name : K.lookup f_check_name = some ⟨oc_check_name, od_check_name, .func (PySem.W.fnOf "check_name" "check_name" (defArgs scheck_name) (defBody scheck_name) (defScope scheck_name) .none kV_check_name dc_check_name pm_check_name an_check_name cd_check_name ct_check_name), sl_check_name⟩)
    (c_check_name : PySem.W.codeIn K cd_check_name "check_name" = true)
    (k_check_name : PySem.W.keepIn K (.ref f_check_name) = true)
    (a_lowest : PySem.W.nsIn K mainGlobals "lowest" = some (some (.ref f_lowest)))
    (l_lowest : K.lookup f_lowest = some ⟨oc_lowest, od_lowest, .func (PySem.W.fnOf "lowest" "lowest" (defArgs slowest) (defBody slowest) (defScope slowest) .none kV_lowest dc_lowest pm_lowest an_lowest cd_lowest ct_lowest), sl_lowest⟩)
    (c_lowest : PySem.W.codeIn K cd_lowest "lowest" = true)
    (k_lowest : PySem.W.keepIn K (.ref f_lowest) = true)
    (a_times : PySem.W.nsIn K mainGlobals "times" = some (some (.ref f_times)))
    (l_times : K.lookup f_times = some ⟨oc_times, od_times, .func (PySem.W.fnOf "times" "times" (defArgs stimes) (defBody stimes) (defScope stimes) .none kV_times dc_times pm_times an_times cd_times ct_times), sl_times⟩)
    (c_times : PySem.W.codeIn K cd_times "times" = true)
    (k_times : PySem.W.keepIn K (.ref f_times) = true)
    (a_end_of : PySem.W.nsIn K mainGlobals "end_of" = some (some (.ref f_end_of)))
    (l_end_of : K.lookup f_end_of = some ⟨oc_end_of, od_end_of, .func (PySem.W.fnOf "end_of" "end_of" (defArgs send_of) (defBody send_of) (defScope send_of) .none kV_end_of dc_end_of pm_end_of an_end_of cd_end_of ct_end_of), sl_end_of⟩)
    (c_end_of : PySem.W.codeIn K cd_end_of "end_of" = true)
    (k_end_of : PySem.W.keepIn K (.ref f_end_of) = true)
    (a_last_touch : PySem.W.nsIn K mainGlobals "last_touch" = some (some (.ref f_last_touch)))
    (l_last_touch : K.lookup f_last_touch = some ⟨oc_last_touch, od_last_touch, .func (PySem.W.fnOf "last_touch" "last_touch" (defArgs slast_touch) (defBody slast_touch) (defScope slast_touch) .none kV_last_touch dc_last_touch pm_last_touch an_last_touch cd_last_touch ct_last_touch), sl_last_touch⟩)
    (c_last_touch : PySem.W.codeIn K cd_last_touch "last_touch" = true)
    (k_last_touch : PySem.W.keepIn K (.ref f_last_touch) = true)
    (a_written : PySem.W.nsIn K mainGlobals "written" = some (some (.ref f_written)))
    (l_written : K.lookup f_written = some ⟨oc_written, od_written, .func (PySem.W.fnOf "written" "written" (defArgs swritten) (defBody swritten) (defScope swritten) .none kV_written dc_written pm_written an_written cd_written ct_written), sl_written⟩)
    (c_written : PySem.W.codeIn K cd_written "written" = true)
    (k_written : PySem.W.keepIn K (.ref f_written) = true)
    (a_taken_by : PySem.W.nsIn K mainGlobals "taken_by" = some (some (.ref f_taken_by)))
    (l_taken_by : K.lookup f_taken_by = some ⟨oc_taken_by, od_taken_by, .func (PySem.W.fnOf "taken_by" "taken_by" (defArgs staken_by) (defBody staken_by) (defScope staken_by) .none kV_taken_by dc_taken_by pm_taken_by an_taken_by cd_taken_by ct_taken_by), sl_taken_by⟩)
    (c_taken_by : PySem.W.codeIn K cd_taken_by "taken_by" = true)
    (k_taken_by : PySem.W.keepIn K (.ref f_taken_by) = true)
    (a_form_of : PySem.W.nsIn K mainGlobals "form_of" = some (some (.ref f_form_of)))
    (l_form_of : K.lookup f_form_of = some ⟨oc_form_of, od_form_of, .func (PySem.W.fnOf "form_of" "form_of" (defArgs sform_of) (defBody sform_of) (defScope sform_of) .none kV_form_of dc_form_of pm_form_of an_form_of cd_form_of ct_form_of), sl_form_of⟩)
    (c_form_of : PySem.W.codeIn K cd_form_of "form_of" = true)
    (k_form_of : PySem.W.keepIn K (.ref f_form_of) = true)
    (a_edges_of : PySem.W.nsIn K mainGlobals "edges_of" = some (some (.ref f_edges_of)))
    (l_edges_of : K.lookup f_edges_of = some ⟨oc_edges_of, od_edges_of, .func (PySem.W.fnOf "edges_of" "edges_of" (defArgs sedges_of) (defBody sedges_of) (defScope sedges_of) .none kV_edges_of dc_edges_of pm_edges_of an_edges_of cd_edges_of ct_edges_of), sl_edges_of⟩)
    (c_edges_of : PySem.W.codeIn K cd_edges_of "edges_of" = true)
    (k_edges_of : PySem.W.keepIn K (.ref f_edges_of) = true)
    (a_segments : PySem.W.nsIn K mainGlobals "segments" = some (some (.ref f_segments)))
    (l_segments : K.lookup f_segments = some ⟨oc_segments, od_segments, .func (PySem.W.fnOf "segments" "segments" (defArgs ssegments) (defBody ssegments) (defScope ssegments) .none kV_segments dc_segments pm_segments an_segments cd_segments ct_segments), sl_segments⟩)
    (c_segments : PySem.W.codeIn K cd_segments "segments" = true)
    (k_segments : PySem.W.keepIn K (.ref f_segments) = true)
    (a_formed_segments : PySem.W.nsIn K mainGlobals "formed_segments" = some (some (.ref f_formed_segments)))
    (l_formed_segments : K.lookup f_formed_segments = some ⟨oc_formed_segments, od_formed_segments, .func (PySem.W.fnOf "formed_segments" "formed_segments" (defArgs sformed_segments) (defBody sformed_segments) (defScope sformed_segments) .none kV_formed_segments dc_formed_segments pm_formed_segments an_formed_segments cd_formed_segments ct_formed_segments), sl_formed_segments⟩)
    (c_formed_segments : PySem.W.codeIn K cd_formed_segments "formed_segments" = true)
    (k_formed_segments : PySem.W.keepIn K (.ref f_formed_segments) = true)
    (a_longest : PySem.W.nsIn K mainGlobals "longest" = some (some (.ref f_longest)))
    (l_longest : K.lookup f_longest = some ⟨oc_longest, od_longest, .func (PySem.W.fnOf "longest" "longest" (defArgs slongest) (defBody slongest) (defScope slongest) .none kV_longest dc_longest pm_longest an_longest cd_longest ct_longest), sl_longest⟩)
    (c_longest : PySem.W.codeIn K cd_longest "longest" = true)
    (k_longest : PySem.W.keepIn K (.ref f_longest) = true)
    (a_heard_in : PySem.W.nsIn K mainGlobals "heard_in" = some (some (.ref f_heard_in)))
    (l_heard_in : K.lookup f_heard_in = some ⟨oc_heard_in, od_heard_in, .func (PySem.W.fnOf "heard_in" "heard_in" (defArgs sheard_in) (defBody sheard_in) (defScope sheard_in) .none kV_heard_in dc_heard_in pm_heard_in an_heard_in cd_heard_in ct_heard_in), sl_heard_in⟩)
    (c_heard_in : PySem.W.codeIn K cd_heard_in "heard_in" = true)
    (k_heard_in : PySem.W.keepIn K (.ref f_heard_in) = true)
    (a_kept_in : PySem.W.nsIn K mainGlobals "kept_in" = some (some (.ref f_kept_in)))
    (l_kept_in : K.lookup f_kept_in = some ⟨oc_kept_in, od_kept_in, .func (PySem.W.fnOf "kept_in" "kept_in" (defArgs skept_in) (defBody skept_in) (defScope skept_in) .none kV_kept_in dc_kept_in pm_kept_in an_kept_in cd_kept_in ct_kept_in), sl_kept_in⟩)
    (c_kept_in : PySem.W.codeIn K cd_kept_in "kept_in" = true)
    (k_kept_in : PySem.W.keepIn K (.ref f_kept_in) = true)
    (a_heard : PySem.W.nsIn K mainGlobals "heard" = some (some (.ref f_heard)))
    (l_heard : K.lookup f_heard = some ⟨oc_heard, od_heard, .func (PySem.W.fnOf "heard" "heard" (defArgs sheard) (defBody sheard) (defScope sheard) .none kV_heard dc_heard pm_heard an_heard cd_heard ct_heard), sl_heard⟩)
    (c_heard : PySem.W.codeIn K cd_heard "heard" = true)
    (k_heard : PySem.W.keepIn K (.ref f_heard) = true)
    (a_old_heard : PySem.W.nsIn K mainGlobals "old_heard" = some (some (.ref f_old_heard)))
    (l_old_heard : K.lookup f_old_heard = some ⟨oc_old_heard, od_old_heard, .func (PySem.W.fnOf "old_heard" "old_heard" (defArgs sold_heard) (defBody sold_heard) (defScope sold_heard) .none kV_old_heard dc_old_heard pm_old_heard an_old_heard cd_old_heard ct_old_heard), sl_old_heard⟩)
    (c_old_heard : PySem.W.codeIn K cd_old_heard "old_heard" = true)
    (k_old_heard : PySem.W.keepIn K (.ref f_old_heard) = true)
    (a_kept : PySem.W.nsIn K mainGlobals "kept" = some (some (.ref f_kept)))
    (l_kept : K.lookup f_kept = some ⟨oc_kept, od_kept, .func (PySem.W.fnOf "kept" "kept" (defArgs skept) (defBody skept) (defScope skept) .none kV_kept dc_kept pm_kept an_kept cd_kept ct_kept), sl_kept⟩)
    (c_kept : PySem.W.codeIn K cd_kept "kept" = true)
    (k_kept : PySem.W.keepIn K (.ref f_kept) = true)
    (a_law_purse : PySem.W.nsIn K mainGlobals "_law_purse" = some (some (.ref f_law_purse)))
    (l_law_purse : K.lookup f_law_purse = some ⟨oc_law_purse, od_law_purse, .func (PySem.W.fnOf "_law_purse" "_law_purse" (defArgs slaw_purse) (defBody slaw_purse) (defScope slaw_purse) .none kV_law_purse dc_law_purse pm_law_purse an_law_purse cd_law_purse ct_law_purse), sl_law_purse⟩)
    (c_law_purse : PySem.W.codeIn K cd_law_purse "_law_purse" = true)
    (k_law_purse : PySem.W.keepIn K (.ref f_law_purse) = true)
    (a_law_draw : PySem.W.nsIn K mainGlobals "_law_draw" = some (some (.ref f_law_draw)))
    (l_law_draw : K.lookup f_law_draw = some ⟨oc_law_draw, od_law_draw, .func (PySem.W.fnOf "_law_draw" "_law_draw" (defArgs slaw_draw) (defBody slaw_draw) (defScope slaw_draw) .none kV_law_draw dc_law_draw pm_law_draw an_law_draw cd_law_draw ct_law_draw), sl_law_draw⟩)
    (c_law_draw : PySem.W.codeIn K cd_law_draw "_law_draw" = true)
    (k_law_draw : PySem.W.keepIn K (.ref f_law_draw) = true)
    (a_law_pick : PySem.W.nsIn K mainGlobals "_law_pick" = some (some (.ref f_law_pick)))
    (l_law_pick : K.lookup f_law_pick = some ⟨oc_law_pick, od_law_pick, .func (PySem.W.fnOf "_law_pick" "_law_pick" (defArgs slaw_pick) (defBody slaw_pick) (defScope slaw_pick) .none kV_law_pick dc_law_pick pm_law_pick an_law_pick cd_law_pick ct_law_pick), sl_law_pick⟩)
    (c_law_pick : PySem.W.codeIn K cd_law_pick "_law_pick" = true)
    (k_law_pick : PySem.W.keepIn K (.ref f_law_pick) = true)
    (a_law_low : PySem.W.nsIn K mainGlobals "_law_low" = some (some (.ref f_law_low)))
    (l_law_low : K.lookup f_law_low = some ⟨oc_law_low, od_law_low, .func (PySem.W.fnOf "_law_low" "_law_low" (defArgs slaw_low) (defBody slaw_low) (defScope slaw_low) .none kV_law_low dc_law_low pm_law_low an_law_low cd_law_low ct_law_low), sl_law_low⟩)
    (c_law_low : PySem.W.codeIn K cd_law_low "_law_low" = true)
    (k_law_low : PySem.W.keepIn K (.ref f_law_low) = true)
    (a_law_touched : PySem.W.nsIn K mainGlobals "_law_touched" = some (some (.ref f_law_touched)))
    (l_law_touched : K.lookup f_law_touched = some ⟨oc_law_touched, od_law_touched, .func (PySem.W.fnOf "_law_touched" "_law_touched" (defArgs slaw_touched) (defBody slaw_touched) (defScope slaw_touched) .none kV_law_touched dc_law_touched pm_law_touched an_law_touched cd_law_touched ct_law_touched), sl_law_touched⟩)
    (c_law_touched : PySem.W.codeIn K cd_law_touched "_law_touched" = true)
    (k_law_touched : PySem.W.keepIn K (.ref f_law_touched) = true)
    (a_law_mixed : PySem.W.nsIn K mainGlobals "_law_mixed" = some (some (.ref f_law_mixed)))
    (l_law_mixed : K.lookup f_law_mixed = some ⟨oc_law_mixed, od_law_mixed, .func (PySem.W.fnOf "_law_mixed" "_law_mixed" (defArgs slaw_mixed) (defBody slaw_mixed) (defScope slaw_mixed) .none kV_law_mixed dc_law_mixed pm_law_mixed an_law_mixed cd_law_mixed ct_law_mixed), sl_law_mixed⟩)
    (c_law_mixed : PySem.W.codeIn K cd_law_mixed "_law_mixed" = true)
    (k_law_mixed : PySem.W.keepIn K (.ref f_law_mixed) = true)
    (a_law_at : PySem.W.nsIn K mainGlobals "_law_at" = some (some (.ref f_law_at)))
    (l_law_at : K.lookup f_law_at = some ⟨oc_law_at, od_law_at, .func (PySem.W.fnOf "_law_at" "_law_at" (defArgs slaw_at) (defBody slaw_at) (defScope slaw_at) .none kV_law_at dc_law_at pm_law_at an_law_at cd_law_at ct_law_at), sl_law_at⟩)
    (c_law_at : PySem.W.codeIn K cd_law_at "_law_at" = true)
    (k_law_at : PySem.W.keepIn K (.ref f_law_at) = true)
    (a_law_form : PySem.W.nsIn K mainGlobals "_law_form" = some (some (.ref f_law_form)))
    (l_law_form : K.lookup f_law_form = some ⟨oc_law_form, od_law_form, .func (PySem.W.fnOf "_law_form" "_law_form" (defArgs slaw_form) (defBody slaw_form) (defScope slaw_form) .none kV_law_form dc_law_form pm_law_form an_law_form cd_law_form ct_law_form), sl_law_form⟩)
    (c_law_form : PySem.W.codeIn K cd_law_form "_law_form" = true)
    (k_law_form : PySem.W.keepIn K (.ref f_law_form) = true)
    (a_law_touches : PySem.W.nsIn K mainGlobals "_law_touches" = some (some (.ref f_law_touches)))
    (l_law_touches : K.lookup f_law_touches = some ⟨oc_law_touches, od_law_touches, .func (PySem.W.fnOf "_law_touches" "_law_touches" (defArgs slaw_touches) (defBody slaw_touches) (defScope slaw_touches) .none kV_law_touches dc_law_touches pm_law_touches an_law_touches cd_law_touches ct_law_touches), sl_law_touches⟩)
    (c_law_touches : PySem.W.codeIn K cd_law_touches "_law_touches" = true)
    (k_law_touches : PySem.W.keepIn K (.ref f_law_touches) = true)
    (a_law_pass : PySem.W.nsIn K mainGlobals "_law_pass" = some (some (.ref f_law_pass)))
    (l_law_pass : K.lookup f_law_pass = some ⟨oc_law_pass, od_law_pass, .func (PySem.W.fnOf "_law_pass" "_law_pass" (defArgs slaw_pass) (defBody slaw_pass) (defScope slaw_pass) .none kV_law_pass dc_law_pass pm_law_pass an_law_pass cd_law_pass ct_law_pass), sl_law_pass⟩)
    (c_law_pass : PySem.W.codeIn K cd_law_pass "_law_pass" = true)
    (k_law_pass : PySem.W.keepIn K (.ref f_law_pass) = true)
    (a_law_row : PySem.W.nsIn K mainGlobals "_law_row" = some (some (.ref f_law_row)))
    (l_law_row : K.lookup f_law_row = some ⟨oc_law_row, od_law_row, .func (PySem.W.fnOf "_law_row" "_law_row" (defArgs slaw_row) (defBody slaw_row) (defScope slaw_row) .none kV_law_row dc_law_row pm_law_row an_law_row cd_law_row ct_law_row), sl_law_row⟩)
    (c_law_row : PySem.W.codeIn K cd_law_row "_law_row" = true)
    (k_law_row : PySem.W.keepIn K (.ref f_law_row) = true)
    (a_law_far_row : PySem.W.nsIn K mainGlobals "_law_far_row" = some (some (.ref f_law_far_row)))
    (l_law_far_row : K.lookup f_law_far_row = some ⟨oc_law_far_row, od_law_far_row, .func (PySem.W.fnOf "_law_far_row" "_law_far_row" (defArgs slaw_far_row) (defBody slaw_far_row) (defScope slaw_far_row) .none kV_law_far_row dc_law_far_row pm_law_far_row an_law_far_row cd_law_far_row ct_law_far_row), sl_law_far_row⟩)
    (c_law_far_row : PySem.W.codeIn K cd_law_far_row "_law_far_row" = true)
    (k_law_far_row : PySem.W.keepIn K (.ref f_law_far_row) = true)
    (a_law_spots : PySem.W.nsIn K mainGlobals "_law_spots" = some (some (.ref f_law_spots)))
    (l_law_spots : K.lookup f_law_spots = some ⟨oc_law_spots, od_law_spots, .func (PySem.W.fnOf "_law_spots" "_law_spots" (defArgs slaw_spots) (defBody slaw_spots) (defScope slaw_spots) .none kV_law_spots dc_law_spots pm_law_spots an_law_spots cd_law_spots ct_law_spots), sl_law_spots⟩)
    (c_law_spots : PySem.W.codeIn K cd_law_spots "_law_spots" = true)
    (k_law_spots : PySem.W.keepIn K (.ref f_law_spots) = true)
    (a_law_is_in : PySem.W.nsIn K mainGlobals "_law_is_in" = some (some (.ref f_law_is_in)))
    (l_law_is_in : K.lookup f_law_is_in = some ⟨oc_law_is_in, od_law_is_in, .func (PySem.W.fnOf "_law_is_in" "_law_is_in" (defArgs slaw_is_in) (defBody slaw_is_in) (defScope slaw_is_in) .none kV_law_is_in dc_law_is_in pm_law_is_in an_law_is_in cd_law_is_in ct_law_is_in), sl_law_is_in⟩)
    (c_law_is_in : PySem.W.codeIn K cd_law_is_in "_law_is_in" = true)
    (k_law_is_in : PySem.W.keepIn K (.ref f_law_is_in) = true)
    (a_law_is_apart : PySem.W.nsIn K mainGlobals "_law_is_apart" = some (some (.ref f_law_is_apart)))
    (l_law_is_apart : K.lookup f_law_is_apart = some ⟨oc_law_is_apart, od_law_is_apart, .func (PySem.W.fnOf "_law_is_apart" "_law_is_apart" (defArgs slaw_is_apart) (defBody slaw_is_apart) (defScope slaw_is_apart) .none kV_law_is_apart dc_law_is_apart pm_law_is_apart an_law_is_apart cd_law_is_apart ct_law_is_apart), sl_law_is_apart⟩)
    (c_law_is_apart : PySem.W.codeIn K cd_law_is_apart "_law_is_apart" = true)
    (k_law_is_apart : PySem.W.keepIn K (.ref f_law_is_apart) = true)
    (a_law_is_touched : PySem.W.nsIn K mainGlobals "_law_is_touched" = some (some (.ref f_law_is_touched)))
    (l_law_is_touched : K.lookup f_law_is_touched = some ⟨oc_law_is_touched, od_law_is_touched, .func (PySem.W.fnOf "_law_is_touched" "_law_is_touched" (defArgs slaw_is_touched) (defBody slaw_is_touched) (defScope slaw_is_touched) .none kV_law_is_touched dc_law_is_touched pm_law_is_touched an_law_is_touched cd_law_is_touched ct_law_is_touched), sl_law_is_touched⟩)
    (c_law_is_touched : PySem.W.codeIn K cd_law_is_touched "_law_is_touched" = true)
    (k_law_is_touched : PySem.W.keepIn K (.ref f_law_is_touched) = true)
    (a_law_right : PySem.W.nsIn K mainGlobals "_law_right" = some (some (.ref f_law_right)))
    (l_law_right : K.lookup f_law_right = some ⟨oc_law_right, od_law_right, .func (PySem.W.fnOf "_law_right" "_law_right" (defArgs slaw_right) (defBody slaw_right) (defScope slaw_right) .none kV_law_right dc_law_right pm_law_right an_law_right cd_law_right ct_law_right), sl_law_right⟩)
    (c_law_right : PySem.W.codeIn K cd_law_right "_law_right" = true)
    (k_law_right : PySem.W.keepIn K (.ref f_law_right) = true)
    (a_law : PySem.W.nsIn K mainGlobals "law" = some (some (.ref f_law)))
    (l_law : K.lookup f_law = some ⟨oc_law, od_law, .func (PySem.W.fnOf "law" "law" (defArgs slaw) (defBody slaw) (defScope slaw) .none kV_law dc_law pm_law an_law cd_law ct_law), sl_law⟩)
    (c_law : PySem.W.codeIn K cd_law "law" = true)
    (k_law : PySem.W.keepIn K (.ref f_law) = true)
    (a_LETTERS : PySem.W.nsIn K mainGlobals "LETTERS" = some (some (.str "abcdefghijklmnopqrstuvwxyz" t_LETTERS)))
    (a_DIGITS : PySem.W.nsIn K mainGlobals "DIGITS" = some (some (.str "0123456789" t_DIGITS)))
    (a_MOST_SIGNS : PySem.W.nsIn K mainGlobals "MOST_SIGNS" = some (some (.int 8 t_MOST_SIGNS)))
    (a_MOST_LENGTH : PySem.W.nsIn K mainGlobals "MOST_LENGTH" = some (some (.int 1000000000000 t_MOST_LENGTH)))
    (a_MOST_PASSES : PySem.W.nsIn K mainGlobals "MOST_PASSES" = some (some (.int 8 t_MOST_PASSES)))
    (a_MOST_TOUCHES : PySem.W.nsIn K mainGlobals "MOST_TOUCHES" = some (some (.int 6 t_MOST_TOUCHES)))
    (a_MOST_GLIDE : PySem.W.nsIn K mainGlobals "MOST_GLIDE" = some (some (.int 100 t_MOST_GLIDE)))
    (a_OLD : PySem.W.nsIn K mainGlobals "OLD" = some (some (.str "old" t_OLD)))
    (b_MODES : PySem.W.nsIn K mainGlobals "MODES" = some (some (.ref a_MODES)))
    (l_MODES : K.lookup a_MODES = some ⟨.type "tuple", o_MODES, .seq #[.str "write" t0_MODES, .str "latch" t1_MODES, .str "touch" t2_MODES, .str "trim" t3_MODES] n_MODES, s_MODES⟩)
    (b_TAILS : PySem.W.nsIn K mainGlobals "TAILS" = some (some (.ref a_TAILS)))
    (l_TAILS : K.lookup a_TAILS = some ⟨.type "tuple", o_TAILS, .seq #[.str "stop" t0_TAILS, .str "on" t1_TAILS] n_TAILS, s_TAILS⟩)
    (a_SIZE : PySem.W.nsIn K mainGlobals "SIZE" = some (some (.int 7 t_SIZE)))
    (b_NOTHING : PySem.W.nsIn K mainGlobals "NOTHING" = some (some (.ref a_NOTHING)))
    (l_NOTHING : K.lookup a_NOTHING = some ⟨.type "tuple", o_NOTHING, .seq #[.int 0 t0_NOTHING, .int 1 t1_NOTHING] n_NOTHING, s_NOTHING⟩)
    (b_WHOLE : PySem.W.nsIn K mainGlobals "WHOLE" = some (some (.ref a_WHOLE)))
    (l_WHOLE : K.lookup a_WHOLE = some ⟨.type "tuple", o_WHOLE, .seq #[.int 1 t0_WHOLE, .int 1 t1_WHOLE] n_WHOLE, s_WHOLE⟩)
    (b_GLIDING : PySem.W.nsIn K mainGlobals "GLIDING" = some (some (.ref a_GLIDING)))
    (l_GLIDING : K.lookup a_GLIDING = some ⟨.type "tuple", o_GLIDING, .seq #[.str "touch" t0_GLIDING, .str "trim" t1_GLIDING] n_GLIDING, s_GLIDING⟩)
    (z_len : PySem.W.nsIn K mainGlobals "len" = some none)
    (z_isinstance : PySem.W.nsIn K mainGlobals "isinstance" = some none)
    (z_int : PySem.W.nsIn K mainGlobals "int" = some none)
    (z_bool : PySem.W.nsIn K mainGlobals "bool" = some none)
    (z_str : PySem.W.nsIn K mainGlobals "str" = some none)
    (z_tuple : PySem.W.nsIn K mainGlobals "tuple" = some none)
    (z_list : PySem.W.nsIn K mainGlobals "list" = some none)
    (z_all : PySem.W.nsIn K mainGlobals "all" = some none)
    (z_range : PySem.W.nsIn K mainGlobals "range" = some none)
    (z_enumerate : PySem.W.nsIn K mainGlobals "enumerate" = some none)
    (z_zip : PySem.W.nsIn K mainGlobals "zip" = some none)
    (z_abs : PySem.W.nsIn K mainGlobals "abs" = some none)
    (z_divmod : PySem.W.nsIn K mainGlobals "divmod" = some none)
    (z_max : PySem.W.nsIn K mainGlobals "max" = some none)
    (z_min : PySem.W.nsIn K mainGlobals "min" = some none)
    (z_repr : PySem.W.nsIn K mainGlobals "repr" = some none)
    (z_sorted : PySem.W.nsIn K mainGlobals "sorted" = some none)
    (z_set : PySem.W.nsIn K mainGlobals "set" = some none)
    (z_gcd : PySem.W.nsIn K mainGlobals "gcd" = some (some (.builtin "math.gcd"))) :
    ∃ T : Txt pr K mg, T.law.f = f_law := by
  have F_is_integer := fun_mk (st := sis_integer) l_is_integer c_is_integer k_is_integer
  have F_is_between := fun_mk (st := sis_between) l_is_between c_is_between k_is_between
  have F_is_name := fun_mk (st := sis_name) l_is_name c_is_name k_is_name
  have F_is_word := fun_mk (st := sis_word) l_is_word c_is_word k_is_word
  have F_is_stretch := fun_mk (st := sis_stretch) l_is_stretch c_is_stretch k_is_stretch
  have F_is_length := fun_mk (st := sis_length) l_is_length c_is_length k_is_length
  have F_are_touches := fun_mk (st := sare_touches) l_are_touches c_are_touches k_are_touches
  have F_is_pass := fun_mk (st := sis_pass) l_is_pass c_is_pass k_is_pass
  have F_first_wrong := fun_mk (st := sfirst_wrong) l_first_wrong c_first_wrong k_first_wrong
  have F_place_of := fun_mk (st := splace_of) l_place_of c_place_of k_place_of
  have F_Track_init : FunD K "__init__" "Track.__init__" (defArgs sTrack_init) (defBody sTrack_init) (defScope sTrack_init) [(V.ref e_Track_init)] [] f_Track_init (PySem.W.fnOf "__init__" "Track.__init__" (defArgs sTrack_init) (defBody sTrack_init) (defScope sTrack_init) (.ref T_Track_init) kV_Track_init dc_Track_init pm_Track_init an_Track_init cd_Track_init ct_Track_init) := ⟨⟨oc_Track_init, od_Track_init, _, kV_Track_init, dc_Track_init, pm_Track_init, an_Track_init, cd_Track_init, ct_Track_init, sl_Track_init, rfl, l_Track_init, c_Track_init, .inr ⟨by simp, T_Track_init, _, [Value.ref e_Track_init], tn_Track_init, rfl, t_Track_init, rfl, .cons rfl .nil⟩, .inl rfl⟩, k_Track_init⟩
  have F_Track_length := fun_mk (st := sTrack_length) l_Track_length c_Track_length k_Track_length
  have F_Track_passes := fun_mk (st := sTrack_passes) l_Track_passes c_Track_passes k_Track_passes
  have F_Track_contains := fun_mk (st := sTrack_contains) l_Track_contains c_Track_contains k_Track_contains
  have F_check_track := fun_mk (st := scheck_track) l_check_track c_check_track k_check_track
  have F_check_name := fun_mk (st := scheck_name) l_check_name c_check_name k_check_name
  have F_lowest := fun_mk (st := slowest) l_lowest c_lowest k_lowest
  have F_times := fun_mk (st := stimes) l_times c_times k_times
  have F_end_of := fun_mk (st := send_of) l_end_of c_end_of k_end_of
  have F_last_touch := fun_mk (st := slast_touch) l_last_touch c_last_touch k_last_touch
  have F_written := fun_mk (st := swritten) l_written c_written k_written
  have F_taken_by := fun_mk (st := staken_by) l_taken_by c_taken_by k_taken_by
  have F_form_of := fun_mk (st := sform_of) l_form_of c_form_of k_form_of
  have F_edges_of := fun_mk (st := sedges_of) l_edges_of c_edges_of k_edges_of
  have F_segments := fun_mk (st := ssegments) l_segments c_segments k_segments
  have F_formed_segments := fun_mk (st := sformed_segments) l_formed_segments c_formed_segments k_formed_segments
  have F_longest := fun_mk (st := slongest) l_longest c_longest k_longest
  have F_heard_in := fun_mk (st := sheard_in) l_heard_in c_heard_in k_heard_in
  have F_kept_in := fun_mk (st := skept_in) l_kept_in c_kept_in k_kept_in
  have F_heard := fun_mk (st := sheard) l_heard c_heard k_heard
  have F_old_heard := fun_mk (st := sold_heard) l_old_heard c_old_heard k_old_heard
  have F_kept := fun_mk (st := skept) l_kept c_kept k_kept
  have F_law_purse := fun_mk (st := slaw_purse) l_law_purse c_law_purse k_law_purse
  have F_law_draw := fun_mk (st := slaw_draw) l_law_draw c_law_draw k_law_draw
  have F_law_pick := fun_mk (st := slaw_pick) l_law_pick c_law_pick k_law_pick
  have F_law_low := fun_mk (st := slaw_low) l_law_low c_law_low k_law_low
  have F_law_touched := fun_mk (st := slaw_touched) l_law_touched c_law_touched k_law_touched
  have F_law_mixed := fun_mk (st := slaw_mixed) l_law_mixed c_law_mixed k_law_mixed
  have F_law_at := fun_mk (st := slaw_at) l_law_at c_law_at k_law_at
  have F_law_form := fun_mk (st := slaw_form) l_law_form c_law_form k_law_form
  have F_law_touches := fun_mk (st := slaw_touches) l_law_touches c_law_touches k_law_touches
  have F_law_pass := fun_mk (st := slaw_pass) l_law_pass c_law_pass k_law_pass
  have F_law_row := fun_mk (st := slaw_row) l_law_row c_law_row k_law_row
  have F_law_far_row := fun_mk (st := slaw_far_row) l_law_far_row c_law_far_row k_law_far_row
  have F_law_spots := fun_mk (st := slaw_spots) l_law_spots c_law_spots k_law_spots
  have F_law_is_in := fun_mk (st := slaw_is_in) l_law_is_in c_law_is_in k_law_is_in
  have F_law_is_apart := fun_mk (st := slaw_is_apart) l_law_is_apart c_law_is_apart k_law_is_apart
  have F_law_is_touched := fun_mk (st := slaw_is_touched) l_law_is_touched c_law_is_touched k_law_is_touched
  have F_law_right := fun_mk (st := slaw_right) l_law_right c_law_right k_law_right
  have F_law := fun_mk (st := slaw) l_law c_law k_law
  refine ⟨{
      C := C,
      gC := PySem.W.mg_of X G aC,
      cl := ⟨cpg, chd, cpo, csa⟩,
      kC := ckc,
      makes := cmk,
      isC := ⟨⟨cpg, chd, cpo, csa⟩, cca, ccn, cct, ccm⟩,
      n_length := na_length,
      n_passes := na_passes,
      is_integer := { f := f_is_integer, fd := _, F := F_is_integer, g := PySem.W.mg_of X G a_is_integer, b := F_is_integer.binds (ps := ["value"]) fun _ _ _ _ _ _ us hl => match us, hl with | [_], _ => rfl },
      is_between := { f := f_is_between, fd := _, F := F_is_between, g := PySem.W.mg_of X G a_is_between, b := F_is_between.binds (ps := ["value", "low", "high"]) fun _ _ _ _ _ _ us hl => match us, hl with | [_, _, _], _ => rfl },
      is_name := { f := f_is_name, fd := _, F := F_is_name, g := PySem.W.mg_of X G a_is_name, b := F_is_name.binds (ps := ["value"]) fun _ _ _ _ _ _ us hl => match us, hl with | [_], _ => rfl },
      is_word := { f := f_is_word, fd := _, F := F_is_word, g := PySem.W.mg_of X G a_is_word, b := F_is_word.binds (ps := ["value", "words"]) fun _ _ _ _ _ _ us hl => match us, hl with | [_, _], _ => rfl },
      is_stretch := { f := f_is_stretch, fd := _, F := F_is_stretch, g := PySem.W.mg_of X G a_is_stretch, b := F_is_stretch.binds (ps := ["value", "low", "high"]) fun _ _ _ _ _ _ us hl => match us, hl with | [_, _, _], _ => rfl },
      is_length := { f := f_is_length, fd := _, F := F_is_length, g := PySem.W.mg_of X G a_is_length, b := F_is_length.binds (ps := ["value"]) fun _ _ _ _ _ _ us hl => match us, hl with | [_], _ => rfl },
      are_touches := { f := f_are_touches, fd := _, F := F_are_touches, g := PySem.W.mg_of X G a_are_touches, b := F_are_touches.binds (ps := ["value", "first", "last"]) fun _ _ _ _ _ _ us hl => match us, hl with | [_, _, _], _ => rfl },
      is_pass := { f := f_is_pass, fd := _, F := F_is_pass, g := PySem.W.mg_of X G a_is_pass, b := F_is_pass.binds (ps := ["value", "length"]) fun _ _ _ _ _ _ us hl => match us, hl with | [_, _], _ => rfl },
      first_wrong := { f := f_first_wrong, fd := _, F := F_first_wrong, g := PySem.W.mg_of X G a_first_wrong, b := F_first_wrong.binds (ps := ["passes", "length"]) fun _ _ _ _ _ _ us hl => match us, hl with | [_, _], _ => rfl },
      place_of := { f := f_place_of, fd := _, F := F_place_of, g := PySem.W.mg_of X G a_place_of, b := F_place_of.binds (ps := ["passes", "name"]) fun _ _ _ _ _ _ us hl => match us, hl with | [_, _], _ => rfl },
      e_Track_init := e_Track_init,
      et_Track_init := fun H => .inr ⟨_, #[], en_Track_init, e_Track_init_at, rfl, rfl, Nat.zero_le _, .nil⟩,
      Track_init := { f := f_Track_init, fd := _, F := F_Track_init, m := ⟨a_Track_init, i_Track_init, k_Track_init⟩, b := (match F_Track_init.binds1 3 1 (by simp) rfl fun _ _ _ _ _ _ _ us its hl hi => match us, its, hl, hi with | [_, _, _], [_], _, _ => ⟨_, rfl, rfl⟩ with | ⟨_, .nil, h⟩ => h), b1 := F_Track_init.binds1 2 0 (by simp) rfl fun _ _ _ _ _ _ _ us its hl hi => match us, its, hl, hi with | [_, _], [_], _, _ => ⟨_, rfl, rfl⟩ },
      Track_length := { f := f_Track_length, fd := _, F := F_Track_length, p := p_Track_length, P := ⟨a_Track_length, pg_Track_length, pt_Track_length, _, pr_Track_length_at⟩, b := F_Track_length.binds (ps := ["self"]) fun _ _ _ _ _ _ us hl => match us, hl with | [_], _ => rfl },
      Track_passes := { f := f_Track_passes, fd := _, F := F_Track_passes, p := p_Track_passes, P := ⟨a_Track_passes, pg_Track_passes, pt_Track_passes, _, pr_Track_passes_at⟩, b := F_Track_passes.binds (ps := ["self"]) fun _ _ _ _ _ _ us hl => match us, hl with | [_], _ => rfl },
      Track_contains := { f := f_Track_contains, fd := _, F := F_Track_contains, m := ⟨a_Track_contains, i_Track_contains, k_Track_contains⟩, b := F_Track_contains.binds (ps := ["self", "x"]) fun _ _ _ _ _ _ us hl => match us, hl with | [_, _], _ => rfl },
      check_track := { f := f_check_track, fd := _, F := F_check_track, g := PySem.W.mg_of X G a_check_track, b := F_check_track.binds (ps := ["value"]) fun _ _ _ _ _ _ us hl => match us, hl with | [_], _ => rfl },
      check_name := { f := f_check_name, fd := _, F := F_check_name, g := PySem.W.mg_of X G a_check_name, b := F_check_name.binds (ps := ["track", "value"]) fun _ _ _ _ _ _ us hl => match us, hl with | [_, _], _ => rfl },
      lowest := { f := f_lowest, fd := _, F := F_lowest, g := PySem.W.mg_of X G a_lowest, b := F_lowest.binds (ps := ["top", "bottom"]) fun _ _ _ _ _ _ us hl => match us, hl with | [_, _], _ => rfl },
      times := { f := f_times, fd := _, F := F_times, g := PySem.W.mg_of X G a_times, b := F_times.binds (ps := ["one", "other"]) fun _ _ _ _ _ _ us hl => match us, hl with | [_, _], _ => rfl },
      end_of := { f := f_end_of, fd := _, F := F_end_of, g := PySem.W.mg_of X G a_end_of, b := F_end_of.binds (ps := ["one_pass", "length"]) fun _ _ _ _ _ _ us hl => match us, hl with | [_, _], _ => rfl },
      last_touch := { f := f_last_touch, fd := _, F := F_last_touch, g := PySem.W.mg_of X G a_last_touch, b := F_last_touch.binds (ps := ["touches", "tick"]) fun _ _ _ _ _ _ us hl => match us, hl with | [_, _], _ => rfl },
      written := { f := f_written, fd := _, F := F_written, g := PySem.W.mg_of X G a_written, b := F_written.binds (ps := ["one_pass", "length", "tick"]) fun _ _ _ _ _ _ us hl => match us, hl with | [_, _, _], _ => rfl },
      taken_by := { f := f_taken_by, fd := _, F := F_taken_by, g := PySem.W.mg_of X G a_taken_by, b := F_taken_by.binds (ps := ["one_pass", "length", "left"]) fun _ _ _ _ _ _ us hl => match us, hl with | [_, _, _], _ => rfl },
      form_of := { f := f_form_of, fd := _, F := F_form_of, g := PySem.W.mg_of X G a_form_of, b := F_form_of.binds (ps := ["passes", "length", "tick"]) fun _ _ _ _ _ _ us hl => match us, hl with | [_, _, _], _ => rfl },
      edges_of := { f := f_edges_of, fd := _, F := F_edges_of, g := PySem.W.mg_of X G a_edges_of, b := F_edges_of.binds (ps := ["one_pass", "length"]) fun _ _ _ _ _ _ us hl => match us, hl with | [_, _], _ => rfl },
      segments := { f := f_segments, fd := _, F := F_segments, g := PySem.W.mg_of X G a_segments, b := F_segments.binds (ps := ["length", "passes"]) fun _ _ _ _ _ _ us hl => match us, hl with | [_, _], _ => rfl },
      formed_segments := { f := f_formed_segments, fd := _, F := F_formed_segments, g := PySem.W.mg_of X G a_formed_segments, b := F_formed_segments.binds (ps := ["track"]) fun _ _ _ _ _ _ us hl => match us, hl with | [_], _ => rfl },
      longest := { f := f_longest, fd := _, F := F_longest, g := PySem.W.mg_of X G a_longest, b := F_longest.binds (ps := ["stretches"]) fun _ _ _ _ _ _ us hl => match us, hl with | [_], _ => rfl },
      heard_in := { f := f_heard_in, fd := _, F := F_heard_in, g := PySem.W.mg_of X G a_heard_in, b := F_heard_in.binds (ps := ["rows", "source"]) fun _ _ _ _ _ _ us hl => match us, hl with | [_, _], _ => rfl },
      kept_in := { f := f_kept_in, fd := _, F := F_kept_in, g := PySem.W.mg_of X G a_kept_in, b := F_kept_in.binds (ps := ["rows"]) fun _ _ _ _ _ _ us hl => match us, hl with | [_], _ => rfl },
      heard := { f := f_heard, fd := _, F := F_heard, g := PySem.W.mg_of X G a_heard, b := F_heard.binds (ps := ["track", "name"]) fun _ _ _ _ _ _ us hl => match us, hl with | [_, _], _ => rfl },
      old_heard := { f := f_old_heard, fd := _, F := F_old_heard, g := PySem.W.mg_of X G a_old_heard, b := F_old_heard.binds (ps := ["track"]) fun _ _ _ _ _ _ us hl => match us, hl with | [_], _ => rfl },
      kept := { f := f_kept, fd := _, F := F_kept, g := PySem.W.mg_of X G a_kept, b := F_kept.binds (ps := ["track"]) fun _ _ _ _ _ _ us hl => match us, hl with | [_], _ => rfl },
      law_purse := { f := f_law_purse, fd := _, F := F_law_purse, g := PySem.W.mg_of X G a_law_purse, b := F_law_purse.binds (ps := ["script", "k"]) fun _ _ _ _ _ _ us hl => match us, hl with | [_, _], _ => rfl },
      law_draw := { f := f_law_draw, fd := _, F := F_law_draw, g := PySem.W.mg_of X G a_law_draw, b := F_law_draw.binds (ps := ["purse", "size"]) fun _ _ _ _ _ _ us hl => match us, hl with | [_, _], _ => rfl },
      law_pick := { f := f_law_pick, fd := _, F := F_law_pick, g := PySem.W.mg_of X G a_law_pick, b := F_law_pick.binds (ps := ["purse", "menu"]) fun _ _ _ _ _ _ us hl => match us, hl with | [_, _], _ => rfl },
      law_low := { f := f_law_low, fd := _, F := F_law_low, g := PySem.W.mg_of X G a_law_low, b := F_law_low.binds (ps := ["top", "bottom"]) fun _ _ _ _ _ _ us hl => match us, hl with | [_, _], _ => rfl },
      law_touched := { f := f_law_touched, fd := _, F := F_law_touched, g := PySem.W.mg_of X G a_law_touched, b := F_law_touched.binds (ps := ["touches_here", "tick_here"]) fun _ _ _ _ _ _ us hl => match us, hl with | [_, _], _ => rfl },
      law_mixed := { f := f_law_mixed, fd := _, F := F_law_mixed, g := PySem.W.mg_of X G a_law_mixed, b := F_law_mixed.binds (ps := ["ahead", "name_here", "spot", "share", "rest"]) fun _ _ _ _ _ _ us hl => match us, hl with | [_, _, _, _, _], _ => rfl },
      law_at := { f := f_law_at, fd := _, F := F_law_at, g := PySem.W.mg_of X G a_law_at, b := F_law_at.binds (ps := ["long", "some", "tick_here"]) fun _ _ _ _ _ _ us hl => match us, hl with | [_, _, _], _ => rfl },
      law_form := { f := f_law_form, fd := _, F := F_law_form, g := PySem.W.mg_of X G a_law_form, b := F_law_form.binds (ps := ["long", "some", "tick_here"]) fun _ _ _ _ _ _ us hl => match us, hl with | [_, _, _], _ => rfl },
      law_touches := { f := f_law_touches, fd := _, F := F_law_touches, g := PySem.W.mg_of X G a_law_touches, b := F_law_touches.binds (ps := ["purse", "first", "last", "many", "wide"]) fun _ _ _ _ _ _ us hl => match us, hl with | [_, _, _, _, _], _ => rfl },
      law_pass := { f := f_law_pass, fd := _, F := F_law_pass, g := PySem.W.mg_of X G a_law_pass, b := F_law_pass.binds (ps := ["purse", "name_here", "long", "wide"]) fun _ _ _ _ _ _ us hl => match us, hl with | [_, _, _, _], _ => rfl },
      law_row := { f := f_law_row, fd := _, F := F_law_row, g := PySem.W.mg_of X G a_law_row, b := F_law_row.binds (ps := ["purse", "long", "many", "wide"]) fun _ _ _ _ _ _ us hl => match us, hl with | [_, _, _, _], _ => rfl },
      law_far_row := { f := f_law_far_row, fd := _, F := F_law_far_row, g := PySem.W.mg_of X G a_law_far_row, b := F_law_far_row.binds (ps := ["purse"]) fun _ _ _ _ _ _ us hl => match us, hl with | [_], _ => rfl },
      law_spots := { f := f_law_spots, fd := _, F := F_law_spots, g := PySem.W.mg_of X G a_law_spots, b := F_law_spots.binds (ps := ["purse", "long", "some"]) fun _ _ _ _ _ _ us hl => match us, hl with | [_, _, _], _ => rfl },
      law_is_in := { f := f_law_is_in, fd := _, F := F_law_is_in, g := PySem.W.mg_of X G a_law_is_in, b := F_law_is_in.binds (ps := ["tick_here", "told"]) fun _ _ _ _ _ _ us hl => match us, hl with | [_, _], _ => rfl },
      law_is_apart := { f := f_law_is_apart, fd := _, F := F_law_is_apart, g := PySem.W.mg_of X G a_law_is_apart, b := F_law_is_apart.binds (ps := ["long", "told"]) fun _ _ _ _ _ _ us hl => match us, hl with | [_, _], _ => rfl },
      law_is_touched := { f := f_law_is_touched, fd := _, F := F_law_is_touched, g := PySem.W.mg_of X G a_law_is_touched, b := F_law_is_touched.binds (ps := ["one_here", "told"]) fun _ _ _ _ _ _ us hl => match us, hl with | [_, _], _ => rfl },
      law_right := { f := f_law_right, fd := _, F := F_law_right, g := PySem.W.mg_of X G a_law_right, b := F_law_right.binds (ps := ["purse"]) fun _ _ _ _ _ _ us hl => match us, hl with | [_], _ => rfl },
      law := { f := f_law, fd := _, F := F_law, g := PySem.W.mg_of X G a_law, b := F_law.binds (ps := ["script"]) fun _ _ _ _ _ _ us hl => match us, hl with | [_], _ => rfl },
      c_LETTERS := ⟨t_LETTERS, PySem.W.mg_of X G a_LETTERS⟩,
      c_DIGITS := ⟨t_DIGITS, PySem.W.mg_of X G a_DIGITS⟩,
      c_MOST_SIGNS := ⟨t_MOST_SIGNS, PySem.W.mg_of X G a_MOST_SIGNS⟩,
      c_MOST_LENGTH := ⟨t_MOST_LENGTH, PySem.W.mg_of X G a_MOST_LENGTH⟩,
      c_MOST_PASSES := ⟨t_MOST_PASSES, PySem.W.mg_of X G a_MOST_PASSES⟩,
      c_MOST_TOUCHES := ⟨t_MOST_TOUCHES, PySem.W.mg_of X G a_MOST_TOUCHES⟩,
      c_MOST_GLIDE := ⟨t_MOST_GLIDE, PySem.W.mg_of X G a_MOST_GLIDE⟩,
      c_OLD := ⟨t_OLD, PySem.W.mg_of X G a_OLD⟩,
      c_MODES := ⟨a_MODES, PySem.W.mg_of X G b_MODES, fun H => .inr ⟨_, _, n_MODES, l_MODES, rfl, rfl, by show 4 ≤ sizeLine; decide, .cons ⟨_, rfl⟩ (.cons ⟨_, rfl⟩ (.cons ⟨_, rfl⟩ (.cons ⟨_, rfl⟩ (.nil))))⟩⟩,
      c_TAILS := ⟨a_TAILS, PySem.W.mg_of X G b_TAILS, fun H => .inr ⟨_, _, n_TAILS, l_TAILS, rfl, rfl, by show 2 ≤ sizeLine; decide, .cons ⟨_, rfl⟩ (.cons ⟨_, rfl⟩ (.nil))⟩⟩,
      c_SIZE := ⟨t_SIZE, PySem.W.mg_of X G a_SIZE⟩,
      c_NOTHING := ⟨a_NOTHING, PySem.W.mg_of X G b_NOTHING, fun H => .inr ⟨_, _, n_NOTHING, l_NOTHING, rfl, rfl, by show 2 ≤ sizeLine; decide, .cons ⟨_, rfl⟩ (.cons ⟨_, rfl⟩ (.nil))⟩⟩,
      c_WHOLE := ⟨a_WHOLE, PySem.W.mg_of X G b_WHOLE, fun H => .inr ⟨_, _, n_WHOLE, l_WHOLE, rfl, rfl, by show 2 ≤ sizeLine; decide, .cons ⟨_, rfl⟩ (.cons ⟨_, rfl⟩ (.nil))⟩⟩,
      c_GLIDING := ⟨a_GLIDING, PySem.W.mg_of X G b_GLIDING, fun H => .inr ⟨_, _, n_GLIDING, l_GLIDING, rfl, rfl, by show 2 ≤ sizeLine; decide, .cons ⟨_, rfl⟩ (.cons ⟨_, rfl⟩ (.nil))⟩⟩,
      z_len := PySem.W.mg_none_of X G z_len,
      z_isinstance := PySem.W.mg_none_of X G z_isinstance,
      z_int := PySem.W.mg_none_of X G z_int,
      z_bool := PySem.W.mg_none_of X G z_bool,
      z_str := PySem.W.mg_none_of X G z_str,
      z_tuple := PySem.W.mg_none_of X G z_tuple,
      z_list := PySem.W.mg_none_of X G z_list,
      z_all := PySem.W.mg_none_of X G z_all,
      z_range := PySem.W.mg_none_of X G z_range,
      z_enumerate := PySem.W.mg_none_of X G z_enumerate,
      z_zip := PySem.W.mg_none_of X G z_zip,
      z_abs := PySem.W.mg_none_of X G z_abs,
      z_divmod := PySem.W.mg_none_of X G z_divmod,
      z_max := PySem.W.mg_none_of X G z_max,
      z_min := PySem.W.mg_none_of X G z_min,
      z_repr := PySem.W.mg_none_of X G z_repr,
      z_sorted := PySem.W.mg_none_of X G z_sorted,
      z_set := PySem.W.mg_none_of X G z_set,
      g_gcd := PySem.W.mg_of X G z_gcd }, rfl⟩
end My
namespace My
open PySem PySem.Spec PyProof.Rows L2 DL
def B_law_draw (C : Addr) : Mo Fl := (sSeq (sPar [2, 3] [false, false] (aCons (mIxV 0 (mC (.int 1))) (aCons (mOp dAdd (mOp dMod (mFn dInt (aCons (mIxV 0 (mC (.int 1))) aNil)) (mC (.int 40009))) (mC (.int 20021))) aNil)))
    (sSeq (sAsg (mOp dAdd (mIxV 0 (mC (.int 2))) (mC (.int 1))) (gPut 0 (mC (.int 2))))
    (sSeq (sAsg (mOp dMod (mFn dInt (aCons (mOp dAdd (mOp dAdd (mOp dMul (mVar 2) (mVar 3)) (mOp dMul (mC (.int 60013)) (mIxV 0 (mC (.int 2))))) (mC (.int 11))) aNil)) (mC (.int 2147483629))) (gPut 0 (mC (.int 1))))
    (sSeq (sIf (mTst (mOp dGt (mIxV 0 (mC (.int 0))) (mC (.int 0)))) (sSeq (sAsg (mFn dDivmod (aCons (mIxV 0 (mC (.int 0))) (aCons (mVar 1) aNil))) (gTp 2 (gsCons (gPut 0 (mC (.int 0))) (gsCons (gNm 4) gsNil))))
    (sRet (mVar 4))) sNx)
    (sRet (mOp dMod (mFn dInt (aCons (mOp dDiv (mIxV 0 (mC (.int 1))) (mC (.int 89))) aNil)) (mVar 1)))))))
def F_law_draw (C : Addr) : D → List D → Option (D × D) := runO 2 3 (B_law_draw C)
def B_law_pick (C : Addr) : Mo Fl := (sRet (mOp dIx (mVar 1) (mCallO (F_law_draw C) 0 (aCons (mFn dLen (aCons (mVar 1) aNil)) aNil))))
def F_law_pick (C : Addr) : D → List D → Option (D × D) := runO 2 0 (B_law_pick C)
def B_law_touches (C : Addr) : Mo Fl := (sSeq (sPar [5, 6] [true, false] (aCons (mLst aNil) (aCons (mVar 1) aNil)))
    (sSeq (sFor (iFn rng1? (aCons (mVar 3) aNil)) (gNm 7) (sSeq (sSet 8 (mOp dAdd (mVar 6) (mOp dMul (mCallO (F_law_draw C) 0 (aCons (mC (.int 4)) aNil)) (mCallO (F_law_pick C) 0 (aCons (mLst (aCons (mC (.int 1)) (aCons (mC (.int 1)) (aCons (mVar 4) aNil)))) aNil)))))
    (sSeq (sSet 9 (mOp dAdd (mOp dAdd (mVar 8) (mC (.int 1))) (mOp dMul (mCallO (F_law_draw C) 0 (aCons (mC (.int 3)) aNil)) (mCallO (F_law_pick C) 0 (aCons (mLst (aCons (mC (.int 1)) (aCons (mC (.int 1)) (aCons (mVar 4) aNil)))) aNil)))))
    (sIf (mTst (mOp dLe (mVar 9) (mVar 2))) (sSeq (sAppV 5 (mTup (aCons (mVar 8) (aCons (mVar 9) aNil))))
    (sSet 6 (mOp dAdd (mVar 9) (mC (.int 1))))) sNx))))
    (sRet (mFn dTuple (aCons (mVar 5) aNil)))))
def F_law_touches (C : Addr) : D → List D → Option (D × D) := runO 5 5 (B_law_touches C)
def B_law_pass (C : Addr) : Mo Fl := (sSeq (sSet 4 (mIf (mTst (mOp dGt (mCallO (F_law_draw C) 0 (aCons (mC (.int 4)) aNil)) (mC (.int 0)))) (mOp dMul (mCallO (F_law_draw C) 0 (aCons (mFn dMax (aCons (mC (.int 1)) (aCons (mOp dDiv (mVar 2) (mVar 3)) aNil))) aNil)) (mVar 3)) (mC (.int 0))))
    (sSeq (sSet 4 (mFn dMin (aCons (mVar 4) (aCons (mOp dSub (mVar 2) (mC (.int 1))) aNil))))
    (sSeq (sSet 5 (mOp dAdd (mOp dAdd (mVar 4) (mC (.int 1))) (mOp dMul (mCallO (F_law_draw C) 0 (aCons (mFn dMax (aCons (mC (.int 1)) (aCons (mOp dDiv (mOp dSub (mVar 2) (mVar 4)) (mVar 3)) aNil))) aNil)) (mVar 3))))
    (sSeq (sSet 5 (mCallO (F_law_pick C) 0 (aCons (mLst (aCons (mFn dMin (aCons (mVar 5) (aCons (mVar 2) aNil))) (aCons (mFn dMin (aCons (mVar 5) (aCons (mVar 2) aNil))) (aCons (mVar 2) aNil)))) aNil)))
    (sSeq (sSet 6 (mCallO (F_law_touches C) 0 (aCons (mVar 4) (aCons (mVar 5) (aCons (mCallO (F_law_draw C) 0 (aCons (mC (.int 4)) aNil)) (aCons (mVar 3) aNil))))))
    (sSeq (sSet 7 (mCallO (F_law_pick C) 0 (aCons (mLst (aCons (mC (.str "write")) (aCons (mC (.str "latch")) (aCons (mC (.str "touch")) (aCons (mC (.str "touch")) (aCons (mC (.str "trim")) aNil)))))) aNil)))
    (sSeq (sPar [8, 9] [false, false] (aCons (mCallO (F_law_pick C) 0 (aCons (mLst (aCons (mC (.int 0)) (aCons (mC (.int 1)) (aCons (mC (.int 2)) (aCons (mC (.int 3)) (aCons (mC (.int 5)) aNil)))))) aNil)) (aCons (mCallO (F_law_pick C) 0 (aCons (mLst (aCons (mC (.str "stop")) (aCons (mC (.str "stop")) (aCons (mC (.str "on")) aNil)))) aNil)) aNil)))
    (sRet (mTup (aCons (mVar 1) (aCons (mVar 7) (aCons (mVar 4) (aCons (mVar 5) (aCons (mVar 6) (aCons (mVar 8) (aCons (mVar 9) aNil))))))))))))))))
def F_law_pass (C : Addr) : D → List D → Option (D × D) := runO 4 6 (B_law_pass C)
def B_law_row (C : Addr) : Mo Fl := (sSeq (sSet 4 (mLst (aCons (mC (.str "a")) (aCons (mC (.str "b")) (aCons (mC (.str "olds")) (aCons (mC (.str "z9")) (aCons (mC (.str "write")) (aCons (mC (.str "c")) (aCons (mC (.str "on")) (aCons (mC (.str "pass")) aNil))))))))))
    (sSeq (sSet 5 (mCallO (F_law_draw C) 0 (aCons (mC (.int 8)) aNil)))
    (sSeq (sSet 4 (mOp dAdd (mSl dSl (mVar 4) (mPart (mVar 5)) mNo) (mSl dSl (mVar 4) mNo (mPart (mVar 5)))))
    (sRet (mFn dTuple (aCons (mLc [6] (iFn rng1? (aCons (mCallO (F_law_draw C) 0 (aCons (mOp dAdd (mVar 2) (mC (.int 1))) aNil)) aNil)) (gNm 6) (mC true) (mCallO (F_law_pass C) 0 (aCons (mOp dIx (mVar 4) (mVar 6)) (aCons (mVar 1) (aCons (mVar 3) aNil))))) aNil))))))
def F_law_row (C : Addr) : D → List D → Option (D × D) := runO 4 3 (B_law_row C)
def B_law_far_row (C : Addr) : Mo Fl := (sSeq (sSet 1 (mCallO (F_law_pick C) 0 (aCons (mLst (aCons (mOp dPow (mC (.int 10)) (mC (.int 12))) (aCons (mOp dPow (mC (.int 10)) (mC (.int 12))) (aCons (mOp dAdd (mOp dPow (mC (.int 10)) (mC (.int 6))) (mC (.int 7))) (aCons (mC (.int 5000)) aNil))))) aNil)))
    (sSeq (sSet 2 (mCallO (F_law_pick C) 0 (aCons (mLst (aCons (mC (.int 1)) (aCons (mC (.int 3)) (aCons (mOp dDiv (mVar 1) (mC (.int 40))) (aCons (mOp dDiv (mVar 1) (mC (.int 7))) aNil))))) aNil)))
    (sSeq (sPar [3, 4] [true, false] (aCons (mLst aNil) (aCons (mCallO (F_law_draw C) 0 (aCons (mC (.int 8)) aNil)) aNil)))
    (sSeq (sFor (iSeq seqT (mCallO (F_law_row C) 0 (aCons (mVar 1) (aCons (mC (.int 8)) (aCons (mVar 2) aNil))))) (gNm 5) (sSeq (sSet 6 (mIf (mTst (mOp dEq (mFnP dLen 3) (mVar 4))) (mCallO (F_law_pick C) 0 (aCons (mLst (aCons (mOp dIx (mVar 5) (mC (.int 5))) (aCons (mC (.int 20)) (aCons (mC (.int 100)) aNil)))) aNil)) (mOp dIx (mVar 5) (mC (.int 5)))))
    (sAppV 3 (mOp dAdd (mOp dAdd (mSl dSl (mVar 5) mNo (mPart (mC (.int 5)))) (mTup (aCons (mVar 6) aNil))) (mSl dSl (mVar 5) (mPart (mC (.int 6))) mNo)))))
    (sRet (mTup (aCons (mVar 1) (aCons (mFn dTuple (aCons (mVar 3) aNil)) aNil))))))))
def F_law_far_row (C : Addr) : D → List D → Option (D × D) := runO 1 6 (B_law_far_row C)
def B_law_spots (C : Addr) : Mo Fl := (sSeq (sSetN 3 (mLst (aCons (mC (.int 0)) (aCons (mOp dSub (mVar 1) (mC (.int 1))) aNil))))
    (sSeq (sFor (iSeq seqT (mVar 2)) (gNm 4) (sSeq (sSetN 3 (mOp dCat (mVar 3) (mLst (aCons (mOp dSub (mOp dIx (mVar 4) (mC (.int 2))) (mC (.int 1))) (aCons (mOp dIx (mVar 4) (mC (.int 2))) (aCons (mOp dSub (mOp dIx (mVar 4) (mC (.int 3))) (mC (.int 1))) (aCons (mOp dIx (mVar 4) (mC (.int 3))) aNil)))))))
    (sFor (iSeq seqT (mOp dIx (mVar 4) (mC (.int 4)))) (gTp 2 (gsCons (gNm 5) (gsCons (gNm 6) gsNil))) (sSetN 3 (mOp dCat (mVar 3) (mLst (aCons (mOp dSub (mVar 5) (mC (.int 1))) (aCons (mVar 5) (aCons (mOp dSub (mVar 6) (mC (.int 1))) (aCons (mVar 6) (aCons (mOp dSub (mOp dAdd (mVar 6) (mOp dIx (mVar 4) (mC (.int 5)))) (mC (.int 1))) (aCons (mOp dAdd (mVar 6) (mOp dIx (mVar 4) (mC (.int 5)))) aNil))))))))))))
    (sSeq (sFor (iFn rng1? (aCons (mC (.int 40)) aNil)) (gNm 7) (sAppV 3 (mOp dAdd (mOp dMul (mCallO (F_law_draw C) 0 (aCons (mOp dPow (mC (.int 10)) (mC (.int 6))) aNil)) (mOp dDiv (mVar 1) (mOp dPow (mC (.int 10)) (mC (.int 6))))) (mCallO (F_law_draw C) 0 (aCons (mFn dMin (aCons (mVar 1) (aCons (mOp dPow (mC (.int 10)) (mC (.int 6))) aNil))) aNil)))))
    (sRet (mLc [7] (iSeq seqL (mVar 3)) (gNm 7) (mTst (mChain dLe dLt (mC (.int 0)) (mVar 7) (mVar 1))) (mVar 7))))))
def F_law_spots (C : Addr) : D → List D → Option (D × D) := runO 3 5 (B_law_spots C)
def B_is_integer (C : Addr) : Mo Fl := (sRet (mAndV (mFn dIsT (aCons (mVar 0) (aCons (mC (.ty "int")) aNil))) (mNotV (mFn dIsT (aCons (mVar 0) (aCons (mC (.ty "bool")) aNil))))))
def F_is_integer (C : Addr) : List D → Option D := runF 1 0 (B_is_integer C)
def B_is_between (C : Addr) : Mo Fl := (sRet (mAndV (mFn (F_is_integer C) (aCons (mVar 0) aNil)) (mChain dLe dLe (mVar 1) (mVar 0) (mVar 2))))
def F_is_between (C : Addr) : List D → Option D := runF 3 0 (B_is_between C)
def B_is_stretch (C : Addr) : Mo Fl := (sSeq (sIf (mOr (mNot (mTst (mFn dIsT (aCons (mVar 0) (aCons (mC (.ty "tuple")) aNil))))) (mTst (mOp dNe (mFn dLen (aCons (mVar 0) aNil)) (mC (.int 2))))) (sRet (mC (.bl false))) sNx)
    (sRet (mAndV (mFn (F_is_between C) (aCons (mOp dIx (mVar 0) (mC (.int 0))) (aCons (mVar 1) (aCons (mVar 2) aNil)))) (mFn (F_is_between C) (aCons (mOp dIx (mVar 0) (mC (.int 1))) (aCons (mOp dAdd (mOp dIx (mVar 0) (mC (.int 0))) (mC (.int 1))) (aCons (mVar 2) aNil)))))))
def F_is_stretch (C : Addr) : List D → Option D := runF 3 0 (B_is_stretch C)
def B_are_touches (C : Addr) : Mo Fl := (sSeq (sIf (mOr (mNot (mTst (mFn dIsT (aCons (mVar 0) (aCons (mC (.ty "tuple")) aNil))))) (mTst (mOp dGt (mFn dLen (aCons (mVar 0) aNil)) (mC (.int 6))))) (sRet (mC (.bl false))) sNx)
    (sSeq (sSet 3 (mVar 1))
    (sSeq (sFor (iSeq seqT (mVar 0)) (gNm 4) (sSeq (sIf (mNot (mTst (mFn (F_is_stretch C) (aCons (mVar 4) (aCons (mVar 3) (aCons (mVar 2) aNil)))))) (sRet (mC (.bl false))) sNx)
    (sSet 3 (mOp dAdd (mOp dIx (mVar 4) (mC (.int 1))) (mC (.int 1))))))
    (sRet (mC (.bl true))))))
def F_are_touches (C : Addr) : List D → Option D := runF 3 2 (B_are_touches C)
def B_is_name (C : Addr) : Mo Fl := (sSeq (sIf (mOr (mNot (mTst (mFn dIsT (aCons (mVar 0) (aCons (mC (.ty "str")) aNil))))) (mNot (mTst (mChain dLe dLe (mC (.int 1)) (mFn dLen (aCons (mVar 0) aNil)) (mC (.int 8)))))) (sRet (mC (.bl false))) sNx)
    (sRet (mAndV (mOp dIn (mOp dIx (mVar 0) (mC (.int 0))) (mC (.str "abcdefghijklmnopqrstuvwxyz"))) (mFn dAll (aCons (mLc [1] (iSeq seqS (mVar 0)) (gNm 1) (mC true) (mOp dIn (mVar 1) (mOp dAdd (mC (.str "abcdefghijklmnopqrstuvwxyz")) (mC (.str "0123456789"))))) aNil)))))
def F_is_name (C : Addr) : List D → Option D := runF 1 1 (B_is_name C)
def B_is_word (C : Addr) : Mo Fl := (sRet (mAndV (mFn dIsT (aCons (mVar 0) (aCons (mC (.ty "str")) aNil))) (mOp dIn (mVar 0) (mVar 1))))
def F_is_word (C : Addr) : List D → Option D := runF 2 0 (B_is_word C)
def B_is_pass (C : Addr) : Mo Fl := (sSeq (sIf (mOr (mNot (mTst (mFn dIsT (aCons (mVar 0) (aCons (mC (.ty "tuple")) aNil))))) (mTst (mOp dNe (mFn dLen (aCons (mVar 0) aNil)) (mC (.int 7))))) (sRet (mC (.bl false))) sNx)
    (sSeq (sAsg (mVar 0) (gTp 7 (gsCons (gNm 2) (gsCons (gNm 3) (gsCons (gNm 4) (gsCons (gNm 5) (gsCons (gNm 6) (gsCons (gNm 7) (gsCons (gNm 8) gsNil)))))))))
    (sSeq (sIf (mOr (mNot (mTst (mFn (F_is_name C) (aCons (mVar 2) aNil)))) (mTst (mOp dEq (mVar 2) (mC (.str "old"))))) (sRet (mC (.bl false))) sNx)
    (sSeq (sIf (mOr (mNot (mTst (mFn (F_is_word C) (aCons (mVar 3) (aCons (mC (.tup [(.str "write"), (.str "latch"), (.str "touch"), (.str "trim")])) aNil))))) (mNot (mTst (mFn (F_is_word C) (aCons (mVar 8) (aCons (mC (.tup [(.str "stop"), (.str "on")])) aNil)))))) (sRet (mC (.bl false))) sNx)
    (sSeq (sIf (mNot (mTst (mFn (F_is_stretch C) (aCons (mTup (aCons (mVar 4) (aCons (mVar 5) aNil))) (aCons (mC (.int 0)) (aCons (mVar 1) aNil)))))) (sRet (mC (.bl false))) sNx)
    (sRet (mAndV (mFn (F_are_touches C) (aCons (mVar 6) (aCons (mVar 4) (aCons (mVar 5) aNil)))) (mFn (F_is_between C) (aCons (mVar 7) (aCons (mC (.int 0)) (aCons (mC (.int 100)) aNil)))))))))))
def F_is_pass (C : Addr) : List D → Option D := runF 2 7 (B_is_pass C)
def B_first_wrong (C : Addr) : Mo Fl := (sSeq (sSetN 2 (mLst aNil))
    (sSeq (sFor (iFn enumT? (aCons (mVar 0) aNil)) (gTp 2 (gsCons (gNm 3) (gsCons (gNm 4) gsNil))) (sSeq (sIf (mOr (mTst (mOp dGe (mVar 3) (mC (.int 8)))) (mOr (mNot (mTst (mFn (F_is_pass C) (aCons (mVar 4) (aCons (mVar 1) aNil))))) (mTst (mOpRt dIn (mOp dIx (mVar 4) (mC (.int 0))) 2)))) (sRet (mVar 3)) sNx)
    (sAppV 2 (mOp dIx (mVar 4) (mC (.int 0))))))
    (sRet (mC .non))))
def F_first_wrong (C : Addr) : List D → Option D := runF 2 3 (B_first_wrong C)
def B_is_length (C : Addr) : Mo Fl := (sRet (mFn (F_is_between C) (aCons (mVar 0) (aCons (mC (.int 1)) (aCons (mC (.int 1000000000000)) aNil)))))
def F_is_length (C : Addr) : List D → Option D := runF 1 0 (B_is_length C)
def B_Track_init (C : Addr) : Mo Fl := (sSeq (sIf (mNot (mTst (mFn (F_is_length C) (aCons (mVar 1) aNil)))) (sNo) sNx)
    (sSeq (sIf (mNot (mTst (mFn dIsT (aCons (mVar 2) (aCons (mC (.ty "tuple")) aNil))))) (sNo) sNx)
    (sSeq (sSet 3 (mFn (F_first_wrong C) (aCons (mVar 2) (aCons (mVar 1) aNil))))
    (sSeq (sIf (mTst (mOp dIsNot (mVar 3) (mC .non))) (sNo) sNx)
    (sSeq (sFldV C 0 "_length" (mVar 1))
    (sFldV C 0 "_passes" (mVar 2)))))))
def F_Track_init (C : Addr) : D → List D → Option (D × D) := runO 3 1 (B_Track_init C)
def B_check_track (C : Addr) : Mo Fl := (sIf (mNot (mTst (mFn (dIsCT C) (aCons (mVar 0) (aCons (mC (.cls C)) aNil))))) (sNo) sNx)
def F_check_track (C : Addr) : List D → Option D := runF 1 0 (B_check_track C)
def B_place_of (C : Addr) : Mo Fl := (sSeq (sIf (mTst (mFn dIsT (aCons (mVar 1) (aCons (mC (.ty "str")) aNil)))) (sFor (iFn enumT? (aCons (mVar 0) aNil)) (gTp 2 (gsCons (gNm 2) (gsCons (gNm 3) gsNil))) (sIf (mTst (mOp dEq (mOp dIx (mVar 3) (mC (.int 0))) (mVar 1))) (sRet (mVar 2)) sNx)) sNx)
    (sRet (mC .non)))
def F_place_of (C : Addr) : List D → Option D := runF 2 2 (B_place_of C)
def B_Track_contains (C : Addr) : Mo Fl := (sRet (mOp dIsNot (mFn (F_place_of C) (aCons (mFld C "_passes" (mVar 0)) (aCons (mVar 1) aNil))) (mC .non)))
def F_Track_contains (C : Addr) : List D → Option D := runF 2 0 (B_Track_contains C)
def B_check_name (C : Addr) : Mo Fl := (sIf (mTst (mOp (dNotInI C (F_Track_contains C)) (mVar 1) (mVar 0))) (sNo) sNx)
def F_check_name (C : Addr) : List D → Option D := runF 2 0 (B_check_name C)
def B_longest (C : Addr) : Mo Fl := (sSeq (sSetN 1 (mLst aNil))
    (sSeq (sFor (iSeq seqL (mFn dSorted (aCons (mVar 0) aNil))) (gTp 2 (gsCons (gNm 2) (gsCons (gNm 3) gsNil))) (sIf (mAnd (mTruV 1) (mTst (mOp dLe (mVar 2) (mOp dIx (mIxV 1 (mUn dNeg (mC (.int 1)))) (mC (.int 1)))))) (sAsg (mTup (aCons (mOp dIx (mIxV 1 (mUn dNeg (mC (.int 1)))) (mC (.int 0))) (aCons (mFn dMax (aCons (mOp dIx (mIxV 1 (mUn dNeg (mC (.int 1)))) (mC (.int 1))) (aCons (mVar 3) aNil))) aNil))) (gPut 1 (mUn dNeg (mC (.int 1))))) (sAppV 1 (mTup (aCons (mVar 2) (aCons (mVar 3) aNil))))))
    (sRet (mFn dTuple (aCons (mVar 1) aNil)))))
def F_longest (C : Addr) : List D → Option D := runF 1 3 (B_longest C)
def B_heard_in (C : Addr) : Mo Fl := (sSeq (sSetN 2 (mLst aNil))
    (sSeq (sFor (iSeq seqL (mVar 0)) (gTp 3 (gsCons (gNm 3) (gsCons (gNm 4) (gsCons (gNm 5) gsNil)))) (sFor (iSeq seqT (mVar 5)) (gTp 3 (gsCons (gNm 6) (gsCons (gNm 7) (gsCons (gNm 8) gsNil)))) (sIf (mTst (mOp dEq (mVar 6) (mVar 1))) (sAppV 2 (mIf (mTst (mOp dEq (mVar 7) (mOp dSub (mVar 4) (mC (.int 1))))) (mTup (aCons (mVar 3) (aCons (mVar 4) aNil))) (mTup (aCons (mVar 7) (aCons (mOp dAdd (mVar 7) (mC (.int 1))) aNil))))) sNx)))
    (sRet (mFn (F_longest C) (aCons (mVar 2) aNil)))))
def F_heard_in (C : Addr) : List D → Option D := runF 2 7 (B_heard_in C)
def B_Track_length (C : Addr) : Mo Fl := (sRet (mFld C "_length" (mVar 0)))
def F_Track_length (C : Addr) : List D → Option D := runF 1 0 (B_Track_length C)
def B_Track_passes (C : Addr) : Mo Fl := (sRet (mFld C "_passes" (mVar 0)))
def F_Track_passes (C : Addr) : List D → Option D := runF 1 0 (B_Track_passes C)
def B_last_touch (C : Addr) : Mo Fl := (sSeq (sSet 2 (mC .non))
    (sSeq (sFor (iSeq seqT (mVar 0)) (gTp 2 (gsCons (gNm 3) (gsCons (gNm 4) gsNil))) (sIf (mTst (mOp dLe (mVar 3) (mVar 1))) (sSet 2 (mFn dMin (aCons (mVar 1) (aCons (mOp dSub (mVar 4) (mC (.int 1))) aNil)))) sNx))
    (sRet (mVar 2))))
def F_last_touch (C : Addr) : List D → Option D := runF 2 3 (B_last_touch C)
def B_lowest (C : Addr) : Mo Fl := (sSeq (sSet 2 (mFn dGcd (aCons (mVar 0) (aCons (mVar 1) aNil))))
    (sRet (mTup (aCons (mOp dDiv (mVar 0) (mVar 2)) (aCons (mOp dDiv (mVar 1) (mVar 2)) aNil)))))
def F_lowest (C : Addr) : List D → Option D := runF 2 1 (B_lowest C)
def B_end_of (C : Addr) : Mo Fl := (sSeq (sAsg (mVar 0) (gTp 7 (gsCons (gNm 2) (gsCons (gNm 2) (gsCons (gNm 2) (gsCons (gNm 3) (gsCons (gNm 2) (gsCons (gNm 2) (gsCons (gNm 4) gsNil)))))))))
    (sRet (mIf (mTst (mOp dEq (mVar 4) (mC (.str "on")))) (mVar 1) (mVar 3))))
def F_end_of (C : Addr) : List D → Option D := runF 2 3 (B_end_of C)
def B_written (C : Addr) : Mo Fl := (sSeq (sAsg (mVar 0) (gTp 7 (gsCons (gNm 3) (gsCons (gNm 4) (gsCons (gNm 5) (gsCons (gNm 3) (gsCons (gNm 6) (gsCons (gNm 7) (gsCons (gNm 3) gsNil)))))))))
    (sSeq (sIf (mNot (mTst (mChain dLe dLt (mVar 5) (mVar 2) (mFn (F_end_of C) (aCons (mVar 0) (aCons (mVar 1) aNil)))))) (sRet (mC .non)) sNx)
    (sSeq (sSet 8 (mFn (F_last_touch C) (aCons (mVar 6) (aCons (mVar 2) aNil))))
    (sSeq (sIf (mTst (mOp dIs (mVar 8) (mC .non))) (sRet (mIf (mTst (mOp dEq (mVar 4) (mC (.str "write")))) (mTup (aCons (mC .non) (aCons (mC (.tup [(.int 0), (.int 1)])) (aCons (mVar 5) (aCons (mC (.tup [(.int 1), (.int 1)])) aNil))))) (mC .non))) sNx)
    (sSeq (sIf (mOr (mTst (mOp dEq (mVar 4) (mC (.str "write")))) (mTst (mOp dEq (mVar 4) (mC (.str "latch"))))) (sRet (mTup (aCons (mVar 8) (aCons (mC (.tup [(.int 1), (.int 1)])) (aCons (mVar 2) (aCons (mC (.tup [(.int 0), (.int 1)])) aNil)))))) sNx)
    (sSeq (sSet 9 (mOp dSub (mVar 2) (mVar 8)))
    (sSeq (sIf (mTst (mOp dGt (mVar 9) (mVar 7))) (sRet (mC .non)) sNx)
    (sSeq (sSet 10 (mIf (mTst (mOp dEq (mVar 4) (mC (.str "trim")))) (mC (.tup [(.int 1), (.int 1)])) (mFn (F_lowest C) (aCons (mVar 9) (aCons (mOp dAdd (mVar 7) (mC (.int 1))) aNil)))))
    (sRet (mTup (aCons (mVar 8) (aCons (mFn (F_lowest C) (aCons (mOp dSub (mOp dAdd (mVar 7) (mC (.int 1))) (mVar 9)) (aCons (mOp dAdd (mVar 7) (mC (.int 1))) aNil))) (aCons (mVar 2) (aCons (mVar 10) aNil))))))))))))))
def F_written (C : Addr) : List D → Option D := runF 3 8 (B_written C)
def B_times (C : Addr) : Mo Fl := (sRet (mFn (F_lowest C) (aCons (mOp dMul (mOp dIx (mVar 0) (mC (.int 0))) (mOp dIx (mVar 1) (mC (.int 0)))) (aCons (mOp dMul (mOp dIx (mVar 0) (mC (.int 1))) (mOp dIx (mVar 1) (mC (.int 1)))) aNil))))
def F_times (C : Addr) : List D → Option D := runF 2 0 (B_times C)
def B_taken_by (C : Addr) : Mo Fl := (sSeq (sAsg (mVar 2) (gTp 2 (gsCons (gNm 3) (gsCons (gNm 4) gsNil))))
    (sSeq (sSet 5 (mFn (F_written C) (aCons (mVar 0) (aCons (mVar 1) (aCons (mVar 3) aNil)))))
    (sSeq (sIf (mTst (mOp dIs (mVar 5) (mC .non))) (sRet (mTup (aCons (mC .non) (aCons (mVar 2) aNil)))) sNx)
    (sSeq (sAsg (mVar 5) (gTp 4 (gsCons (gNm 6) (gsCons (gNm 7) (gsCons (gNm 8) (gsCons (gNm 9) gsNil))))))
    (sSeq (sSet 10 (mIf (mTst (mOp dIs (mVar 6) (mC .non))) (mC .non) (mTup (aCons (mVar 6) (aCons (mFn (F_times C) (aCons (mVar 4) (aCons (mVar 7) aNil))) aNil)))))
    (sRet (mTup (aCons (mVar 10) (aCons (mIf (mTst (mOp dEq (mVar 9) (mC (.tup [(.int 0), (.int 1)])))) (mC .non) (mTup (aCons (mVar 8) (aCons (mFn (F_times C) (aCons (mVar 4) (aCons (mVar 9) aNil))) aNil)))) aNil)))))))))
def F_taken_by (C : Addr) : List D → Option D := runF 3 8 (B_taken_by C)
def B_form_of (C : Addr) : Mo Fl := (sSeq (sSetN 3 (mLst aNil))
    (sSeq (sSet 4 (mTup (aCons (mVar 2) (aCons (mC (.tup [(.int 1), (.int 1)])) aNil))))
    (sSeq (sFor (iSeq seqT (mUn dRevT (mVar 0))) (gNm 5) (sSeq (sAsg (mFn (F_taken_by C) (aCons (mVar 5) (aCons (mVar 1) (aCons (mVar 4) aNil)))) (gTp 2 (gsCons (gNm 6) (gsCons (gNm 4) gsNil))))
    (sSeq (sIf (mTst (mOp dIsNot (mVar 6) (mC .non))) (sAppV 3 (mTup (aCons (mOp dIx (mVar 5) (mC (.int 0))) (aStar (mVar 6) aNil)))) sNx)
    (sIf (mTst (mOp dIs (mVar 4) (mC .non))) (sRet (mFn dTuple (aCons (mFn dSorted (aCons (mVar 3) aNil)) aNil))) sNx))))
    (sSeq (sAppV 3 (mTup (aCons (mC (.str "old")) (aStar (mVar 4) aNil))))
    (sRet (mFn dTuple (aCons (mFn dSorted (aCons (mVar 3) aNil)) aNil)))))))
def F_form_of (C : Addr) : List D → Option D := runF 3 4 (B_form_of C)
def B_edges_of (C : Addr) : Mo Fl := (sSeq (sAsg (mVar 0) (gTp 7 (gsCons (gNm 2) (gsCons (gNm 3) (gsCons (gNm 4) (gsCons (gNm 2) (gsCons (gNm 5) (gsCons (gNm 6) (gsCons (gNm 2) gsNil)))))))))
    (sSeq (sSet 7 (mFn (F_end_of C) (aCons (mVar 0) (aCons (mVar 1) aNil))))
    (sSeq (sSetN 8 (mLst (aCons (mVar 4) (aCons (mOp dAdd (mVar 4) (mC (.int 1))) (aCons (mVar 7) aNil)))))
    (sSeq (sFor (iSeq seqT (mVar 5)) (gTp 2 (gsCons (gNm 9) (gsCons (gNm 10) gsNil))) (sSeq (sSet 11 (mIf (mTst (mOp dIn (mVar 3) (mC (.tup [(.str "touch"), (.str "trim")])))) (mVar 6) (mC (.int 0))))
    (sExtV 8 (mOp dAdd (mLst (aCons (mVar 9) aNil)) (mFn dListR (aCons (mVar 10) (aCons (mOp dAdd (mFn dMin (aCons (mOp dAdd (mVar 10) (mVar 11)) (aCons (mVar 7) aNil))) (mC (.int 1))) aNil)))))))
    (sRet (mVar 8))))))
def F_edges_of (C : Addr) : List D → Option D := runF 2 10 (B_edges_of C)
def B_segments (C : Addr) : Mo Fl := (sSeq (sSetN 2 (mLst (aCons (mC (.int 0)) (aCons (mVar 0) aNil))))
    (sSeq (sFor (iSeq seqT (mVar 1)) (gNm 3) (sExtV 2 (mFn (F_edges_of C) (aCons (mVar 3) (aCons (mVar 0) aNil)))))
    (sSeq (sSet 4 (mFn dSortSet (aCons (mVar 2) aNil)))
    (sRet (mFn dListZ (aCons (mVar 4) (aCons (mSl dSl (mVar 4) (mPart (mC (.int 1))) mNo) aNil)))))))
def F_segments (C : Addr) : List D → Option D := runF 2 3 (B_segments C)
def B_formed_segments (C : Addr) : Mo Fl := (sSeq (sPar [1, 2] [false, false] (aCons (mProp C (F_Track_length C) (mVar 0)) (aCons (mProp C (F_Track_passes C) (mVar 0)) aNil)))
    (sRet (mLc [3, 4] (iSeq seqL (mFn (F_segments C) (aCons (mVar 1) (aCons (mVar 2) aNil)))) (gTp 2 (gsCons (gNm 3) (gsCons (gNm 4) gsNil))) (mC true) (mTup (aCons (mVar 3) (aCons (mVar 4) (aCons (mFn (F_form_of C) (aCons (mVar 2) (aCons (mVar 1) (aCons (mOp dSub (mVar 4) (mC (.int 1))) aNil)))) aNil)))))))
def F_formed_segments (C : Addr) : List D → Option D := runF 1 4 (B_formed_segments C)
def B_heard (C : Addr) : Mo Fl := (sSeq (sDrop (mFn (F_check_track C) (aCons (mVar 0) aNil)))
    (sSeq (sDrop (mFn (F_check_name C) (aCons (mVar 0) (aCons (mVar 1) aNil))))
    (sRet (mFn (F_heard_in C) (aCons (mFn (F_formed_segments C) (aCons (mVar 0) aNil)) (aCons (mVar 1) aNil))))))
def F_heard (C : Addr) : List D → Option D := runF 2 0 (B_heard C)
def B_old_heard (C : Addr) : Mo Fl := (sSeq (sDrop (mFn (F_check_track C) (aCons (mVar 0) aNil)))
    (sRet (mFn (F_heard_in C) (aCons (mFn (F_formed_segments C) (aCons (mVar 0) aNil)) (aCons (mC (.str "old")) aNil)))))
def F_old_heard (C : Addr) : List D → Option D := runF 1 0 (B_old_heard C)
def B_kept_in (C : Addr) : Mo Fl := (sRet (mFn (F_longest C) (aCons (mLc [1, 2, 3] (iSeq seqL (mVar 0)) (gTp 3 (gsCons (gNm 1) (gsCons (gNm 2) (gsCons (gNm 3) gsNil)))) (mTst (mOp dEq (mVar 3) (mTup (aCons (mTup (aCons (mC (.str "old")) (aCons (mOp dSub (mVar 2) (mC (.int 1))) (aCons (mC (.tup [(.int 1), (.int 1)])) aNil)))) aNil)))) (mTup (aCons (mVar 1) (aCons (mVar 2) aNil)))) aNil)))
def F_kept_in (C : Addr) : List D → Option D := runF 1 3 (B_kept_in C)
def B_kept (C : Addr) : Mo Fl := (sSeq (sDrop (mFn (F_check_track C) (aCons (mVar 0) aNil)))
    (sRet (mFn (F_kept_in C) (aCons (mFn (F_formed_segments C) (aCons (mVar 0) aNil)) aNil))))
def F_kept (C : Addr) : List D → Option D := runF 1 0 (B_kept C)
def B_law_touched (C : Addr) : Mo Fl := (sSeq (sSet 2 (mC .non))
    (sSeq (sFor (iSeq seqT (mVar 0)) (gTp 2 (gsCons (gNm 3) (gsCons (gNm 4) gsNil))) (sIf (mTst (mOp dLe (mVar 3) (mVar 1))) (sSet 2 (mFn dMin (aCons (mOp dSub (mVar 4) (mC (.int 1))) (aCons (mVar 1) aNil)))) sNx))
    (sRet (mVar 2))))
def F_law_touched (C : Addr) : List D → Option D := runF 2 3 (B_law_touched C)
def B_law_low (C : Addr) : Mo Fl := (sSeq (sPar [2, 3] [false, false] (aCons (mFn dAbs (aCons (mVar 0) aNil)) (aCons (mVar 1) aNil)))
    (sSeq (sWh (fuelI 3) (mTst (mOp dGt (mVar 3) (mC (.int 0)))) (sPar [2, 3] [false, false] (aCons (mVar 3) (aCons (mOp dMod (mFn dInt (aCons (mVar 2) aNil)) (mVar 3)) aNil))))
    (sRet (mTup (aCons (mOp dDiv (mVar 0) (mVar 2)) (aCons (mOp dDiv (mVar 1) (mVar 2)) aNil))))))
def F_law_low (C : Addr) : List D → Option D := runF 2 2 (B_law_low C)
def B_law_mixed (C : Addr) : Mo Fl := (sSeq (sSetN 5 mDNew)
    (sSeq (sForD 0 (gNm 6) (sSeq (sAsg (mOp dGetD (mVar 0) (mVar 6)) (gTp 2 (gsCons (gNm 7) (gsCons (gNm 8) gsNil))))
    (sDPutV 5 (mVar 6) (mTup (aCons (mVar 7) (aCons (mFn (F_law_low C) (aCons (mOp dMul (mOp dIx (mVar 8) (mC (.int 0))) (mOp dIx (mVar 4) (mC (.int 0)))) (aCons (mOp dMul (mOp dIx (mVar 8) (mC (.int 1))) (mOp dIx (mVar 4) (mC (.int 1)))) aNil))) aNil))))))
    (sSeq (sDPutV 5 (mVar 1) (mTup (aCons (mVar 2) (aCons (mVar 3) aNil))))
    (sRet (mVar 5)))))
def F_law_mixed (C : Addr) : List D → Option D := runF 5 4 (B_law_mixed C)
def B_law_at (C : Addr) (R : List D → Option D) : Mo Fl := (sSeq (sIf (mTst (mOp dEq (mVar 1) (mTup aNil))) (sRet (mDisp1 (mC (.str "old")) (mTup (aCons (mVar 2) (aCons (mTup (aCons (mC (.int 1)) (aCons (mC (.int 1)) aNil))) aNil))))) sNx)
    (sSeq (sAsg (mOp dIx (mVar 1) (mUn dNeg (mC (.int 1)))) (gTp 7 (gsCons (gNm 3) (gsCons (gNm 4) (gsCons (gNm 5) (gsCons (gNm 6) (gsCons (gNm 7) (gsCons (gNm 8) (gsCons (gNm 9) gsNil)))))))))
    (sSeq (sIf (mOr (mTst (mOp dLt (mVar 2) (mVar 5))) (mTst (mOp dGe (mVar 2) (mIf (mTst (mOp dEq (mVar 9) (mC (.str "stop")))) (mVar 6) (mVar 0))))) (sRet (mFn R (aCons (mVar 0) (aCons (mSl dSl (mVar 1) mNo (mPart (mUn dNeg (mC (.int 1))))) (aCons (mVar 2) aNil))))) sNx)
    (sSeq (sSet 10 (mFn (F_law_touched C) (aCons (mVar 7) (aCons (mVar 2) aNil))))
    (sSeq (sIf (mAnd (mTst (mOp dIn (mVar 4) (mLst (aCons (mC (.str "write")) (aCons (mC (.str "latch")) aNil))))) (mTst (mOp dIsNot (mVar 10) (mC .non)))) (sRet (mDisp1 (mVar 3) (mTup (aCons (mVar 10) (aCons (mTup (aCons (mC (.int 1)) (aCons (mC (.int 1)) aNil))) aNil))))) sNx)
    (sSeq (sIf (mTst (mOp dEq (mVar 4) (mC (.str "write")))) (sRet (mFn R (aCons (mVar 0) (aCons (mSl dSl (mVar 1) mNo (mPart (mUn dNeg (mC (.int 1))))) (aCons (mVar 5) aNil))))) sNx)
    (sSeq (sSet 11 (mFn R (aCons (mVar 0) (aCons (mSl dSl (mVar 1) mNo (mPart (mUn dNeg (mC (.int 1))))) (aCons (mVar 2) aNil)))))
    (sSeq (sIf (mOr (mTst (mOp dEq (mVar 4) (mC (.str "latch")))) (mOr (mTst (mOp dIs (mVar 10) (mC .non))) (mTst (mOp dGt (mOp dSub (mVar 2) (mVar 10)) (mVar 8))))) (sRet (mVar 11)) sNx)
    (sSeq (sSet 12 (mOp dSub (mVar 2) (mVar 10)))
    (sSeq (sSet 13 (mFn (F_law_low C) (aCons (mOp dSub (mOp dAdd (mVar 8) (mC (.int 1))) (mVar 12)) (aCons (mOp dAdd (mVar 8) (mC (.int 1))) aNil))))
    (sSeq (sIf (mTst (mOp dEq (mVar 4) (mC (.str "trim")))) (sRet (mFn (F_law_mixed C) (aCons (mVar 11) (aCons (mVar 3) (aCons (mVar 10) (aCons (mVar 13) (aCons (mTup (aCons (mC (.int 1)) (aCons (mC (.int 1)) aNil))) aNil))))))) sNx)
    (sSeq (sIf (mTst (mOp dEq (mVar 12) (mC (.int 0)))) (sRet (mDisp1 (mVar 3) (mTup (aCons (mVar 10) (aCons (mTup (aCons (mC (.int 1)) (aCons (mC (.int 1)) aNil))) aNil))))) sNx)
    (sRet (mFn (F_law_mixed C) (aCons (mVar 11) (aCons (mVar 3) (aCons (mVar 10) (aCons (mVar 13) (aCons (mFn (F_law_low C) (aCons (mVar 12) (aCons (mOp dAdd (mVar 8) (mC (.int 1))) aNil))) aNil)))))))))))))))))))
def F_law_at (C : Addr) : Nat → List D → Option D
  | 0 => fun _ => none
  | i + 1 => runF 3 11 (B_law_at C (F_law_at C i))
def B_law_form (C : Addr) : Mo Fl := (sSeq (sSet 3 (mFn (F_law_at C 10) (aCons (mVar 0) (aCons (mVar 1) (aCons (mVar 2) aNil)))))
    (sRet (mFn dTuple (aCons (mLc [4] (iSeq seqL (mFn dSorted (aCons (mFn dListD (aCons (mVar 3) aNil)) aNil))) (gNm 4) (mC true) (mTup (aCons (mVar 4) (aCons (mOp dIx (mOp dGetD (mVar 3) (mVar 4)) (mC (.int 0))) (aCons (mOp dIx (mOp dGetD (mVar 3) (mVar 4)) (mC (.int 1))) aNil))))) aNil))))
def F_law_form (C : Addr) : List D → Option D := runF 3 2 (B_law_form C)
def B_law_is_touched (C : Addr) : Mo Fl := (sSeq (sFor (iSeq seqT (mVar 1)) (gTp 2 (gsCons (gNm 2) (gsCons (gNm 3) gsNil))) (sIf (mTst (mOp dEq (mLc [4, 5] (iSeq seqT (mOp dIx (mVar 0) (mC (.int 4)))) (gTp 2 (gsCons (gNm 4) (gsCons (gNm 5) gsNil))) (mAnd (mTst (mOp dLe (mVar 4) (mVar 2))) (mTst (mOp dLe (mVar 3) (mVar 5)))) (mVar 4)) (mLst aNil))) (sRet (mC (.bl false))) sNx))
    (sRet (mC (.bl true))))
def F_law_is_touched (C : Addr) : List D → Option D := runF 2 4 (B_law_is_touched C)
def B_law_is_apart (C : Addr) : Mo Fl := (sSeq (sSet 2 (mOp dAdd (mLst (aCons (mUn dNeg (mC (.int 1))) aNil)) (mLc [3, 4] (iSeq seqT (mVar 1)) (gTp 2 (gsCons (gNm 3) (gsCons (gNm 4) gsNil))) (mC true) (mVar 4))))
    (sSeq (sFor (iFn rng1? (aCons (mFn dLen (aCons (mVar 1) aNil)) aNil)) (gNm 5) (sIf (mNot (mTst (mChain3 dLt dLt dLe (mOp dIx (mVar 2) (mVar 5)) (mOp dIx (mOp dIx (mVar 1) (mVar 5)) (mC (.int 0))) (mOp dIx (mOp dIx (mVar 1) (mVar 5)) (mC (.int 1))) (mVar 0)))) (sRet (mC (.bl false))) sNx))
    (sRet (mFn dIsT (aCons (mVar 1) (aCons (mC (.ty "tuple")) aNil))))))
def F_law_is_apart (C : Addr) : List D → Option D := runF 2 4 (B_law_is_apart C)
def B_law_is_in (C : Addr) : Mo Fl := (sRet (mOp dNe (mLc [2, 3] (iSeq seqT (mVar 1)) (gTp 2 (gsCons (gNm 2) (gsCons (gNm 3) gsNil))) (mTst (mChain dLe dLt (mVar 2) (mVar 0) (mVar 3))) (mVar 2)) (mLst aNil)))
def F_law_is_in (C : Addr) : List D → Option D := runF 2 2 (B_law_is_in C)
def B_law_right (C : Addr) : Mo Fl := (sSeq (sAsg (mCallO (F_law_far_row C) 0 aNil) (gTp 2 (gsCons (gNm 1) (gsCons (gNm 2) gsNil))))
    (sSeq (sPar [3, 4] [false, true] (aCons (mMake C (F_Track_init C) [] (aCons (mVar 1) (aCons (mVar 2) aNil))) (aCons mDNew aNil)))
    (sSeq (sFor (iSeq seqT (mVar 2)) (gNm 5) (sSeq (sDPutV 4 (mOp dIx (mVar 5) (mC (.int 0))) (mFn (F_heard C) (aCons (mVar 3) (aCons (mOp dIx (mVar 5) (mC (.int 0))) aNil))))
    (sIf (mNot (mTst (mFn (F_law_is_touched C) (aCons (mVar 5) (aCons (mDGetV 4 (mOp dIx (mVar 5) (mC (.int 0)))) aNil))))) (sRet (mC (.bl false))) sNx)))
    (sSeq (sAsg (mTup (aCons (mFn (F_old_heard C) (aCons (mVar 3) aNil)) (aCons (mFn (F_kept C) (aCons (mVar 3) aNil)) aNil))) (gTp 2 (gsCons (gDPut 4 (mC (.str "old"))) (gsCons (gNm 6) gsNil))))
    (sSeq (sIf (mOr (mNot (mTst (mFn dAll (aCons (mLc [5] (mKeys 4) (gNm 5) (mC true) (mFn (F_law_is_apart C) (aCons (mVar 1) (aCons (mDGetV 4 (mVar 5)) aNil)))) aNil)))) (mNot (mTst (mFn (F_law_is_apart C) (aCons (mVar 1) (aCons (mVar 6) aNil)))))) (sRet (mC (.bl false))) sNx)
    (sSeq (sFor (iSeq seqL (mCallO (F_law_spots C) 0 (aCons (mVar 1) (aCons (mVar 2) aNil)))) (gNm 7) (sSeq (sSet 8 (mFn (F_law_form C) (aCons (mVar 1) (aCons (mVar 2) (aCons (mVar 7) aNil)))))
    (sSeq (sIf (mTst (mOp dNe (mFn (F_law_is_in C) (aCons (mVar 7) (aCons (mVar 6) aNil))) (mOp dEq (mFn dRepr (aCons (mVar 8) aNil)) (mFn dRepr (aCons (mTup (aCons (mTup (aCons (mC (.str "old")) (aCons (mVar 7) (aCons (mTup (aCons (mC (.int 1)) (aCons (mC (.int 1)) aNil))) aNil)))) aNil)) aNil))))) (sRet (mC (.bl false))) sNx)
    (sIf (mNot (mTst (mFn dAll (aCons (mLc [9, 10, 11] (iSeq seqT (mVar 8)) (gTp 3 (gsCons (gNm 9) (gsCons (gNm 10) (gsCons (gNm 11) gsNil)))) (mC true) (mFn (F_law_is_in C) (aCons (mVar 10) (aCons (mDGetV 4 (mVar 9)) aNil)))) aNil)))) (sRet (mC (.bl false))) sNx))))
    (sRet (mC (.bl true)))))))))
def F_law_right (C : Addr) : D → List D → Option (D × D) := runO 1 11 (B_law_right C)
def B_law_purse (C : Addr) : Mo Fl := (sSeq (sIf (mTst (mOp dLt (mVar 1) (mFn dLen (aCons (mVar 0) aNil)))) (sSeq (sSet 2 (mOp dIx (mVar 0) (mVar 1)))
    (sSeq (sSet 3 (mIf (mOr (mTst (mOp dLt (mVar 2) (mC (.int 0)))) (mTst (mOp dGe (mVar 2) (mOp dPow (mC (.int 10)) (mC (.int 18)))))) (mFn dAbs (aCons (mVar 2) aNil)) (mC (.int 0))))
    (sRetNew (mLst (aCons (mVar 3) (aCons (mOp dMod (mFn dInt (aCons (mOp dAdd (mOp dAdd (mOp dMul (mVar 2) (mC (.int 39373))) (mOp dMul (mC (.int 104723)) (mVar 1))) (mC (.int 17))) aNil)) (mC (.int 2147483629))) (aCons (mC (.int 0)) aNil))))))) sNx)
    (sSeq (sSet 4 (mOp dAdd (mOp dMul (mC (.int 86243)) (mVar 1)) (mC (.int 131))))
    (sSeq (sFor (iSeq seqL (mSl dSl (mVar 0) mNo (mPart (mC (.int 4))))) (gNm 2) (sSet 4 (mOp dMod (mFn dInt (aCons (mOp dAdd (mOp dMul (mVar 4) (mC (.int 48271))) (mVar 2)) aNil)) (mC (.int 2147483587)))))
    (sRetNew (mLst (aCons (mC (.int 0)) (aCons (mVar 4) (aCons (mC (.int 0)) aNil))))))))
def F_law_purse (C : Addr) : List D → Option D := runN 2 3 (B_law_purse C)
def B_law (C : Addr) : Mo Fl := (sSeq (sFor (iFn rng1? (aCons (mFn dMax (aCons (mC (.int 2)) (aCons (mFn dMin (aCons (mFn dLen (aCons (mVar 0) aNil)) (aCons (mC (.int 4)) aNil))) aNil))) aNil)) (gNm 1) (sIf (mNot (mTst (mCallNew (F_law_right C) (mFn (F_law_purse C) (aCons (mVar 0) (aCons (mVar 1) aNil))) aNil))) (sRet (mC (.bl false))) sNx))
    (sRet (mC (.bl true))))
def F_law (C : Addr) : List D → Option D := runF 1 1 (B_law C)
end My
namespace My
open PySem PySem.Spec PyProof.Rows L2 DL
section
variable {P : Program} {w : World} {K : PySem.W.Frag} {mg : Str → Option Value} {base : Heap}
set_option maxHeartbeats 2000000 in
theorem bd_law_draw (T : Txt w.params K mg) : BodyD P w K mg base "_law_draw" slaw_draw T.law_draw.f ["purse", "size", "seed", "by", "digit"] 0 (B_law_draw T.C) := by
  intro cdv A outer s H E hr
  have hu := hu100 hr
  have hu64 := hu64_of hr
  have hu1 := hu1_of hr
  unfold B_law_draw
  exact ⟨_, fun M0 P0 H0 => (b_cons (s_par (i := 2) (j := 3) rfl sclaw_draw.nd rfl rfl (by decide) rfl rfl (f_dat (d_ixV 0 d_int (fun _ _ => rfl)) (f_dat (d_op op_ADD (d_op op_MOD (d_cty call_INT T.z_int (by decide +kernel) (d_acons (d_ixV 0 d_int (fun _ _ => rfl)) d_anil)) d_int) d_int) f_nil)) (by rfl))
      (b_cons (s_asg (d_op op_ADD (d_ixV 0 d_int (fun _ _ => rfl)) d_int) (g_put 0 d_int))
      (b_cons (s_asg (d_op op_MOD (d_cty call_INT T.z_int (by decide +kernel) (d_acons (d_op op_ADD (d_op op_ADD (d_op op_MUL (dv 2) (dv 3)) (d_op op_MUL d_int (d_ixV 0 d_int (fun _ _ => rfl)))) d_int) d_anil)) d_int) (g_put 0 d_int))
      (b_cons (s_if (d_tcmp op_GT (d_ixV 0 d_int (fun _ _ => rfl)) d_int (nomark _)) (b_cons (s_asg (d_blt call_DIVMOD T.z_divmod (by decide +kernel) (d_acons (d_ixV 0 d_int (fun _ _ => rfl)) (d_acons (dv 1) d_anil))) (g_tup rfl (gs_cons (g_put 0 d_int) (gs_cons (g_name (i := 4) sclaw_draw.nd rfl (Or.inl rfl)) gs_nil))))
      (b_one (s_ret (dv 4)))) b_nil)
      (b_one (s_ret (d_op op_MOD (d_cty call_INT T.z_int (by decide +kernel) (d_acons (d_op op_DIV (d_ixV 0 d_int (fun _ _ => rfl)) d_int) d_anil)) (dv 1))))))))⟩
theorem ok_law_draw (T : Txt w.params K mg) : FnOk P w K mg base CX0 1 T.law_draw.f T.law_draw.fd ["purse", "size"] (spO K 2 (F_law_draw T.C)) := okO T.law_draw.F sclaw_draw rfl rfl (bd_law_draw T)
set_option maxHeartbeats 2000000 in
theorem bd_law_pick (T : Txt w.params K mg) : BodyD P w K mg base "_law_pick" slaw_pick T.law_pick.f ["purse", "menu"] 1 (B_law_pick T.C) := by
  intro cdv A outer s H E hr
  have hu := hu100 hr
  have hu64 := hu64_of hr
  have hu1 := hu1_of hr
  unfold B_law_pick
  exact ⟨_, fun M0 P0 H0 => (b_one (s_ret (d_ix (dv 1) (d_callO 0 (ok_law_draw T) takesO (hr.mono (by decide)) T.law_draw.g T.law_draw.F.kp T.law_draw.b (d_acons (d_blt call_LEN T.z_len (by decide +kernel) (d_acons (dv 1) d_anil)) d_anil)) (fun _ _ => rfl))))⟩
theorem ok_law_pick (T : Txt w.params K mg) : FnOk P w K mg base CX0 2 T.law_pick.f T.law_pick.fd ["purse", "menu"] (spO K 2 (F_law_pick T.C)) := okO T.law_pick.F sclaw_pick rfl rfl (bd_law_pick T)
set_option maxHeartbeats 2000000 in
theorem bd_law_touches (T : Txt w.params K mg) : BodyD P w K mg base "_law_touches" slaw_touches T.law_touches.f ["purse", "first", "last", "many", "wide", "found", "at", "k", "a", "b"] 2 (B_law_touches T.C) := by
  intro cdv A outer s H E hr
  have hu := hu100 hr
  have hu64 := hu64_of hr
  have hu1 := hu1_of hr
  unfold B_law_touches
  exact ⟨_, fun M0 P0 H0 => (b_cons (s_par (i := 5) (j := 6) rfl sclaw_touches.nd rfl rfl (by decide) rfl rfl (f_new (d_lst d_anil) (f_dat (dv 1) f_nil)) (by rfl))
      (b_cons (s_for PassesOwn.never rfl (i_rng1 T.z_range (d_acons (dv 3) d_anil)) (g_name (i := 7) sclaw_touches.nd rfl (Or.inl rfl)) (b_cons (s_set (i := 8) sclaw_touches.nd rfl (Or.inl rfl) (d_op op_ADD (dv 6) (d_op op_MUL (d_callO 0 (ok_law_draw T) takesO (hr.mono (by decide)) T.law_draw.g T.law_draw.F.kp T.law_draw.b (d_acons d_int d_anil)) (d_callO 0 (ok_law_pick T) takesO (hr.mono (by decide)) T.law_pick.g T.law_pick.F.kp T.law_pick.b (d_acons (DN.e (d_lst (d_acons d_int (d_acons d_int (d_acons (dv 4) d_anil))))) d_anil)))))
      (b_cons (s_set (i := 9) sclaw_touches.nd rfl (Or.inl rfl) (d_op op_ADD (d_op op_ADD (dv 8) d_int) (d_op op_MUL (d_callO 0 (ok_law_draw T) takesO (hr.mono (by decide)) T.law_draw.g T.law_draw.F.kp T.law_draw.b (d_acons d_int d_anil)) (d_callO 0 (ok_law_pick T) takesO (hr.mono (by decide)) T.law_pick.g T.law_pick.F.kp T.law_pick.b (d_acons (DN.e (d_lst (d_acons d_int (d_acons d_int (d_acons (dv 4) d_anil))))) d_anil)))))
      (b_one (s_if (d_tcmp op_LE (dv 9) (dv 2) (nomark _)) (b_cons (s_app 5 (d_tup (d_acons (dv 8) (d_acons (dv 9) d_anil))))
      (b_one (s_set (i := 6) sclaw_touches.nd rfl (Or.inl rfl) (d_op op_ADD (dv 9) d_int)))) b_nil)))))
      (b_one (s_ret (d_cty call_TUPLE T.z_tuple (by decide +kernel) (d_acons (dv 5) d_anil))))))⟩
theorem ok_law_touches (T : Txt w.params K mg) : FnOk P w K mg base CX0 3 T.law_touches.f T.law_touches.fd ["purse", "first", "last", "many", "wide"] (spO K 5 (F_law_touches T.C)) := okO T.law_touches.F sclaw_touches rfl rfl (bd_law_touches T)
set_option maxHeartbeats 2000000 in
theorem bd_law_pass (T : Txt w.params K mg) : BodyD P w K mg base "_law_pass" slaw_pass T.law_pass.f ["purse", "name_here", "long", "wide", "first", "last", "touches_here", "mode", "slide", "tail"] 3 (B_law_pass T.C) := by
  intro cdv A outer s H E hr
  have hu := hu100 hr
  have hu64 := hu64_of hr
  have hu1 := hu1_of hr
  unfold B_law_pass
  exact ⟨_, fun M0 P0 H0 => (b_cons (s_set (i := 4) sclaw_pass.nd rfl (Or.inl rfl) (d_if (d_tcmp op_GT (d_callO 0 (ok_law_draw T) takesO (hr.mono (by decide)) T.law_draw.g T.law_draw.F.kp T.law_draw.b (d_acons d_int d_anil)) d_int (nomark _)) (d_op op_MUL (d_callO 0 (ok_law_draw T) takesO (hr.mono (by decide)) T.law_draw.g T.law_draw.F.kp T.law_draw.b (d_acons (d_blt (call_MAX rfl) T.z_max (by decide +kernel) (d_acons d_int (d_acons (d_op op_DIV (dv 2) (dv 3)) d_anil))) d_anil)) (dv 3)) d_int))
      (b_cons (s_set (i := 4) sclaw_pass.nd rfl (Or.inl rfl) (d_blt (call_MIN rfl) T.z_min (by decide +kernel) (d_acons (dv 4) (d_acons (d_op op_SUB (dv 2) d_int) d_anil))))
      (b_cons (s_set (i := 5) sclaw_pass.nd rfl (Or.inl rfl) (d_op op_ADD (d_op op_ADD (dv 4) d_int) (d_op op_MUL (d_callO 0 (ok_law_draw T) takesO (hr.mono (by decide)) T.law_draw.g T.law_draw.F.kp T.law_draw.b (d_acons (d_blt (call_MAX rfl) T.z_max (by decide +kernel) (d_acons d_int (d_acons (d_op op_DIV (d_op op_SUB (dv 2) (dv 4)) (dv 3)) d_anil))) d_anil)) (dv 3))))
      (b_cons (s_set (i := 5) sclaw_pass.nd rfl (Or.inl rfl) (d_callO 0 (ok_law_pick T) takesO (hr.mono (by decide)) T.law_pick.g T.law_pick.F.kp T.law_pick.b (d_acons (DN.e (d_lst (d_acons (d_blt (call_MIN rfl) T.z_min (by decide +kernel) (d_acons (dv 5) (d_acons (dv 2) d_anil))) (d_acons (d_blt (call_MIN rfl) T.z_min (by decide +kernel) (d_acons (dv 5) (d_acons (dv 2) d_anil))) (d_acons (dv 2) d_anil))))) d_anil)))
      (b_cons (s_set (i := 6) sclaw_pass.nd rfl (Or.inl rfl) (d_callO 0 (ok_law_touches T) takesO (hr.mono (by decide)) T.law_touches.g T.law_touches.F.kp T.law_touches.b (d_acons (dv 4) (d_acons (dv 5) (d_acons (d_callO 0 (ok_law_draw T) takesO (hr.mono (by decide)) T.law_draw.g T.law_draw.F.kp T.law_draw.b (d_acons d_int d_anil)) (d_acons (dv 3) d_anil))))))
      (b_cons (s_set (i := 7) sclaw_pass.nd rfl (Or.inl rfl) (d_callO 0 (ok_law_pick T) takesO (hr.mono (by decide)) T.law_pick.g T.law_pick.F.kp T.law_pick.b (d_acons (DN.e (d_lst (d_acons d_str (d_acons d_str (d_acons d_str (d_acons d_str (d_acons d_str d_anil))))))) d_anil)))
      (b_cons (s_par (i := 8) (j := 9) rfl sclaw_pass.nd rfl rfl (by decide) rfl rfl (f_dat (d_callO 0 (ok_law_pick T) takesO (hr.mono (by decide)) T.law_pick.g T.law_pick.F.kp T.law_pick.b (d_acons (DN.e (d_lst (d_acons d_int (d_acons d_int (d_acons d_int (d_acons d_int (d_acons d_int d_anil))))))) d_anil)) (f_dat (d_callO 0 (ok_law_pick T) takesO (hr.mono (by decide)) T.law_pick.g T.law_pick.F.kp T.law_pick.b (d_acons (DN.e (d_lst (d_acons d_str (d_acons d_str (d_acons d_str d_anil))))) d_anil)) f_nil)) (by rfl))
      (b_one (s_ret (d_tup (d_acons (dv 1) (d_acons (dv 7) (d_acons (dv 4) (d_acons (dv 5) (d_acons (dv 6) (d_acons (dv 8) (d_acons (dv 9) d_anil)))))))))))))))))⟩
theorem ok_law_pass (T : Txt w.params K mg) : FnOk P w K mg base CX0 4 T.law_pass.f T.law_pass.fd ["purse", "name_here", "long", "wide"] (spO K 4 (F_law_pass T.C)) := okO T.law_pass.F sclaw_pass rfl rfl (bd_law_pass T)
set_option maxHeartbeats 2000000 in
theorem bd_law_row (T : Txt w.params K mg) : BodyD P w K mg base "_law_row" slaw_row T.law_row.f ["purse", "long", "many", "wide", "names_here", "at", "k"] 4 (B_law_row T.C) := by
  intro cdv A outer s H E hr
  have hu := hu100 hr
  have hu64 := hu64_of hr
  have hu1 := hu1_of hr
  unfold B_law_row
  exact ⟨_, fun M0 P0 H0 => (b_cons (s_set (i := 4) sclaw_row.nd rfl (Or.inr rfl) (DN.e (d_lst (d_acons d_str (d_acons d_str (d_acons d_str (d_acons d_str (d_acons d_str (d_acons d_str (d_acons d_str (d_acons d_str d_anil)))))))))))
      (b_cons (s_set (i := 5) sclaw_row.nd rfl (Or.inl rfl) (d_callO 0 (ok_law_draw T) takesO (hr.mono (by decide)) T.law_draw.g T.law_draw.F.kp T.law_draw.b (d_acons d_int d_anil)))
      (b_cons (s_set (i := 4) sclaw_row.nd rfl (Or.inr rfl) (d_op op_ADD (d_sl (dv 4) (d_part (dv 5)) d_no) (d_sl (dv 4) d_no (d_part (dv 5)))))
      (b_one (s_ret (d_cty call_TUPLE T.z_tuple (by decide +kernel) (d_acons (DN.e (d_lc (own := [("k", 6)]) rfl sclaw_row.nd (i_rng1 T.z_range (d_acons (d_callO 0 (ok_law_draw T) takesO (hr.mono (by decide)) T.law_draw.g T.law_draw.F.kp T.law_draw.b (d_acons (d_op op_ADD (dv 2) d_int) d_anil)) d_anil)) (blkOk_by (N := ["purse", "long", "many", "wide", "names_here", "at", "k"]) (sc := defScope slaw_row) (by decide +kernel)) (own_nam (by decide)).1 ⟨fun _ _ _ _ _ => (g_name (i := 6) sclaw_row.nd rfl (Or.inl rfl)), fun _ _ _ _ _ => t_nil, fun _ _ _ _ _ => (d_callO 0 (ok_law_pass T) takesO (hr.mono (by decide)) T.law_pass.g T.law_pass.F.kp T.law_pass.b (d_acons (d_ix (dv 4) (dv 6) (fun _ _ => rfl)) (d_acons (dv 1) (d_acons (dv 3) d_anil))))⟩)) d_anil)))))))⟩
theorem ok_law_row (T : Txt w.params K mg) : FnOk P w K mg base CX0 5 T.law_row.f T.law_row.fd ["purse", "long", "many", "wide"] (spO K 4 (F_law_row T.C)) := okO T.law_row.F sclaw_row rfl rfl (bd_law_row T)
set_option maxHeartbeats 2000000 in
theorem bd_law_far_row (T : Txt w.params K mg) : BodyD P w K mg base "_law_far_row" slaw_far_row T.law_far_row.f ["purse", "long", "wide", "found", "at", "each", "slide"] 5 (B_law_far_row T.C) := by
  intro cdv A outer s H E hr
  have hu := hu100 hr
  have hu64 := hu64_of hr
  have hu1 := hu1_of hr
  unfold B_law_far_row
  exact ⟨_, fun M0 P0 H0 => (b_cons (s_set (i := 1) sclaw_far_row.nd rfl (Or.inl rfl) (d_callO 0 (ok_law_pick T) takesO (hr.mono (by decide)) T.law_pick.g T.law_pick.F.kp T.law_pick.b (d_acons (DN.e (d_lst (d_acons (d_op op_POW d_int d_int) (d_acons (d_op op_POW d_int d_int) (d_acons (d_op op_ADD (d_op op_POW d_int d_int) d_int) (d_acons d_int d_anil)))))) d_anil)))
      (b_cons (s_set (i := 2) sclaw_far_row.nd rfl (Or.inl rfl) (d_callO 0 (ok_law_pick T) takesO (hr.mono (by decide)) T.law_pick.g T.law_pick.F.kp T.law_pick.b (d_acons (DN.e (d_lst (d_acons d_int (d_acons d_int (d_acons (d_op op_DIV (dv 1) d_int) (d_acons (d_op op_DIV (dv 1) d_int) d_anil)))))) d_anil)))
      (b_cons (s_par (i := 3) (j := 4) rfl sclaw_far_row.nd rfl rfl (by decide) rfl rfl (f_new (d_lst d_anil) (f_dat (d_callO 0 (ok_law_draw T) takesO (hr.mono (by decide)) T.law_draw.g T.law_draw.F.kp T.law_draw.b (d_acons d_int d_anil)) f_nil)) (by rfl))
      (b_cons (s_for PassesOwn.never rfl (i_tup (d_callO 0 (ok_law_row T) takesO (hr.mono (by decide)) T.law_row.g T.law_row.F.kp T.law_row.b (d_acons (dv 1) (d_acons d_int (d_acons (dv 2) d_anil))))) (g_name (i := 5) sclaw_far_row.nd rfl (Or.inl rfl)) (b_cons (s_set (i := 6) sclaw_far_row.nd rfl (Or.inl rfl) (d_if (d_tcmp (op_EQ hu64) (d_bltP 3 call_LEN T.z_len (by decide +kernel)) (dv 4) (nomark _)) (d_callO 0 (ok_law_pick T) takesO (hr.mono (by decide)) T.law_pick.g T.law_pick.F.kp T.law_pick.b (d_acons (DN.e (d_lst (d_acons (d_ix (dv 5) d_int (fun _ _ => rfl)) (d_acons d_int (d_acons d_int d_anil))))) d_anil)) (d_ix (dv 5) d_int (fun _ _ => rfl))))
      (b_one (s_app 3 (d_op op_ADD (d_op op_ADD (d_sl (dv 5) d_no (d_part d_int)) (d_tup (d_acons (dv 6) d_anil))) (d_sl (dv 5) (d_part d_int) d_no))))))
      (b_one (s_ret (d_tup (d_acons (dv 1) (d_acons (d_cty call_TUPLE T.z_tuple (by decide +kernel) (d_acons (dv 3) d_anil)) d_anil)))))))))⟩
theorem ok_law_far_row (T : Txt w.params K mg) : FnOk P w K mg base CX0 6 T.law_far_row.f T.law_far_row.fd ["purse"] (spO K 1 (F_law_far_row T.C)) := okO T.law_far_row.F sclaw_far_row rfl rfl (bd_law_far_row T)
set_option maxHeartbeats 2000000 in
theorem bd_law_spots (T : Txt w.params K mg) : BodyD P w K mg base "_law_spots" slaw_spots T.law_spots.f ["purse", "long", "some", "found", "each", "a", "b", "k"] 1 (B_law_spots T.C) := by
  intro cdv A outer s H E hr
  have hu := hu100 hr
  have hu64 := hu64_of hr
  have hu1 := hu1_of hr
  unfold B_law_spots
  exact ⟨_, fun M0 P0 H0 => (b_cons (s_setN (i := 3) sclaw_spots.nd rfl (Or.inl rfl) (d_lst (d_acons d_int (d_acons (d_op op_SUB (dv 1) d_int) d_anil))))
      (b_cons (s_for PassesOwn.never rfl (i_tup (dv 2)) (g_name (i := 4) sclaw_spots.nd rfl (Or.inl rfl)) (b_cons (s_setN (i := 3) sclaw_spots.nd rfl (Or.inl rfl) (d_cat (dv 3) (DN.e (d_lst (d_acons (d_op op_SUB (d_ix (dv 4) d_int (fun _ _ => rfl)) d_int) (d_acons (d_ix (dv 4) d_int (fun _ _ => rfl)) (d_acons (d_op op_SUB (d_ix (dv 4) d_int (fun _ _ => rfl)) d_int) (d_acons (d_ix (dv 4) d_int (fun _ _ => rfl)) d_anil))))))))
      (b_one (s_for PassesOwn.never rfl (i_tup (d_ix (dv 4) d_int (fun _ _ => rfl))) (g_tup rfl (gs_cons (g_name (i := 5) sclaw_spots.nd rfl (Or.inl rfl)) (gs_cons (g_name (i := 6) sclaw_spots.nd rfl (Or.inl rfl)) gs_nil))) (b_one (s_setN (i := 3) sclaw_spots.nd rfl (Or.inl rfl) (d_cat (dv 3) (DN.e (d_lst (d_acons (d_op op_SUB (dv 5) d_int) (d_acons (dv 5) (d_acons (d_op op_SUB (dv 6) d_int) (d_acons (dv 6) (d_acons (d_op op_SUB (d_op op_ADD (dv 6) (d_ix (dv 4) d_int (fun _ _ => rfl))) d_int) (d_acons (d_op op_ADD (dv 6) (d_ix (dv 4) d_int (fun _ _ => rfl))) d_anil)))))))))))))))
      (b_cons (s_for PassesOwn.never rfl (i_rng1 T.z_range (d_acons d_int d_anil)) (g_name (i := 7) sclaw_spots.nd rfl (Or.inl rfl)) (b_one (s_app 3 (d_op op_ADD (d_op op_MUL (d_callO 0 (ok_law_draw T) takesO (hr.mono (by decide)) T.law_draw.g T.law_draw.F.kp T.law_draw.b (d_acons (d_op op_POW d_int d_int) d_anil)) (d_op op_DIV (dv 1) (d_op op_POW d_int d_int))) (d_callO 0 (ok_law_draw T) takesO (hr.mono (by decide)) T.law_draw.g T.law_draw.F.kp T.law_draw.b (d_acons (d_blt (call_MIN rfl) T.z_min (by decide +kernel) (d_acons (dv 1) (d_acons (d_op op_POW d_int d_int) d_anil))) d_anil))))))
      (b_one (s_ret (DN.e (d_lc (own := [("k", 7)]) rfl sclaw_spots.nd (i_list (dv 3)) (blkOk_by (N := ["purse", "long", "some", "found", "each", "a", "b", "k"]) (sc := defScope slaw_spots) (by decide +kernel)) (own_nam (by decide)).1 ⟨fun _ _ _ _ _ => (g_name (i := 7) sclaw_spots.nd rfl (Or.inl rfl)), fun _ _ _ _ _ => (t_one (d_tchain op_LE op_LT d_int (dv 7) (dv 1))), fun _ _ _ _ _ => (dv 7)⟩)))))))⟩
theorem ok_law_spots (T : Txt w.params K mg) : FnOk P w K mg base CX0 2 T.law_spots.f T.law_spots.fd ["purse", "long", "some"] (spO K 3 (F_law_spots T.C)) := okO T.law_spots.F sclaw_spots rfl rfl (bd_law_spots T)
set_option maxHeartbeats 2000000 in
theorem bd_is_integer (T : Txt w.params K mg) : BodyD P w K mg base "is_integer" sis_integer T.is_integer.f ["value"] 0 (B_is_integer T.C) := by
  intro cdv A outer s H E hr
  have hu := hu100 hr
  have hu64 := hu64_of hr
  have hu1 := hu1_of hr
  unfold B_is_integer
  exact ⟨_, fun M0 P0 H0 => (b_one (s_ret (d_andV (d_blt call_ISIT T.z_isinstance (by decide +kernel) (d_acons (dv 0) (d_acons (d_ty T.z_int (by decide +kernel)) d_anil))) (d_one (d_notV (d_blt call_ISIT T.z_isinstance (by decide +kernel) (d_acons (dv 0) (d_acons (d_ty T.z_bool (by decide +kernel)) d_anil))))))))⟩
theorem ok_is_integer (T : Txt w.params K mg) : FnOk P w K mg base CX0 1 T.is_integer.f T.is_integer.fd ["value"] (spF K 1 (F_is_integer T.C)) := okF T.is_integer.F scis_integer rfl rfl (bd_is_integer T)
set_option maxHeartbeats 2000000 in
theorem bd_is_between (T : Txt w.params K mg) : BodyD P w K mg base "is_between" sis_between T.is_between.f ["value", "low", "high"] 1 (B_is_between T.C) := by
  intro cdv A outer s H E hr
  have hu := hu100 hr
  have hu64 := hu64_of hr
  have hu1 := hu1_of hr
  unfold B_is_between
  exact ⟨_, fun M0 P0 H0 => (b_one (s_ret (d_andV (d_call (ok_is_integer T) takesF (hr.mono (by decide)) T.is_integer.g T.is_integer.F.kp T.is_integer.b (d_acons (dv 0) d_anil)) (d_one (d_chain op_LE op_LE (dv 1) (dv 0) (dv 2))))))⟩
theorem ok_is_between (T : Txt w.params K mg) : FnOk P w K mg base CX0 2 T.is_between.f T.is_between.fd ["value", "low", "high"] (spF K 3 (F_is_between T.C)) := okF T.is_between.F scis_between rfl rfl (bd_is_between T)
set_option maxHeartbeats 2000000 in
theorem bd_is_stretch (T : Txt w.params K mg) : BodyD P w K mg base "is_stretch" sis_stretch T.is_stretch.f ["value", "low", "high"] 2 (B_is_stretch T.C) := by
  intro cdv A outer s H E hr
  have hu := hu100 hr
  have hu64 := hu64_of hr
  have hu1 := hu1_of hr
  unfold B_is_stretch
  exact ⟨_, fun M0 P0 H0 => (b_cons (s_if (DW.dt (d_or (d_not (d_tval (d_blt call_ISIT T.z_isinstance (by decide +kernel) (d_acons (dv 0) (d_acons (d_ty T.z_tuple (by decide +kernel)) d_anil))))) (d_or1 (d_tcmp (op_NE hu64) (d_blt call_LEN T.z_len (by decide +kernel) (d_acons (dv 0) d_anil)) d_int (nomark _))))) (b_one (s_ret d_bl)) b_nil)
      (b_one (s_ret (d_andV (d_call (ok_is_between T) takesF (hr.mono (by decide)) T.is_between.g T.is_between.F.kp T.is_between.b (d_acons (d_ix (dv 0) d_int (fun _ _ => rfl)) (d_acons (dv 1) (d_acons (dv 2) d_anil)))) (d_one (d_call (ok_is_between T) takesF (hr.mono (by decide)) T.is_between.g T.is_between.F.kp T.is_between.b (d_acons (d_ix (dv 0) d_int (fun _ _ => rfl)) (d_acons (d_op op_ADD (d_ix (dv 0) d_int (fun _ _ => rfl)) d_int) (d_acons (dv 2) d_anil)))))))))⟩
theorem ok_is_stretch (T : Txt w.params K mg) : FnOk P w K mg base CX0 3 T.is_stretch.f T.is_stretch.fd ["value", "low", "high"] (spF K 3 (F_is_stretch T.C)) := okF T.is_stretch.F scis_stretch rfl rfl (bd_is_stretch T)
set_option maxHeartbeats 2000000 in
theorem bd_are_touches (T : Txt w.params K mg) : BodyD P w K mg base "are_touches" sare_touches T.are_touches.f ["value", "first", "last", "low", "stretch"] 3 (B_are_touches T.C) := by
  intro cdv A outer s H E hr
  have hu := hu100 hr
  have hu64 := hu64_of hr
  have hu1 := hu1_of hr
  unfold B_are_touches
  exact ⟨_, fun M0 P0 H0 => (b_cons (s_if (DW.dt (d_or (d_not (d_tval (d_blt call_ISIT T.z_isinstance (by decide +kernel) (d_acons (dv 0) (d_acons (d_ty T.z_tuple (by decide +kernel)) d_anil))))) (d_or1 (d_tcmp op_GT (d_blt call_LEN T.z_len (by decide +kernel) (d_acons (dv 0) d_anil)) (d_gi T.c_MOST_TOUCHES) (nomark _))))) (b_one (s_ret d_bl)) b_nil)
      (b_cons (s_set (i := 3) scare_touches.nd rfl (Or.inl rfl) (dv 1))
      (b_cons (s_for PassesOwn.never rfl (i_tup (dv 0)) (g_name (i := 4) scare_touches.nd rfl (Or.inl rfl)) (b_cons (s_if (d_not (d_tval (d_call (ok_is_stretch T) takesF (hr.mono (by decide)) T.is_stretch.g T.is_stretch.F.kp T.is_stretch.b (d_acons (dv 4) (d_acons (dv 3) (d_acons (dv 2) d_anil)))))) (b_one (s_ret d_bl)) b_nil)
      (b_one (s_set (i := 3) scare_touches.nd rfl (Or.inl rfl) (d_op op_ADD (d_ix (dv 4) d_int (fun _ _ => rfl)) d_int)))))
      (b_one (s_ret d_bl)))))⟩
theorem ok_are_touches (T : Txt w.params K mg) : FnOk P w K mg base CX0 4 T.are_touches.f T.are_touches.fd ["value", "first", "last"] (spF K 3 (F_are_touches T.C)) := okF T.are_touches.F scare_touches rfl rfl (bd_are_touches T)
set_option maxHeartbeats 2000000 in
theorem bd_is_name (T : Txt w.params K mg) : BodyD P w K mg base "is_name" sis_name T.is_name.f ["value", "sign"] 0 (B_is_name T.C) := by
  intro cdv A outer s H E hr
  have hu := hu100 hr
  have hu64 := hu64_of hr
  have hu1 := hu1_of hr
  unfold B_is_name
  exact ⟨_, fun M0 P0 H0 => (b_cons (s_if (DW.dt (d_or (d_not (d_tval (d_blt call_ISIT T.z_isinstance (by decide +kernel) (d_acons (dv 0) (d_acons (d_ty T.z_str (by decide +kernel)) d_anil))))) (d_or1 (d_not (d_tchain op_LE op_LE d_int (d_blt call_LEN T.z_len (by decide +kernel) (d_acons (dv 0) d_anil)) (d_gi T.c_MOST_SIGNS)))))) (b_one (s_ret d_bl)) b_nil)
      (b_one (s_ret (d_andV (d_cmp (op_IN hu) (d_ix (dv 0) d_int (fun _ _ => rfl)) (d_gs T.c_LETTERS) (by rfl)) (d_one (d_blt (call_ALL rfl) T.z_all (by decide +kernel) (d_acons (DN.e (d_lc (own := [("sign", 1)]) rfl scis_name.nd (i_str (dv 0)) (blkOk_by (N := ["value", "sign"]) (sc := defScope sis_name) (by decide +kernel)) (own_nam (by decide)).1 ⟨fun _ _ _ _ _ => (g_name (i := 1) scis_name.nd rfl (Or.inl rfl)), fun _ _ _ _ _ => t_nil, fun _ _ _ _ _ => (d_cmp (op_IN hu) (dv 1) (d_op op_ADD (d_gs T.c_LETTERS) (d_gs T.c_DIGITS)) (by rfl))⟩)) d_anil)))))))⟩
theorem ok_is_name (T : Txt w.params K mg) : FnOk P w K mg base CX0 1 T.is_name.f T.is_name.fd ["value"] (spF K 1 (F_is_name T.C)) := okF T.is_name.F scis_name rfl rfl (bd_is_name T)
set_option maxHeartbeats 2000000 in
theorem bd_is_word (T : Txt w.params K mg) : BodyD P w K mg base "is_word" sis_word T.is_word.f ["value", "words"] 0 (B_is_word T.C) := by
  intro cdv A outer s H E hr
  have hu := hu100 hr
  have hu64 := hu64_of hr
  have hu1 := hu1_of hr
  unfold B_is_word
  exact ⟨_, fun M0 P0 H0 => (b_one (s_ret (d_andV (d_blt call_ISIT T.z_isinstance (by decide +kernel) (d_acons (dv 0) (d_acons (d_ty T.z_str (by decide +kernel)) d_anil))) (d_one (d_cmp (op_IN hu) (dv 0) (dv 1) (by rfl))))))⟩
theorem ok_is_word (T : Txt w.params K mg) : FnOk P w K mg base CX0 1 T.is_word.f T.is_word.fd ["value", "words"] (spF K 2 (F_is_word T.C)) := okF T.is_word.F scis_word rfl rfl (bd_is_word T)
set_option maxHeartbeats 2000000 in
theorem bd_is_pass (T : Txt w.params K mg) : BodyD P w K mg base "is_pass" sis_pass T.is_pass.f ["value", "length", "name", "mode", "first", "last", "touches", "glide", "tail"] 4 (B_is_pass T.C) := by
  intro cdv A outer s H E hr
  have hu := hu100 hr
  have hu64 := hu64_of hr
  have hu1 := hu1_of hr
  unfold B_is_pass
  exact ⟨_, fun M0 P0 H0 => (b_cons (s_if (DW.dt (d_or (d_not (d_tval (d_blt call_ISIT T.z_isinstance (by decide +kernel) (d_acons (dv 0) (d_acons (d_ty T.z_tuple (by decide +kernel)) d_anil))))) (d_or1 (d_tcmp (op_NE hu64) (d_blt call_LEN T.z_len (by decide +kernel) (d_acons (dv 0) d_anil)) (d_gi T.c_SIZE) (nomark _))))) (b_one (s_ret d_bl)) b_nil)
      (b_cons (s_asg (dv 0) (g_tup rfl (gs_cons (g_name (i := 2) scis_pass.nd rfl (Or.inl rfl)) (gs_cons (g_name (i := 3) scis_pass.nd rfl (Or.inl rfl)) (gs_cons (g_name (i := 4) scis_pass.nd rfl (Or.inl rfl)) (gs_cons (g_name (i := 5) scis_pass.nd rfl (Or.inl rfl)) (gs_cons (g_name (i := 6) scis_pass.nd rfl (Or.inl rfl)) (gs_cons (g_name (i := 7) scis_pass.nd rfl (Or.inl rfl)) (gs_cons (g_name (i := 8) scis_pass.nd rfl (Or.inl rfl)) gs_nil)))))))))
      (b_cons (s_if (DW.dt (d_or (d_not (d_tval (d_call (ok_is_name T) takesF (hr.mono (by decide)) T.is_name.g T.is_name.F.kp T.is_name.b (d_acons (dv 2) d_anil)))) (d_or1 (d_tcmp (op_EQ hu64) (dv 2) (d_gs T.c_OLD) (nomark _))))) (b_one (s_ret d_bl)) b_nil)
      (b_cons (s_if (DW.dt (d_or (d_not (d_tval (d_call (ok_is_word T) takesF (hr.mono (by decide)) T.is_word.g T.is_word.F.kp T.is_word.b (d_acons (dv 3) (d_acons (d_gtu T.c_MODES.g T.c_MODES.q (fun _ _ => (.cons (.str _) (.cons (.str _) (.cons (.str _) (.cons (.str _) .nil)))))) d_anil))))) (d_or1 (d_not (d_tval (d_call (ok_is_word T) takesF (hr.mono (by decide)) T.is_word.g T.is_word.F.kp T.is_word.b (d_acons (dv 8) (d_acons (d_gtu T.c_TAILS.g T.c_TAILS.q (fun _ _ => (.cons (.str _) (.cons (.str _) .nil)))) d_anil)))))))) (b_one (s_ret d_bl)) b_nil)
      (b_cons (s_if (d_not (d_tval (d_call (ok_is_stretch T) takesF (hr.mono (by decide)) T.is_stretch.g T.is_stretch.F.kp T.is_stretch.b (d_acons (d_tup (d_acons (dv 4) (d_acons (dv 5) d_anil))) (d_acons d_int (d_acons (dv 1) d_anil)))))) (b_one (s_ret d_bl)) b_nil)
      (b_one (s_ret (d_andV (d_call (ok_are_touches T) takesF (hr.mono (by decide)) T.are_touches.g T.are_touches.F.kp T.are_touches.b (d_acons (dv 6) (d_acons (dv 4) (d_acons (dv 5) d_anil)))) (d_one (d_call (ok_is_between T) takesF (hr.mono (by decide)) T.is_between.g T.is_between.F.kp T.is_between.b (d_acons (dv 7) (d_acons d_int (d_acons (d_gi T.c_MOST_GLIDE) d_anil)))))))))))))⟩
theorem ok_is_pass (T : Txt w.params K mg) : FnOk P w K mg base CX0 5 T.is_pass.f T.is_pass.fd ["value", "length"] (spF K 2 (F_is_pass T.C)) := okF T.is_pass.F scis_pass rfl rfl (bd_is_pass T)
set_option maxHeartbeats 2000000 in
theorem bd_first_wrong (T : Txt w.params K mg) : BodyD P w K mg base "first_wrong" sfirst_wrong T.first_wrong.f ["passes", "length", "names", "at", "one"] 5 (B_first_wrong T.C) := by
  intro cdv A outer s H E hr
  have hu := hu100 hr
  have hu64 := hu64_of hr
  have hu1 := hu1_of hr
  unfold B_first_wrong
  exact ⟨_, fun M0 P0 H0 => (b_cons (s_setN (i := 2) scfirst_wrong.nd rfl (Or.inl rfl) (d_lst d_anil))
      (b_cons (s_for PassesOwn.never rfl (i_enumT T.z_enumerate (d_acons (dv 0) d_anil)) (g_tup rfl (gs_cons (g_name (i := 3) scfirst_wrong.nd rfl (Or.inl rfl)) (gs_cons (g_name (i := 4) scfirst_wrong.nd rfl (Or.inl rfl)) gs_nil))) (b_cons (s_if (DW.dt (d_or (d_tcmp op_GE (dv 3) (d_gi T.c_MOST_PASSES) (nomark _)) (d_or (d_not (d_tval (d_call (ok_is_pass T) takesF (hr.mono (by decide)) T.is_pass.g T.is_pass.F.kp T.is_pass.b (d_acons (dv 4) (d_acons (dv 1) d_anil))))) (d_or1 (d_tcmpRt 2 (op_IN hu) (d_ix (dv 4) d_int (fun _ _ => rfl)) (by rfl)))))) (b_one (s_ret (dv 3))) b_nil)
      (b_one (s_app 2 (d_ix (dv 4) d_int (fun _ _ => rfl))))))
      (b_one (s_ret d_non))))⟩
theorem ok_first_wrong (T : Txt w.params K mg) : FnOk P w K mg base CX0 6 T.first_wrong.f T.first_wrong.fd ["passes", "length"] (spF K 2 (F_first_wrong T.C)) := okF T.first_wrong.F scfirst_wrong rfl rfl (bd_first_wrong T)
set_option maxHeartbeats 2000000 in
theorem bd_is_length (T : Txt w.params K mg) : BodyD P w K mg base "is_length" sis_length T.is_length.f ["value"] 2 (B_is_length T.C) := by
  intro cdv A outer s H E hr
  have hu := hu100 hr
  have hu64 := hu64_of hr
  have hu1 := hu1_of hr
  unfold B_is_length
  exact ⟨_, fun M0 P0 H0 => (b_one (s_ret (d_call (ok_is_between T) takesF (hr.mono (by decide)) T.is_between.g T.is_between.F.kp T.is_between.b (d_acons (dv 0) (d_acons d_int (d_acons (d_gi T.c_MOST_LENGTH) d_anil))))))⟩
theorem ok_is_length (T : Txt w.params K mg) : FnOk P w K mg base CX0 3 T.is_length.f T.is_length.fd ["value"] (spF K 1 (F_is_length T.C)) := okF T.is_length.F scis_length rfl rfl (bd_is_length T)
set_option maxHeartbeats 2000000 in
theorem bd_Track_init (T : Txt w.params K mg) : BodyD P w K mg base "Track.__init__" sTrack_init T.Track_init.f ["self", "length", "passes", "wrong"] 6 (B_Track_init T.C) := by
  intro cdv A outer s H E hr
  have hu := hu100 hr
  have hu64 := hu64_of hr
  have hu1 := hu1_of hr
  unfold B_Track_init
  exact ⟨_, fun M0 P0 H0 => (b_cons (s_if (d_not (d_tval (d_call (ok_is_length T) takesF (hr.mono (by decide)) T.is_length.g T.is_length.F.kp T.is_length.b (d_acons (dv 1) d_anil)))) (b_one (s_never)) b_nil)
      (b_cons (s_if (d_not (d_tval (d_blt call_ISIT T.z_isinstance (by decide +kernel) (d_acons (dv 2) (d_acons (d_ty T.z_tuple (by decide +kernel)) d_anil))))) (b_one (s_never)) b_nil)
      (b_cons (s_set (i := 3) scTrack_init.nd rfl (Or.inl rfl) (d_call (ok_first_wrong T) takesF (hr.mono (by decide)) T.first_wrong.g T.first_wrong.F.kp T.first_wrong.b (d_acons (dv 2) (d_acons (dv 1) d_anil))))
      (b_cons (s_if (d_tcmp op_ISNOT (dv 3) d_non (nomark _)) (b_one (s_never)) b_nil)
      (b_cons (s_fld 0 T.cl T.n_length (dv 1))
      (b_one (s_fld 0 T.cl T.n_passes (dv 2))))))))⟩
theorem ok_Track_init (T : Txt w.params K mg) : FnOk P w K mg base CX0 7 T.Track_init.f T.Track_init.fd ["self", "length", "passes"] (spO K 3 (F_Track_init T.C)) := okOD T.Track_init.F scTrack_init rfl rfl (bd_Track_init T)
set_option maxHeartbeats 2000000 in
theorem bd_check_track (T : Txt w.params K mg) : BodyD P w K mg base "check_track" scheck_track T.check_track.f ["value"] 0 (B_check_track T.C) := by
  intro cdv A outer s H E hr
  have hu := hu100 hr
  have hu64 := hu64_of hr
  have hu1 := hu1_of hr
  unfold B_check_track
  exact ⟨_, fun M0 P0 H0 => (b_one (s_if (d_not (d_tval (d_blt (call_ISICT T.isC) T.z_isinstance (by decide +kernel) (d_acons (dv 0) (d_acons (d_cls T.gC) d_anil))))) (b_one (s_never)) b_nil))⟩
theorem ok_check_track (T : Txt w.params K mg) : FnOk P w K mg base CX0 1 T.check_track.f T.check_track.fd ["value"] (spF K 1 (F_check_track T.C)) := okF T.check_track.F sccheck_track rfl rfl (bd_check_track T)
set_option maxHeartbeats 2000000 in
theorem bd_place_of (T : Txt w.params K mg) : BodyD P w K mg base "place_of" splace_of T.place_of.f ["passes", "name", "at", "one"] 0 (B_place_of T.C) := by
  intro cdv A outer s H E hr
  have hu := hu100 hr
  have hu64 := hu64_of hr
  have hu1 := hu1_of hr
  unfold B_place_of
  exact ⟨_, fun M0 P0 H0 => (b_cons (s_if (d_tval (d_blt call_ISIT T.z_isinstance (by decide +kernel) (d_acons (dv 1) (d_acons (d_ty T.z_str (by decide +kernel)) d_anil)))) (b_one (s_for PassesOwn.never rfl (i_enumT T.z_enumerate (d_acons (dv 0) d_anil)) (g_tup rfl (gs_cons (g_name (i := 2) scplace_of.nd rfl (Or.inl rfl)) (gs_cons (g_name (i := 3) scplace_of.nd rfl (Or.inl rfl)) gs_nil))) (b_one (s_if (d_tcmp (op_EQ hu64) (d_ix (dv 3) d_int (fun _ _ => rfl)) (dv 1) (nomark _)) (b_one (s_ret (dv 2))) b_nil)))) b_nil)
      (b_one (s_ret d_non)))⟩
theorem ok_place_of (T : Txt w.params K mg) : FnOk P w K mg base CX0 1 T.place_of.f T.place_of.fd ["passes", "name"] (spF K 2 (F_place_of T.C)) := okF T.place_of.F scplace_of rfl rfl (bd_place_of T)
set_option maxHeartbeats 2000000 in
theorem bd_Track_contains (T : Txt w.params K mg) : BodyD P w K mg base "Track.__contains__" sTrack_contains T.Track_contains.f ["self", "x"] 1 (B_Track_contains T.C) := by
  intro cdv A outer s H E hr
  have hu := hu100 hr
  have hu64 := hu64_of hr
  have hu1 := hu1_of hr
  unfold B_Track_contains
  exact ⟨_, fun M0 P0 H0 => (b_one (s_ret (d_cmp op_ISNOT (d_call (ok_place_of T) takesF (hr.mono (by decide)) T.place_of.g T.place_of.F.kp T.place_of.b (d_acons (d_fld (dv 0) T.cl T.n_passes) (d_acons (dv 1) d_anil))) d_non (nomark _))))⟩
theorem ok_Track_contains (T : Txt w.params K mg) : FnOk P w K mg base CX0 2 T.Track_contains.f T.Track_contains.fd ["self", "x"] (spF K 2 (F_Track_contains T.C)) := okF T.Track_contains.F scTrack_contains rfl rfl (bd_Track_contains T)
set_option maxHeartbeats 2000000 in
theorem bd_check_name (T : Txt w.params K mg) : BodyD P w K mg base "check_name" scheck_name T.check_name.f ["track", "value"] 4 (B_check_name T.C) := by
  intro cdv A outer s H E hr
  have hu := hu100 hr
  have hu64 := hu64_of hr
  have hu1 := hu1_of hr
  unfold B_check_name
  exact ⟨_, fun M0 P0 H0 => (b_one (s_if (d_tcmp (op_NOTINI (ok_Track_contains T) takesF (hr.mono (by decide)) T.Track_contains.m.at_ T.Track_contains.m.fn T.Track_contains.b) (dv 1) (dv 0) (by rfl)) (b_one (s_never)) b_nil))⟩
theorem ok_check_name (T : Txt w.params K mg) : FnOk P w K mg base CX0 5 T.check_name.f T.check_name.fd ["track", "value"] (spF K 2 (F_check_name T.C)) := okF T.check_name.F sccheck_name rfl rfl (bd_check_name T)
set_option maxHeartbeats 2000000 in
theorem bd_longest (T : Txt w.params K mg) : BodyD P w K mg base "longest" slongest T.longest.f ["stretches", "found", "first", "end"] 0 (B_longest T.C) := by
  intro cdv A outer s H E hr
  have hu := hu100 hr
  have hu64 := hu64_of hr
  have hu1 := hu1_of hr
  unfold B_longest
  exact ⟨_, fun M0 P0 H0 => (b_cons (s_setN (i := 1) sclongest.nd rfl (Or.inl rfl) (d_lst d_anil))
      (b_cons (s_for PassesOwn.never rfl (i_list (DN.e (d_bltN (call_SORTED hu) T.z_sorted (by decide +kernel) (d_acons (dv 0) d_anil)))) (g_tup rfl (gs_cons (g_name (i := 2) sclongest.nd rfl (Or.inl rfl)) (gs_cons (g_name (i := 3) sclongest.nd rfl (Or.inl rfl)) gs_nil))) (b_one (s_if (DW.dt (d_and (d_truV 1) (d_and1 (d_tcmp op_LE (dv 2) (d_ix (d_ixV 1 (d_neg d_int) (fun _ _ => rfl)) d_int (fun _ _ => rfl)) (nomark _))))) (b_one (s_asg (d_tup (d_acons (d_ix (d_ixV 1 (d_neg d_int) (fun _ _ => rfl)) d_int (fun _ _ => rfl)) (d_acons (d_blt (call_MAX rfl) T.z_max (by decide +kernel) (d_acons (d_ix (d_ixV 1 (d_neg d_int) (fun _ _ => rfl)) d_int (fun _ _ => rfl)) (d_acons (dv 3) d_anil))) d_anil))) (g_put 1 (d_neg d_int)))) (b_one (s_app 1 (d_tup (d_acons (dv 2) (d_acons (dv 3) d_anil))))))))
      (b_one (s_ret (d_cty call_TUPLE T.z_tuple (by decide +kernel) (d_acons (dv 1) d_anil))))))⟩
theorem ok_longest (T : Txt w.params K mg) : FnOk P w K mg base CX0 1 T.longest.f T.longest.fd ["stretches"] (spF K 1 (F_longest T.C)) := okF T.longest.F sclongest rfl rfl (bd_longest T)
set_option maxHeartbeats 2000000 in
theorem bd_heard_in (T : Txt w.params K mg) : BodyD P w K mg base "heard_in" sheard_in T.heard_in.f ["rows", "source", "found", "first", "end", "terms", "name", "tick", "_"] 1 (B_heard_in T.C) := by
  intro cdv A outer s H E hr
  have hu := hu100 hr
  have hu64 := hu64_of hr
  have hu1 := hu1_of hr
  unfold B_heard_in
  exact ⟨_, fun M0 P0 H0 => (b_cons (s_setN (i := 2) scheard_in.nd rfl (Or.inl rfl) (d_lst d_anil))
      (b_cons (s_for PassesOwn.never rfl (i_list (dv 0)) (g_tup rfl (gs_cons (g_name (i := 3) scheard_in.nd rfl (Or.inl rfl)) (gs_cons (g_name (i := 4) scheard_in.nd rfl (Or.inl rfl)) (gs_cons (g_name (i := 5) scheard_in.nd rfl (Or.inl rfl)) gs_nil)))) (b_one (s_for PassesOwn.never rfl (i_tup (dv 5)) (g_tup rfl (gs_cons (g_name (i := 6) scheard_in.nd rfl (Or.inl rfl)) (gs_cons (g_name (i := 7) scheard_in.nd rfl (Or.inl rfl)) (gs_cons (g_name (i := 8) scheard_in.nd rfl (Or.inl rfl)) gs_nil)))) (b_one (s_if (d_tcmp (op_EQ hu64) (dv 6) (dv 1) (nomark _)) (b_one (s_app 2 (d_if (d_tcmp (op_EQ hu64) (dv 7) (d_op op_SUB (dv 4) d_int) (nomark _)) (d_tup (d_acons (dv 3) (d_acons (dv 4) d_anil))) (d_tup (d_acons (dv 7) (d_acons (d_op op_ADD (dv 7) d_int) d_anil)))))) b_nil)))))
      (b_one (s_ret (d_call (ok_longest T) takesF (hr.mono (by decide)) T.longest.g T.longest.F.kp T.longest.b (d_acons (dv 2) d_anil))))))⟩
theorem ok_heard_in (T : Txt w.params K mg) : FnOk P w K mg base CX0 2 T.heard_in.f T.heard_in.fd ["rows", "source"] (spF K 2 (F_heard_in T.C)) := okF T.heard_in.F scheard_in rfl rfl (bd_heard_in T)
set_option maxHeartbeats 2000000 in
theorem bd_Track_length (T : Txt w.params K mg) : BodyD P w K mg base "Track.length" sTrack_length T.Track_length.f ["self"] 0 (B_Track_length T.C) := by
  intro cdv A outer s H E hr
  have hu := hu100 hr
  have hu64 := hu64_of hr
  have hu1 := hu1_of hr
  unfold B_Track_length
  exact ⟨_, fun M0 P0 H0 => (b_one (s_ret (d_fld (dv 0) T.cl T.n_length)))⟩
theorem ok_Track_length (T : Txt w.params K mg) : FnOk P w K mg base CX0 1 T.Track_length.f T.Track_length.fd ["self"] (spF K 1 (F_Track_length T.C)) := okF T.Track_length.F scTrack_length rfl rfl (bd_Track_length T)
set_option maxHeartbeats 2000000 in
theorem bd_Track_passes (T : Txt w.params K mg) : BodyD P w K mg base "Track.passes" sTrack_passes T.Track_passes.f ["self"] 0 (B_Track_passes T.C) := by
  intro cdv A outer s H E hr
  have hu := hu100 hr
  have hu64 := hu64_of hr
  have hu1 := hu1_of hr
  unfold B_Track_passes
  exact ⟨_, fun M0 P0 H0 => (b_one (s_ret (d_fld (dv 0) T.cl T.n_passes)))⟩
theorem ok_Track_passes (T : Txt w.params K mg) : FnOk P w K mg base CX0 1 T.Track_passes.f T.Track_passes.fd ["self"] (spF K 1 (F_Track_passes T.C)) := okF T.Track_passes.F scTrack_passes rfl rfl (bd_Track_passes T)
set_option maxHeartbeats 2000000 in
theorem bd_last_touch (T : Txt w.params K mg) : BodyD P w K mg base "last_touch" slast_touch T.last_touch.f ["touches", "tick", "found", "first", "end"] 0 (B_last_touch T.C) := by
  intro cdv A outer s H E hr
  have hu := hu100 hr
  have hu64 := hu64_of hr
  have hu1 := hu1_of hr
  unfold B_last_touch
  exact ⟨_, fun M0 P0 H0 => (b_cons (s_set (i := 2) sclast_touch.nd rfl (Or.inl rfl) d_non)
      (b_cons (s_for PassesOwn.never rfl (i_tup (dv 0)) (g_tup rfl (gs_cons (g_name (i := 3) sclast_touch.nd rfl (Or.inl rfl)) (gs_cons (g_name (i := 4) sclast_touch.nd rfl (Or.inl rfl)) gs_nil))) (b_one (s_if (d_tcmp op_LE (dv 3) (dv 1) (nomark _)) (b_one (s_set (i := 2) sclast_touch.nd rfl (Or.inl rfl) (d_blt (call_MIN rfl) T.z_min (by decide +kernel) (d_acons (dv 1) (d_acons (d_op op_SUB (dv 4) d_int) d_anil))))) b_nil)))
      (b_one (s_ret (dv 2)))))⟩
theorem ok_last_touch (T : Txt w.params K mg) : FnOk P w K mg base CX0 1 T.last_touch.f T.last_touch.fd ["touches", "tick"] (spF K 2 (F_last_touch T.C)) := okF T.last_touch.F sclast_touch rfl rfl (bd_last_touch T)
set_option maxHeartbeats 2000000 in
theorem bd_lowest (T : Txt w.params K mg) : BodyD P w K mg base "lowest" slowest T.lowest.f ["top", "bottom", "shared"] 0 (B_lowest T.C) := by
  intro cdv A outer s H E hr
  have hu := hu100 hr
  have hu64 := hu64_of hr
  have hu1 := hu1_of hr
  unfold B_lowest
  exact ⟨_, fun M0 P0 H0 => (b_cons (s_set (i := 2) sclowest.nd rfl (Or.inl rfl) (d_bfun call_GCD T.g_gcd (d_acons (dv 0) (d_acons (dv 1) d_anil))))
      (b_one (s_ret (d_tup (d_acons (d_op op_DIV (dv 0) (dv 2)) (d_acons (d_op op_DIV (dv 1) (dv 2)) d_anil))))))⟩
theorem ok_lowest (T : Txt w.params K mg) : FnOk P w K mg base CX0 1 T.lowest.f T.lowest.fd ["top", "bottom"] (spF K 2 (F_lowest T.C)) := okF T.lowest.F sclowest rfl rfl (bd_lowest T)
set_option maxHeartbeats 2000000 in
theorem bd_end_of (T : Txt w.params K mg) : BodyD P w K mg base "end_of" send_of T.end_of.f ["one_pass", "length", "_", "last", "tail"] 0 (B_end_of T.C) := by
  intro cdv A outer s H E hr
  have hu := hu100 hr
  have hu64 := hu64_of hr
  have hu1 := hu1_of hr
  unfold B_end_of
  exact ⟨_, fun M0 P0 H0 => (b_cons (s_asg (dv 0) (g_tup rfl (gs_cons (g_name (i := 2) scend_of.nd rfl (Or.inl rfl)) (gs_cons (g_name (i := 2) scend_of.nd rfl (Or.inl rfl)) (gs_cons (g_name (i := 2) scend_of.nd rfl (Or.inl rfl)) (gs_cons (g_name (i := 3) scend_of.nd rfl (Or.inl rfl)) (gs_cons (g_name (i := 2) scend_of.nd rfl (Or.inl rfl)) (gs_cons (g_name (i := 2) scend_of.nd rfl (Or.inl rfl)) (gs_cons (g_name (i := 4) scend_of.nd rfl (Or.inl rfl)) gs_nil)))))))))
      (b_one (s_ret (d_if (d_tcmp (op_EQ hu64) (dv 4) d_str (nomark _)) (dv 1) (dv 3)))))⟩
theorem ok_end_of (T : Txt w.params K mg) : FnOk P w K mg base CX0 1 T.end_of.f T.end_of.fd ["one_pass", "length"] (spF K 2 (F_end_of T.C)) := okF T.end_of.F scend_of rfl rfl (bd_end_of T)
set_option maxHeartbeats 2000000 in
theorem bd_written (T : Txt w.params K mg) : BodyD P w K mg base "written" swritten T.written.f ["one_pass", "length", "tick", "_", "mode", "first", "touches", "glide", "hand", "gone", "rest"] 1 (B_written T.C) := by
  intro cdv A outer s H E hr
  have hu := hu100 hr
  have hu64 := hu64_of hr
  have hu1 := hu1_of hr
  unfold B_written
  exact ⟨_, fun M0 P0 H0 => (b_cons (s_asg (dv 0) (g_tup rfl (gs_cons (g_name (i := 3) scwritten.nd rfl (Or.inl rfl)) (gs_cons (g_name (i := 4) scwritten.nd rfl (Or.inl rfl)) (gs_cons (g_name (i := 5) scwritten.nd rfl (Or.inl rfl)) (gs_cons (g_name (i := 3) scwritten.nd rfl (Or.inl rfl)) (gs_cons (g_name (i := 6) scwritten.nd rfl (Or.inl rfl)) (gs_cons (g_name (i := 7) scwritten.nd rfl (Or.inl rfl)) (gs_cons (g_name (i := 3) scwritten.nd rfl (Or.inl rfl)) gs_nil)))))))))
      (b_cons (s_if (d_not (d_tchain op_LE op_LT (dv 5) (dv 2) (d_call (ok_end_of T) takesF (hr.mono (by decide)) T.end_of.g T.end_of.F.kp T.end_of.b (d_acons (dv 0) (d_acons (dv 1) d_anil))))) (b_one (s_ret d_non)) b_nil)
      (b_cons (s_set (i := 8) scwritten.nd rfl (Or.inl rfl) (d_call (ok_last_touch T) takesF (hr.mono (by decide)) T.last_touch.g T.last_touch.F.kp T.last_touch.b (d_acons (dv 6) (d_acons (dv 2) d_anil))))
      (b_cons (s_if (d_tcmp op_IS (dv 8) d_non (nomark _)) (b_one (s_ret (d_if (d_tcmp (op_EQ hu64) (dv 4) d_str (nomark _)) (d_tup (d_acons d_non (d_acons (d_gtu T.c_NOTHING.g T.c_NOTHING.q (fun _ _ => (.cons (.int _) (.cons (.int _) .nil)))) (d_acons (dv 5) (d_acons (d_gtu T.c_WHOLE.g T.c_WHOLE.q (fun _ _ => (.cons (.int _) (.cons (.int _) .nil)))) d_anil))))) d_non))) b_nil)
      (b_cons (s_if (DW.dt (d_or (d_tcmp (op_EQ hu64) (dv 4) d_str (nomark _)) (d_or1 (d_tcmp (op_EQ hu64) (dv 4) d_str (nomark _))))) (b_one (s_ret (d_tup (d_acons (dv 8) (d_acons (d_gtu T.c_WHOLE.g T.c_WHOLE.q (fun _ _ => (.cons (.int _) (.cons (.int _) .nil)))) (d_acons (dv 2) (d_acons (d_gtu T.c_NOTHING.g T.c_NOTHING.q (fun _ _ => (.cons (.int _) (.cons (.int _) .nil)))) d_anil))))))) b_nil)
      (b_cons (s_set (i := 9) scwritten.nd rfl (Or.inl rfl) (d_op op_SUB (dv 2) (dv 8)))
      (b_cons (s_if (d_tcmp op_GT (dv 9) (dv 7) (nomark _)) (b_one (s_ret d_non)) b_nil)
      (b_cons (s_set (i := 10) scwritten.nd rfl (Or.inl rfl) (d_if (d_tcmp (op_EQ hu64) (dv 4) d_str (nomark _)) (d_gtu T.c_WHOLE.g T.c_WHOLE.q (fun _ _ => (.cons (.int _) (.cons (.int _) .nil)))) (d_call (ok_lowest T) takesF (hr.mono (by decide)) T.lowest.g T.lowest.F.kp T.lowest.b (d_acons (dv 9) (d_acons (d_op op_ADD (dv 7) d_int) d_anil)))))
      (b_one (s_ret (d_tup (d_acons (dv 8) (d_acons (d_call (ok_lowest T) takesF (hr.mono (by decide)) T.lowest.g T.lowest.F.kp T.lowest.b (d_acons (d_op op_SUB (d_op op_ADD (dv 7) d_int) (dv 9)) (d_acons (d_op op_ADD (dv 7) d_int) d_anil))) (d_acons (dv 2) (d_acons (dv 10) d_anil)))))))))))))))⟩
theorem ok_written (T : Txt w.params K mg) : FnOk P w K mg base CX0 2 T.written.f T.written.fd ["one_pass", "length", "tick"] (spF K 3 (F_written T.C)) := okF T.written.F scwritten rfl rfl (bd_written T)
set_option maxHeartbeats 2000000 in
theorem bd_times (T : Txt w.params K mg) : BodyD P w K mg base "times" stimes T.times.f ["one", "other"] 1 (B_times T.C) := by
  intro cdv A outer s H E hr
  have hu := hu100 hr
  have hu64 := hu64_of hr
  have hu1 := hu1_of hr
  unfold B_times
  exact ⟨_, fun M0 P0 H0 => (b_one (s_ret (d_call (ok_lowest T) takesF (hr.mono (by decide)) T.lowest.g T.lowest.F.kp T.lowest.b (d_acons (d_op op_MUL (d_ix (dv 0) d_int (fun _ _ => rfl)) (d_ix (dv 1) d_int (fun _ _ => rfl))) (d_acons (d_op op_MUL (d_ix (dv 0) d_int (fun _ _ => rfl)) (d_ix (dv 1) d_int (fun _ _ => rfl))) d_anil)))))⟩
theorem ok_times (T : Txt w.params K mg) : FnOk P w K mg base CX0 2 T.times.f T.times.fd ["one", "other"] (spF K 2 (F_times T.C)) := okF T.times.F sctimes rfl rfl (bd_times T)
set_option maxHeartbeats 2000000 in
theorem bd_taken_by (T : Txt w.params K mg) : BodyD P w K mg base "taken_by" staken_by T.taken_by.f ["one_pass", "length", "left", "tick", "weight", "told", "hand", "share", "place", "rest", "taken"] 2 (B_taken_by T.C) := by
  intro cdv A outer s H E hr
  have hu := hu100 hr
  have hu64 := hu64_of hr
  have hu1 := hu1_of hr
  unfold B_taken_by
  exact ⟨_, fun M0 P0 H0 => (b_cons (s_asg (dv 2) (g_tup rfl (gs_cons (g_name (i := 3) sctaken_by.nd rfl (Or.inl rfl)) (gs_cons (g_name (i := 4) sctaken_by.nd rfl (Or.inl rfl)) gs_nil))))
      (b_cons (s_set (i := 5) sctaken_by.nd rfl (Or.inl rfl) (d_call (ok_written T) takesF (hr.mono (by decide)) T.written.g T.written.F.kp T.written.b (d_acons (dv 0) (d_acons (dv 1) (d_acons (dv 3) d_anil)))))
      (b_cons (s_if (d_tcmp op_IS (dv 5) d_non (nomark _)) (b_one (s_ret (d_tup (d_acons d_non (d_acons (dv 2) d_anil))))) b_nil)
      (b_cons (s_asg (dv 5) (g_tup rfl (gs_cons (g_name (i := 6) sctaken_by.nd rfl (Or.inl rfl)) (gs_cons (g_name (i := 7) sctaken_by.nd rfl (Or.inl rfl)) (gs_cons (g_name (i := 8) sctaken_by.nd rfl (Or.inl rfl)) (gs_cons (g_name (i := 9) sctaken_by.nd rfl (Or.inl rfl)) gs_nil))))))
      (b_cons (s_set (i := 10) sctaken_by.nd rfl (Or.inl rfl) (d_if (d_tcmp op_IS (dv 6) d_non (nomark _)) d_non (d_tup (d_acons (dv 6) (d_acons (d_call (ok_times T) takesF (hr.mono (by decide)) T.times.g T.times.F.kp T.times.b (d_acons (dv 4) (d_acons (dv 7) d_anil))) d_anil)))))
      (b_one (s_ret (d_tup (d_acons (dv 10) (d_acons (d_if (d_tcmp (op_EQ hu64) (dv 9) (d_gtu T.c_NOTHING.g T.c_NOTHING.q (fun _ _ => (.cons (.int _) (.cons (.int _) .nil)))) (nomark _)) d_non (d_tup (d_acons (dv 8) (d_acons (d_call (ok_times T) takesF (hr.mono (by decide)) T.times.g T.times.F.kp T.times.b (d_acons (dv 4) (d_acons (dv 9) d_anil))) d_anil)))) d_anil))))))))))⟩
theorem ok_taken_by (T : Txt w.params K mg) : FnOk P w K mg base CX0 3 T.taken_by.f T.taken_by.fd ["one_pass", "length", "left"] (spF K 3 (F_taken_by T.C)) := okF T.taken_by.F sctaken_by rfl rfl (bd_taken_by T)
set_option maxHeartbeats 2000000 in
theorem bd_form_of (T : Txt w.params K mg) : BodyD P w K mg base "form_of" sform_of T.form_of.f ["passes", "length", "tick", "terms", "left", "one", "taken"] 3 (B_form_of T.C) := by
  intro cdv A outer s H E hr
  have hu := hu100 hr
  have hu64 := hu64_of hr
  have hu1 := hu1_of hr
  unfold B_form_of
  exact ⟨_, fun M0 P0 H0 => (b_cons (s_setN (i := 3) scform_of.nd rfl (Or.inl rfl) (d_lst d_anil))
      (b_cons (s_set (i := 4) scform_of.nd rfl (Or.inl rfl) (d_tup (d_acons (dv 2) (d_acons (d_gtu T.c_WHOLE.g T.c_WHOLE.q (fun _ _ => (.cons (.int _) (.cons (.int _) .nil)))) d_anil))))
      (b_cons (s_for PassesOwn.never rfl (i_tup (d_revT (k := 0) (dv 0))) (g_name (i := 5) scform_of.nd rfl (Or.inl rfl)) (b_cons (s_asg (d_call (ok_taken_by T) takesF (hr.mono (by decide)) T.taken_by.g T.taken_by.F.kp T.taken_by.b (d_acons (dv 5) (d_acons (dv 1) (d_acons (dv 4) d_anil)))) (g_tup rfl (gs_cons (g_name (i := 6) scform_of.nd rfl (Or.inl rfl)) (gs_cons (g_name (i := 4) scform_of.nd rfl (Or.inl rfl)) gs_nil))))
      (b_cons (s_if (d_tcmp op_ISNOT (dv 6) d_non (nomark _)) (b_one (s_app 3 (d_tup (d_acons (d_ix (dv 5) d_int (fun _ _ => rfl)) (d_astar (dv 6) d_anil))))) b_nil)
      (b_one (s_if (d_tcmp op_IS (dv 4) d_non (nomark _)) (b_one (s_ret (d_cty call_TUPLE T.z_tuple (by decide +kernel) (d_acons (DN.e (d_bltN (call_SORTED hu) T.z_sorted (by decide +kernel) (d_acons (dv 3) d_anil))) d_anil)))) b_nil)))))
      (b_cons (s_app 3 (d_tup (d_acons (d_gs T.c_OLD) (d_astar (dv 4) d_anil))))
      (b_one (s_ret (d_cty call_TUPLE T.z_tuple (by decide +kernel) (d_acons (DN.e (d_bltN (call_SORTED hu) T.z_sorted (by decide +kernel) (d_acons (dv 3) d_anil))) d_anil))))))))⟩
theorem ok_form_of (T : Txt w.params K mg) : FnOk P w K mg base CX0 4 T.form_of.f T.form_of.fd ["passes", "length", "tick"] (spF K 3 (F_form_of T.C)) := okF T.form_of.F scform_of rfl rfl (bd_form_of T)
set_option maxHeartbeats 2000000 in
theorem bd_edges_of (T : Txt w.params K mg) : BodyD P w K mg base "edges_of" sedges_of T.edges_of.f ["one_pass", "length", "_", "mode", "first", "touches", "glide", "end", "edges", "begin", "until", "steps"] 1 (B_edges_of T.C) := by
  intro cdv A outer s H E hr
  have hu := hu100 hr
  have hu64 := hu64_of hr
  have hu1 := hu1_of hr
  unfold B_edges_of
  exact ⟨_, fun M0 P0 H0 => (b_cons (s_asg (dv 0) (g_tup rfl (gs_cons (g_name (i := 2) scedges_of.nd rfl (Or.inl rfl)) (gs_cons (g_name (i := 3) scedges_of.nd rfl (Or.inl rfl)) (gs_cons (g_name (i := 4) scedges_of.nd rfl (Or.inl rfl)) (gs_cons (g_name (i := 2) scedges_of.nd rfl (Or.inl rfl)) (gs_cons (g_name (i := 5) scedges_of.nd rfl (Or.inl rfl)) (gs_cons (g_name (i := 6) scedges_of.nd rfl (Or.inl rfl)) (gs_cons (g_name (i := 2) scedges_of.nd rfl (Or.inl rfl)) gs_nil)))))))))
      (b_cons (s_set (i := 7) scedges_of.nd rfl (Or.inl rfl) (d_call (ok_end_of T) takesF (hr.mono (by decide)) T.end_of.g T.end_of.F.kp T.end_of.b (d_acons (dv 0) (d_acons (dv 1) d_anil))))
      (b_cons (s_setN (i := 8) scedges_of.nd rfl (Or.inl rfl) (d_lst (d_acons (dv 4) (d_acons (d_op op_ADD (dv 4) d_int) (d_acons (dv 7) d_anil)))))
      (b_cons (s_for PassesOwn.never rfl (i_tup (dv 5)) (g_tup rfl (gs_cons (g_name (i := 9) scedges_of.nd rfl (Or.inl rfl)) (gs_cons (g_name (i := 10) scedges_of.nd rfl (Or.inl rfl)) gs_nil))) (b_cons (s_set (i := 11) scedges_of.nd rfl (Or.inl rfl) (d_if (d_tcmp (op_IN hu) (dv 3) (d_gtu T.c_GLIDING.g T.c_GLIDING.q (fun _ _ => (.cons (.str _) (.cons (.str _) .nil)))) (by rfl)) (dv 6) d_int))
      (b_one (s_ext 8 (d_op op_ADD (DN.e (d_lst (d_acons (dv 9) d_anil))) (DN.e (d_listR2 rfl T.z_list T.z_range (dv 10) (d_op op_ADD (d_blt (call_MIN rfl) T.z_min (by decide +kernel) (d_acons (d_op op_ADD (dv 10) (dv 11)) (d_acons (dv 7) d_anil))) d_int))))))))
      (b_one (s_ret (dv 8)))))))⟩
theorem ok_edges_of (T : Txt w.params K mg) : FnOk P w K mg base CX0 2 T.edges_of.f T.edges_of.fd ["one_pass", "length"] (spF K 2 (F_edges_of T.C)) := okF T.edges_of.F scedges_of rfl rfl (bd_edges_of T)
set_option maxHeartbeats 2000000 in
theorem bd_segments (T : Txt w.params K mg) : BodyD P w K mg base "segments" ssegments T.segments.f ["length", "passes", "edges", "one", "ordered"] 2 (B_segments T.C) := by
  intro cdv A outer s H E hr
  have hu := hu100 hr
  have hu64 := hu64_of hr
  have hu1 := hu1_of hr
  unfold B_segments
  exact ⟨_, fun M0 P0 H0 => (b_cons (s_setN (i := 2) scsegments.nd rfl (Or.inl rfl) (d_lst (d_acons d_int (d_acons (dv 0) d_anil))))
      (b_cons (s_for PassesOwn.never rfl (i_tup (dv 1)) (g_name (i := 3) scsegments.nd rfl (Or.inl rfl)) (b_one (s_ext 2 (d_call (ok_edges_of T) takesF (hr.mono (by decide)) T.edges_of.g T.edges_of.F.kp T.edges_of.b (d_acons (dv 3) (d_acons (dv 0) d_anil))))))
      (b_cons (s_set (i := 4) scsegments.nd rfl (Or.inl rfl) (DN.e (d_sortset T.z_sorted T.z_set (d_acons (dv 2) d_anil))))
      (b_one (s_ret (DN.e (d_listzip T.z_list T.z_zip (d_acons (dv 4) (d_acons (d_sl (dv 4) (d_part d_int) d_no) d_anil)))))))))⟩
theorem ok_segments (T : Txt w.params K mg) : FnOk P w K mg base CX0 3 T.segments.f T.segments.fd ["length", "passes"] (spF K 2 (F_segments T.C)) := okF T.segments.F scsegments rfl rfl (bd_segments T)
set_option maxHeartbeats 2000000 in
theorem bd_formed_segments (T : Txt w.params K mg) : BodyD P w K mg base "formed_segments" sformed_segments T.formed_segments.f ["track", "length", "passes", "first", "end"] 4 (B_formed_segments T.C) := by
  intro cdv A outer s H E hr
  have hu := hu100 hr
  have hu64 := hu64_of hr
  have hu1 := hu1_of hr
  unfold B_formed_segments
  exact ⟨_, fun M0 P0 H0 => (b_cons (s_parT (n := 2) (is := [1, 2]) rfl (f_dat (d_prop (dv 0) T.cl T.Track_length.P (ok_Track_length T) takesF (hr.mono (by decide)) T.Track_length.b) (f_dat (d_prop (dv 0) T.cl T.Track_passes.P (ok_Track_passes T) takesF (hr.mono (by decide)) T.Track_passes.b) f_nil)) (pgs_cons (pg_name (i := 1) scformed_segments.nd rfl (Or.inr rfl)) (pgs_cons (pg_name (i := 2) scformed_segments.nd rfl (Or.inr rfl)) pgs_nil)))
      (b_one (s_ret (DN.e (d_lc (own := [("first", 3), ("end", 4)]) rfl scformed_segments.nd (i_list (d_call (ok_segments T) takesF (hr.mono (by decide)) T.segments.g T.segments.F.kp T.segments.b (d_acons (dv 1) (d_acons (dv 2) d_anil)))) (blkOk_by (N := ["track", "length", "passes", "first", "end"]) (sc := defScope sformed_segments) (by decide +kernel)) (own_tu (own_con (own_nam (by decide)) (own_con (own_nam (by decide)) own_ni))).1 ⟨fun _ _ _ _ _ => (g_tup rfl (gs_cons (g_name (i := 3) scformed_segments.nd rfl (Or.inl rfl)) (gs_cons (g_name (i := 4) scformed_segments.nd rfl (Or.inl rfl)) gs_nil))), fun _ _ _ _ _ => t_nil, fun _ _ _ _ _ => (d_tup (d_acons (dv 3) (d_acons (dv 4) (d_acons (d_call (ok_form_of T) takesF (hr.mono (by decide)) T.form_of.g T.form_of.F.kp T.form_of.b (d_acons (dv 2) (d_acons (dv 1) (d_acons (d_op op_SUB (dv 4) d_int) d_anil)))) d_anil))))⟩)))))⟩
theorem ok_formed_segments (T : Txt w.params K mg) : FnOk P w K mg base CX0 5 T.formed_segments.f T.formed_segments.fd ["track"] (spF K 1 (F_formed_segments T.C)) := okF T.formed_segments.F scformed_segments rfl rfl (bd_formed_segments T)
set_option maxHeartbeats 2000000 in
theorem bd_heard (T : Txt w.params K mg) : BodyD P w K mg base "heard" sheard T.heard.f ["track", "name"] 5 (B_heard T.C) := by
  intro cdv A outer s H E hr
  have hu := hu100 hr
  have hu64 := hu64_of hr
  have hu1 := hu1_of hr
  unfold B_heard
  exact ⟨_, fun M0 P0 H0 => (b_cons (s_expr (d_call (ok_check_track T) takesF (hr.mono (by decide)) T.check_track.g T.check_track.F.kp T.check_track.b (d_acons (dv 0) d_anil)))
      (b_cons (s_expr (d_call (ok_check_name T) takesF (hr.mono (by decide)) T.check_name.g T.check_name.F.kp T.check_name.b (d_acons (dv 0) (d_acons (dv 1) d_anil))))
      (b_one (s_ret (d_call (ok_heard_in T) takesF (hr.mono (by decide)) T.heard_in.g T.heard_in.F.kp T.heard_in.b (d_acons (d_call (ok_formed_segments T) takesF (hr.mono (by decide)) T.formed_segments.g T.formed_segments.F.kp T.formed_segments.b (d_acons (dv 0) d_anil)) (d_acons (dv 1) d_anil)))))))⟩
theorem ok_heard (T : Txt w.params K mg) : FnOk P w K mg base CX0 6 T.heard.f T.heard.fd ["track", "name"] (spF K 2 (F_heard T.C)) := okF T.heard.F scheard rfl rfl (bd_heard T)
set_option maxHeartbeats 2000000 in
theorem bd_old_heard (T : Txt w.params K mg) : BodyD P w K mg base "old_heard" sold_heard T.old_heard.f ["track"] 5 (B_old_heard T.C) := by
  intro cdv A outer s H E hr
  have hu := hu100 hr
  have hu64 := hu64_of hr
  have hu1 := hu1_of hr
  unfold B_old_heard
  exact ⟨_, fun M0 P0 H0 => (b_cons (s_expr (d_call (ok_check_track T) takesF (hr.mono (by decide)) T.check_track.g T.check_track.F.kp T.check_track.b (d_acons (dv 0) d_anil)))
      (b_one (s_ret (d_call (ok_heard_in T) takesF (hr.mono (by decide)) T.heard_in.g T.heard_in.F.kp T.heard_in.b (d_acons (d_call (ok_formed_segments T) takesF (hr.mono (by decide)) T.formed_segments.g T.formed_segments.F.kp T.formed_segments.b (d_acons (dv 0) d_anil)) (d_acons (d_gs T.c_OLD) d_anil))))))⟩
theorem ok_old_heard (T : Txt w.params K mg) : FnOk P w K mg base CX0 6 T.old_heard.f T.old_heard.fd ["track"] (spF K 1 (F_old_heard T.C)) := okF T.old_heard.F scold_heard rfl rfl (bd_old_heard T)
set_option maxHeartbeats 2000000 in
theorem bd_kept_in (T : Txt w.params K mg) : BodyD P w K mg base "kept_in" skept_in T.kept_in.f ["rows", "first", "end", "terms"] 1 (B_kept_in T.C) := by
  intro cdv A outer s H E hr
  have hu := hu100 hr
  have hu64 := hu64_of hr
  have hu1 := hu1_of hr
  unfold B_kept_in
  exact ⟨_, fun M0 P0 H0 => (b_one (s_ret (d_call (ok_longest T) takesF (hr.mono (by decide)) T.longest.g T.longest.F.kp T.longest.b (d_acons (DN.e (d_lc (own := [("first", 1), ("end", 2), ("terms", 3)]) rfl sckept_in.nd (i_list (dv 0)) (blkOk_by (N := ["rows", "first", "end", "terms"]) (sc := defScope skept_in) (by decide +kernel)) (own_tu (own_con (own_nam (by decide)) (own_con (own_nam (by decide)) (own_con (own_nam (by decide)) own_ni)))).1 ⟨fun _ _ _ _ _ => (g_tup rfl (gs_cons (g_name (i := 1) sckept_in.nd rfl (Or.inl rfl)) (gs_cons (g_name (i := 2) sckept_in.nd rfl (Or.inl rfl)) (gs_cons (g_name (i := 3) sckept_in.nd rfl (Or.inl rfl)) gs_nil)))), fun _ _ _ _ _ => (t_one (d_tcmp (op_EQ hu64) (dv 3) (d_tup (d_acons (d_tup (d_acons (d_gs T.c_OLD) (d_acons (d_op op_SUB (dv 2) d_int) (d_acons (d_gtu T.c_WHOLE.g T.c_WHOLE.q (fun _ _ => (.cons (.int _) (.cons (.int _) .nil)))) d_anil)))) d_anil)) (nomark _))), fun _ _ _ _ _ => (d_tup (d_acons (dv 1) (d_acons (dv 2) d_anil)))⟩)) d_anil))))⟩
theorem ok_kept_in (T : Txt w.params K mg) : FnOk P w K mg base CX0 2 T.kept_in.f T.kept_in.fd ["rows"] (spF K 1 (F_kept_in T.C)) := okF T.kept_in.F sckept_in rfl rfl (bd_kept_in T)
set_option maxHeartbeats 2000000 in
theorem bd_kept (T : Txt w.params K mg) : BodyD P w K mg base "kept" skept T.kept.f ["track"] 5 (B_kept T.C) := by
  intro cdv A outer s H E hr
  have hu := hu100 hr
  have hu64 := hu64_of hr
  have hu1 := hu1_of hr
  unfold B_kept
  exact ⟨_, fun M0 P0 H0 => (b_cons (s_expr (d_call (ok_check_track T) takesF (hr.mono (by decide)) T.check_track.g T.check_track.F.kp T.check_track.b (d_acons (dv 0) d_anil)))
      (b_one (s_ret (d_call (ok_kept_in T) takesF (hr.mono (by decide)) T.kept_in.g T.kept_in.F.kp T.kept_in.b (d_acons (d_call (ok_formed_segments T) takesF (hr.mono (by decide)) T.formed_segments.g T.formed_segments.F.kp T.formed_segments.b (d_acons (dv 0) d_anil)) d_anil)))))⟩
theorem ok_kept (T : Txt w.params K mg) : FnOk P w K mg base CX0 6 T.kept.f T.kept.fd ["track"] (spF K 1 (F_kept T.C)) := okF T.kept.F sckept rfl rfl (bd_kept T)
set_option maxHeartbeats 2000000 in
theorem bd_law_touched (T : Txt w.params K mg) : BodyD P w K mg base "_law_touched" slaw_touched T.law_touched.f ["touches_here", "tick_here", "found", "a", "b"] 0 (B_law_touched T.C) := by
  intro cdv A outer s H E hr
  have hu := hu100 hr
  have hu64 := hu64_of hr
  have hu1 := hu1_of hr
  unfold B_law_touched
  exact ⟨_, fun M0 P0 H0 => (b_cons (s_set (i := 2) sclaw_touched.nd rfl (Or.inl rfl) d_non)
      (b_cons (s_for PassesOwn.never rfl (i_tup (dv 0)) (g_tup rfl (gs_cons (g_name (i := 3) sclaw_touched.nd rfl (Or.inl rfl)) (gs_cons (g_name (i := 4) sclaw_touched.nd rfl (Or.inl rfl)) gs_nil))) (b_one (s_if (d_tcmp op_LE (dv 3) (dv 1) (nomark _)) (b_one (s_set (i := 2) sclaw_touched.nd rfl (Or.inl rfl) (d_blt (call_MIN rfl) T.z_min (by decide +kernel) (d_acons (d_op op_SUB (dv 4) d_int) (d_acons (dv 1) d_anil))))) b_nil)))
      (b_one (s_ret (dv 2)))))⟩
theorem ok_law_touched (T : Txt w.params K mg) : FnOk P w K mg base CX0 1 T.law_touched.f T.law_touched.fd ["touches_here", "tick_here"] (spF K 2 (F_law_touched T.C)) := okF T.law_touched.F sclaw_touched rfl rfl (bd_law_touched T)
set_option maxHeartbeats 2000000 in
theorem bd_law_low (T : Txt w.params K mg) : BodyD P w K mg base "_law_low" slaw_low T.law_low.f ["top", "bottom", "high", "less"] 0 (B_law_low T.C) := by
  intro cdv A outer s H E hr
  have hu := hu100 hr
  have hu64 := hu64_of hr
  have hu1 := hu1_of hr
  unfold B_law_low
  exact ⟨_, fun M0 P0 H0 => (b_cons (s_par (i := 2) (j := 3) rfl sclaw_low.nd rfl rfl (by decide) rfl rfl (f_dat (d_blt call_ABS T.z_abs (by decide +kernel) (d_acons (dv 0) d_anil)) (f_dat (dv 1) f_nil)) (by rfl))
      (b_cons (s_while (fuelI 3) PassesOwn.never (d_tcmp op_GT (dv 3) d_int (nomark _)) (b_one (s_par (i := 2) (j := 3) rfl sclaw_low.nd rfl rfl (by decide) rfl rfl (f_dat (dv 3) (f_dat (d_op op_MOD (d_cty call_INT T.z_int (by decide +kernel) (d_acons (dv 2) d_anil)) (dv 3)) f_nil)) (by rfl))))
      (b_one (s_ret (d_tup (d_acons (d_op op_DIV (dv 0) (dv 2)) (d_acons (d_op op_DIV (dv 1) (dv 2)) d_anil)))))))⟩
theorem ok_law_low (T : Txt w.params K mg) : FnOk P w K mg base CX0 1 T.law_low.f T.law_low.fd ["top", "bottom"] (spF K 2 (F_law_low T.C)) := okF T.law_low.F sclaw_low rfl rfl (bd_law_low T)
set_option maxHeartbeats 2000000 in
theorem bd_law_mixed (T : Txt w.params K mg) : BodyD P w K mg base "_law_mixed" slaw_mixed T.law_mixed.f ["ahead", "name_here", "spot", "share", "rest", "found", "each", "at", "part"] 1 (B_law_mixed T.C) := by
  intro cdv A outer s H E hr
  have hu := hu100 hr
  have hu64 := hu64_of hr
  have hu1 := hu1_of hr
  unfold B_law_mixed
  exact ⟨_, fun M0 P0 H0 => (b_cons (s_setN (i := 5) sclaw_mixed.nd rfl (Or.inl rfl) d_dnew)
      (b_cons (s_forD PassesOwn.never rfl 0 (fun _ => (g_name (i := 6) sclaw_mixed.nd rfl (Or.inl rfl))) (fun _ => (b_cons (s_asg (d_dget hu1 (dv 0) (dv 6)) (g_tup rfl (gs_cons (g_name (i := 7) sclaw_mixed.nd rfl (Or.inl rfl)) (gs_cons (g_name (i := 8) sclaw_mixed.nd rfl (Or.inl rfl)) gs_nil))))
      (b_one (s_dput hu1 5 (dv 6) (d_tup (d_acons (dv 7) (d_acons (d_call (ok_law_low T) takesF (hr.mono (by decide)) T.law_low.g T.law_low.F.kp T.law_low.b (d_acons (d_op op_MUL (d_ix (dv 8) d_int (fun _ _ => rfl)) (d_ix (dv 4) d_int (fun _ _ => rfl))) (d_acons (d_op op_MUL (d_ix (dv 8) d_int (fun _ _ => rfl)) (d_ix (dv 4) d_int (fun _ _ => rfl))) d_anil))) d_anil))))))))
      (b_cons (s_dput hu1 5 (dv 1) (d_tup (d_acons (dv 2) (d_acons (dv 3) d_anil))))
      (b_one (s_ret (dv 5))))))⟩
theorem ok_law_mixed (T : Txt w.params K mg) : FnOk P w K mg base CX0 2 T.law_mixed.f T.law_mixed.fd ["ahead", "name_here", "spot", "share", "rest"] (spF K 5 (F_law_mixed T.C)) := okF T.law_mixed.F sclaw_mixed rfl rfl (bd_law_mixed T)
theorem takes_law_at (C : Addr) : ∀ i, Takes 3 (F_law_at C i)
  | 0 => fun ds d h => by cases h
  | i + 1 => takesF
set_option maxHeartbeats 2000000 in
theorem bd_law_at (T : Txt w.params K mg) (i : Nat) (ih : FnOk P w K mg base CX0 (2 + i) T.law_at.f T.law_at.fd ["long", "some", "tick_here"] (spF K 3 (F_law_at T.C i))) : BodyD P w K mg base "_law_at" slaw_at T.law_at.f ["long", "some", "tick_here", "name_here", "mode", "first", "last", "touches_here", "slide", "tail", "spot", "ahead", "k", "share"] (2 + i) (B_law_at T.C (F_law_at T.C i)) := by
  intro cdv A outer s H E hr
  have hu := hu100 hr
  have hu64 := hu64_of hr
  have hu1 := hu1_of hr
  have takesR := takes_law_at T.C i
  unfold B_law_at
  exact ⟨_, fun M0 P0 H0 => (b_cons (s_if (d_tcmp (op_EQ hu64) (dv 1) (d_tup d_anil) (nomark _)) (b_one (s_ret (DN.e (d_disp1 d_str (d_tup (d_acons (dv 2) (d_acons (d_tup (d_acons d_int (d_acons d_int d_anil))) d_anil))))))) b_nil)
      (b_cons (s_asg (d_ix (dv 1) (d_neg d_int) (fun _ _ => rfl)) (g_tup rfl (gs_cons (g_name (i := 3) sclaw_at.nd rfl (Or.inl rfl)) (gs_cons (g_name (i := 4) sclaw_at.nd rfl (Or.inl rfl)) (gs_cons (g_name (i := 5) sclaw_at.nd rfl (Or.inl rfl)) (gs_cons (g_name (i := 6) sclaw_at.nd rfl (Or.inl rfl)) (gs_cons (g_name (i := 7) sclaw_at.nd rfl (Or.inl rfl)) (gs_cons (g_name (i := 8) sclaw_at.nd rfl (Or.inl rfl)) (gs_cons (g_name (i := 9) sclaw_at.nd rfl (Or.inl rfl)) gs_nil)))))))))
      (b_cons (s_if (DW.dt (d_or (d_tcmp op_LT (dv 2) (dv 5) (nomark _)) (d_or1 (d_tcmp op_GE (dv 2) (d_if (d_tcmp (op_EQ hu64) (dv 9) d_str (nomark _)) (dv 6) (dv 0)) (nomark _))))) (b_one (s_ret (d_call ih takesR (hr.mono (by omega)) T.law_at.g T.law_at.F.kp T.law_at.b (d_acons (dv 0) (d_acons (d_sl (dv 1) d_no (d_part (d_neg d_int))) (d_acons (dv 2) d_anil)))))) b_nil)
      (b_cons (s_set (i := 10) sclaw_at.nd rfl (Or.inl rfl) (d_call (ok_law_touched T) takesF (hr.mono (by omega)) T.law_touched.g T.law_touched.F.kp T.law_touched.b (d_acons (dv 7) (d_acons (dv 2) d_anil))))
      (b_cons (s_if (DW.dt (d_and (d_tcmp (op_IN hu) (dv 4) (DN.e (d_lst (d_acons d_str (d_acons d_str d_anil)))) (by rfl)) (d_and1 (d_tcmp op_ISNOT (dv 10) d_non (nomark _))))) (b_one (s_ret (DN.e (d_disp1 (dv 3) (d_tup (d_acons (dv 10) (d_acons (d_tup (d_acons d_int (d_acons d_int d_anil))) d_anil))))))) b_nil)
      (b_cons (s_if (d_tcmp (op_EQ hu64) (dv 4) d_str (nomark _)) (b_one (s_ret (d_call ih takesR (hr.mono (by omega)) T.law_at.g T.law_at.F.kp T.law_at.b (d_acons (dv 0) (d_acons (d_sl (dv 1) d_no (d_part (d_neg d_int))) (d_acons (dv 5) d_anil)))))) b_nil)
      (b_cons (s_set (i := 11) sclaw_at.nd rfl (Or.inl rfl) (d_call ih takesR (hr.mono (by omega)) T.law_at.g T.law_at.F.kp T.law_at.b (d_acons (dv 0) (d_acons (d_sl (dv 1) d_no (d_part (d_neg d_int))) (d_acons (dv 2) d_anil)))))
      (b_cons (s_if (DW.dt (d_or (d_tcmp (op_EQ hu64) (dv 4) d_str (nomark _)) (d_or (d_tcmp op_IS (dv 10) d_non (nomark _)) (d_or1 (d_tcmp op_GT (d_op op_SUB (dv 2) (dv 10)) (dv 8) (nomark _)))))) (b_one (s_ret (dv 11))) b_nil)
      (b_cons (s_set (i := 12) sclaw_at.nd rfl (Or.inl rfl) (d_op op_SUB (dv 2) (dv 10)))
      (b_cons (s_set (i := 13) sclaw_at.nd rfl (Or.inl rfl) (d_call (ok_law_low T) takesF (hr.mono (by omega)) T.law_low.g T.law_low.F.kp T.law_low.b (d_acons (d_op op_SUB (d_op op_ADD (dv 8) d_int) (dv 12)) (d_acons (d_op op_ADD (dv 8) d_int) d_anil))))
      (b_cons (s_if (d_tcmp (op_EQ hu64) (dv 4) d_str (nomark _)) (b_one (s_ret (d_call (ok_law_mixed T) takesF (hr.mono (by omega)) T.law_mixed.g T.law_mixed.F.kp T.law_mixed.b (d_acons (dv 11) (d_acons (dv 3) (d_acons (dv 10) (d_acons (dv 13) (d_acons (d_tup (d_acons d_int (d_acons d_int d_anil))) d_anil)))))))) b_nil)
      (b_cons (s_if (d_tcmp (op_EQ hu64) (dv 12) d_int (nomark _)) (b_one (s_ret (DN.e (d_disp1 (dv 3) (d_tup (d_acons (dv 10) (d_acons (d_tup (d_acons d_int (d_acons d_int d_anil))) d_anil))))))) b_nil)
      (b_one (s_ret (d_call (ok_law_mixed T) takesF (hr.mono (by omega)) T.law_mixed.g T.law_mixed.F.kp T.law_mixed.b (d_acons (dv 11) (d_acons (dv 3) (d_acons (dv 10) (d_acons (dv 13) (d_acons (d_call (ok_law_low T) takesF (hr.mono (by omega)) T.law_low.g T.law_low.F.kp T.law_low.b (d_acons (dv 12) (d_acons (d_op op_ADD (dv 8) d_int) d_anil))) d_anil))))))))))))))))))))⟩
theorem ok_law_at (T : Txt w.params K mg) : ∀ i, FnOk P w K mg base CX0 (2 + i) T.law_at.f T.law_at.fd ["long", "some", "tick_here"] (spF K 3 (F_law_at T.C i))
  | 0 => ⟨fun vs H Q E h => (by obtain ⟨_, _, _, _, _, _, z, _⟩ := h; cases z), fun A outer s H args us vs Q E _ _ _ _ h => (by obtain ⟨_, _, _, _, _, _, z, _⟩ := h; cases z)⟩
  | i + 1 => okF T.law_at.F sclaw_at rfl rfl (bd_law_at T i (ok_law_at T i))
set_option maxHeartbeats 2000000 in
theorem bd_law_form (T : Txt w.params K mg) : BodyD P w K mg base "_law_form" slaw_form T.law_form.f ["long", "some", "tick_here", "ahead", "each"] 12 (B_law_form T.C) := by
  intro cdv A outer s H E hr
  have hu := hu100 hr
  have hu64 := hu64_of hr
  have hu1 := hu1_of hr
  unfold B_law_form
  exact ⟨_, fun M0 P0 H0 => (b_cons (s_set (i := 3) sclaw_form.nd rfl (Or.inr rfl) (d_call (ok_law_at T 10) (takes_law_at _ _) (hr.mono (by decide)) T.law_at.g T.law_at.F.kp T.law_at.b (d_acons (dv 0) (d_acons (dv 1) (d_acons (dv 2) d_anil)))))
      (b_one (s_ret (d_cty call_TUPLE T.z_tuple (by decide +kernel) (d_acons (DN.e (d_lc (own := [("each", 4)]) rfl sclaw_form.nd (i_list (DN.e (d_bltN (call_SORTED hu) T.z_sorted (by decide +kernel) (d_acons (DN.e (d_ctyN (call_LISTD rfl) T.z_list (by decide +kernel) (d_acons (dv 3) d_anil))) d_anil)))) (blkOk_by (N := ["long", "some", "tick_here", "ahead", "each"]) (sc := defScope slaw_form) (by decide +kernel)) (own_nam (by decide)).1 ⟨fun _ _ _ _ _ => (g_name (i := 4) sclaw_form.nd rfl (Or.inl rfl)), fun _ _ _ _ _ => t_nil, fun _ _ _ _ _ => (d_tup (d_acons (dv 4) (d_acons (d_ix (d_dget hu1 (dv 3) (dv 4)) d_int (fun _ _ => rfl)) (d_acons (d_ix (d_dget hu1 (dv 3) (dv 4)) d_int (fun _ _ => rfl)) d_anil))))⟩)) d_anil)))))⟩
theorem ok_law_form (T : Txt w.params K mg) : FnOk P w K mg base CX0 13 T.law_form.f T.law_form.fd ["long", "some", "tick_here"] (spF K 3 (F_law_form T.C)) := okF T.law_form.F sclaw_form rfl rfl (bd_law_form T)
set_option maxHeartbeats 2000000 in
theorem bd_law_is_touched (T : Txt w.params K mg) : BodyD P w K mg base "_law_is_touched" slaw_is_touched T.law_is_touched.f ["one_here", "told", "a", "b", "first", "last"] 0 (B_law_is_touched T.C) := by
  intro cdv A outer s H E hr
  have hu := hu100 hr
  have hu64 := hu64_of hr
  have hu1 := hu1_of hr
  unfold B_law_is_touched
  exact ⟨_, fun M0 P0 H0 => (b_cons (s_for PassesOwn.never rfl (i_tup (dv 1)) (g_tup rfl (gs_cons (g_name (i := 2) sclaw_is_touched.nd rfl (Or.inr rfl)) (gs_cons (g_name (i := 3) sclaw_is_touched.nd rfl (Or.inr rfl)) gs_nil))) (b_one (s_if (d_tcmp (op_EQ hu64) (DN.e (d_lc (own := [("first", 4), ("last", 5)]) rfl sclaw_is_touched.nd (i_tup (d_ix (dv 0) d_int (fun _ _ => rfl))) (blkOk_by (N := ["one_here", "told", "a", "b", "first", "last"]) (sc := defScope slaw_is_touched) (by decide +kernel)) (own_tu (own_con (own_nam (by decide)) (own_con (own_nam (by decide)) own_ni))).1 ⟨fun _ _ _ _ _ => (g_tup rfl (gs_cons (g_name (i := 4) sclaw_is_touched.nd rfl (Or.inl rfl)) (gs_cons (g_name (i := 5) sclaw_is_touched.nd rfl (Or.inl rfl)) gs_nil))), fun _ _ _ _ _ => (t_one (DW.dt (d_and (d_tcmp op_LE (dv 4) (dv 2) (nomark _)) (d_and1 (d_tcmp op_LE (dv 3) (dv 5) (nomark _)))))), fun _ _ _ _ _ => (dv 4)⟩)) (DN.e (d_lst d_anil)) (nomark _)) (b_one (s_ret d_bl)) b_nil)))
      (b_one (s_ret d_bl)))⟩
theorem ok_law_is_touched (T : Txt w.params K mg) : FnOk P w K mg base CX0 1 T.law_is_touched.f T.law_is_touched.fd ["one_here", "told"] (spF K 2 (F_law_is_touched T.C)) := okF T.law_is_touched.F sclaw_is_touched rfl rfl (bd_law_is_touched T)
set_option maxHeartbeats 2000000 in
theorem bd_law_is_apart (T : Txt w.params K mg) : BodyD P w K mg base "_law_is_apart" slaw_is_apart T.law_is_apart.f ["long", "told", "ends", "a", "b", "k"] 0 (B_law_is_apart T.C) := by
  intro cdv A outer s H E hr
  have hu := hu100 hr
  have hu64 := hu64_of hr
  have hu1 := hu1_of hr
  unfold B_law_is_apart
  exact ⟨_, fun M0 P0 H0 => (b_cons (s_set (i := 2) sclaw_is_apart.nd rfl (Or.inl rfl) (d_op op_ADD (DN.e (d_lst (d_acons (d_neg d_int) d_anil))) (DN.e (d_lc (own := [("a", 3), ("b", 4)]) rfl sclaw_is_apart.nd (i_tup (dv 1)) (blkOk_by (N := ["long", "told", "ends", "a", "b", "k"]) (sc := defScope slaw_is_apart) (by decide +kernel)) (own_tu (own_con (own_nam (by decide)) (own_con (own_nam (by decide)) own_ni))).1 ⟨fun _ _ _ _ _ => (g_tup rfl (gs_cons (g_name (i := 3) sclaw_is_apart.nd rfl (Or.inl rfl)) (gs_cons (g_name (i := 4) sclaw_is_apart.nd rfl (Or.inl rfl)) gs_nil))), fun _ _ _ _ _ => t_nil, fun _ _ _ _ _ => (dv 4)⟩))))
      (b_cons (s_for PassesOwn.never rfl (i_rng1 T.z_range (d_acons (d_blt call_LEN T.z_len (by decide +kernel) (d_acons (dv 1) d_anil)) d_anil)) (g_name (i := 5) sclaw_is_apart.nd rfl (Or.inl rfl)) (b_one (s_if (d_not (d_tchain3 op_LT op_LT op_LE (d_ix (dv 2) (dv 5) (fun _ _ => rfl)) (d_ix (d_ix (dv 1) (dv 5) (fun _ _ => rfl)) d_int (fun _ _ => rfl)) (d_ix (d_ix (dv 1) (dv 5) (fun _ _ => rfl)) d_int (fun _ _ => rfl)) (dv 0))) (b_one (s_ret d_bl)) b_nil)))
      (b_one (s_ret (d_blt call_ISIT T.z_isinstance (by decide +kernel) (d_acons (dv 1) (d_acons (d_ty T.z_tuple (by decide +kernel)) d_anil)))))))⟩
theorem ok_law_is_apart (T : Txt w.params K mg) : FnOk P w K mg base CX0 1 T.law_is_apart.f T.law_is_apart.fd ["long", "told"] (spF K 2 (F_law_is_apart T.C)) := okF T.law_is_apart.F sclaw_is_apart rfl rfl (bd_law_is_apart T)
set_option maxHeartbeats 2000000 in
theorem bd_law_is_in (T : Txt w.params K mg) : BodyD P w K mg base "_law_is_in" slaw_is_in T.law_is_in.f ["tick_here", "told", "a", "b"] 0 (B_law_is_in T.C) := by
  intro cdv A outer s H E hr
  have hu := hu100 hr
  have hu64 := hu64_of hr
  have hu1 := hu1_of hr
  unfold B_law_is_in
  exact ⟨_, fun M0 P0 H0 => (b_one (s_ret (d_cmp (op_NE hu64) (DN.e (d_lc (own := [("a", 2), ("b", 3)]) rfl sclaw_is_in.nd (i_tup (dv 1)) (blkOk_by (N := ["tick_here", "told", "a", "b"]) (sc := defScope slaw_is_in) (by decide +kernel)) (own_tu (own_con (own_nam (by decide)) (own_con (own_nam (by decide)) own_ni))).1 ⟨fun _ _ _ _ _ => (g_tup rfl (gs_cons (g_name (i := 2) sclaw_is_in.nd rfl (Or.inl rfl)) (gs_cons (g_name (i := 3) sclaw_is_in.nd rfl (Or.inl rfl)) gs_nil))), fun _ _ _ _ _ => (t_one (d_tchain op_LE op_LT (dv 2) (dv 0) (dv 3))), fun _ _ _ _ _ => (dv 2)⟩)) (DN.e (d_lst d_anil)) (nomark _))))⟩
theorem ok_law_is_in (T : Txt w.params K mg) : FnOk P w K mg base CX0 1 T.law_is_in.f T.law_is_in.fd ["tick_here", "told"] (spF K 2 (F_law_is_in T.C)) := okF T.law_is_in.F sclaw_is_in rfl rfl (bd_law_is_in T)
set_option maxHeartbeats 2000000 in
theorem bd_law_right (T : Txt w.params K mg) : BodyG P w K mg base "_law_right" slaw_right T.law_right.f ["purse", "long", "some", "mine", "known", "each", "plain", "k", "told", "name_here", "at", "part"] 13 (B_law_right T.C) := by
  intro cdv A outer s H E hg hr
  have hu := hu100 hr
  have hu64 := hu64_of hr
  have hu1 := hu1_of hr
  unfold B_law_right
  exact ⟨_, fun M0 P0 H0 => (b_cons (s_asg (d_callO 0 (ok_law_far_row T) takesO (hr.mono (by decide)) T.law_far_row.g T.law_far_row.F.kp T.law_far_row.b d_anil) (g_tup rfl (gs_cons (g_name (i := 1) sclaw_right.nd rfl (Or.inr rfl)) (gs_cons (g_name (i := 2) sclaw_right.nd rfl (Or.inl rfl)) gs_nil))))
      (b_cons (s_parT (n := 2) (is := [3, 4]) rfl (f_dat (DN.e (d_make ⟨T.makes, T.Track_init.m.at_, T.Track_init.m.fn, T.kC⟩ (ok_Track_init T) takesO (hr.mono (by decide)) T.gC T.Track_init.b .nil (fun _ _ => .nil) (d_acons (dv 1) (d_acons (dv 2) d_anil)))) (f_new d_dnew f_nil)) (pgs_cons (pg_name (i := 3) sclaw_right.nd rfl (Or.inl rfl)) (pgs_cons (pg_name (i := 4) sclaw_right.nd rfl (Or.inr rfl)) pgs_nil)))
      (b_cons (s_for PassesOwn.never rfl (i_tup (dv 2)) (g_name (i := 5) sclaw_right.nd rfl (Or.inl rfl)) (b_cons (s_dput hu1 4 (d_ix (dv 5) d_int (fun _ _ => rfl)) (d_call (ok_heard T) takesF (hr.mono (by decide)) T.heard.g T.heard.F.kp T.heard.b (d_acons (dv 3) (d_acons (d_ix (dv 5) d_int (fun _ _ => rfl)) d_anil))))
      (b_one (s_if (d_not (d_tval (d_call (ok_law_is_touched T) takesF (hr.mono (by decide)) T.law_is_touched.g T.law_is_touched.F.kp T.law_is_touched.b (d_acons (dv 5) (d_acons (d_dgetV hu1 4 (d_ix (dv 5) d_int (fun _ _ => rfl))) d_anil))))) (b_one (s_ret d_bl)) b_nil))))
      (b_cons (s_asg (d_tup (d_acons (d_call (ok_old_heard T) takesF (hr.mono (by decide)) T.old_heard.g T.old_heard.F.kp T.old_heard.b (d_acons (dv 3) d_anil)) (d_acons (d_call (ok_kept T) takesF (hr.mono (by decide)) T.kept.g T.kept.F.kp T.kept.b (d_acons (dv 3) d_anil)) d_anil))) (g_tup rfl (gs_cons (g_dput hu1 4 d_str) (gs_cons (g_name (i := 6) sclaw_right.nd rfl (Or.inl rfl)) gs_nil))))
      (b_cons (s_if (DW.dt (d_or (d_not (d_tval (d_blt (call_ALL rfl) T.z_all (by decide +kernel) (d_acons (DN.e (d_lcK (own := [("each", 5)]) rfl sclaw_right.nd 4 (blkOk_by (N := ["purse", "long", "some", "mine", "known", "each", "plain", "k", "told", "name_here", "at", "part"]) (sc := defScope slaw_right) (by decide +kernel)) (own_nam (by decide)).1 (fun _ => ⟨fun _ _ _ _ _ => (g_name (i := 5) sclaw_right.nd rfl (Or.inl rfl)), fun _ _ _ _ _ => t_nil, fun _ _ _ _ _ => (d_call (ok_law_is_apart T) takesF (hr.mono (by decide)) T.law_is_apart.g T.law_is_apart.F.kp T.law_is_apart.b (d_acons (dv 1) (d_acons (d_dgetV hu1 4 (dv 5)) d_anil)))⟩))) d_anil)))) (d_or1 (d_not (d_tval (d_call (ok_law_is_apart T) takesF (hr.mono (by decide)) T.law_is_apart.g T.law_is_apart.F.kp T.law_is_apart.b (d_acons (dv 1) (d_acons (dv 6) d_anil)))))))) (b_one (s_ret d_bl)) b_nil)
      (b_cons (s_for PassesOwn.never rfl (i_list (d_callO 0 (ok_law_spots T) takesO (hr.mono (by decide)) T.law_spots.g T.law_spots.F.kp T.law_spots.b (d_acons (dv 1) (d_acons (dv 2) d_anil)))) (g_name (i := 7) sclaw_right.nd rfl (Or.inl rfl)) (b_cons (s_set (i := 8) sclaw_right.nd rfl (Or.inl rfl) (d_call (ok_law_form T) takesF (hr.mono (by decide)) T.law_form.g T.law_form.F.kp T.law_form.b (d_acons (dv 1) (d_acons (dv 2) (d_acons (dv 7) d_anil)))))
      (b_cons (s_if (d_tcmp (op_NE hu64) (d_call (ok_law_is_in T) takesF (hr.mono (by decide)) T.law_is_in.g T.law_is_in.F.kp T.law_is_in.b (d_acons (dv 7) (d_acons (dv 6) d_anil))) (d_cmp (op_EQ hu64) (d_blt (call_REPR hg hu64) T.z_repr (by decide +kernel) (d_acons (dv 8) d_anil)) (d_blt (call_REPR hg hu64) T.z_repr (by decide +kernel) (d_acons (d_tup (d_acons (d_tup (d_acons d_str (d_acons (dv 7) (d_acons (d_tup (d_acons d_int (d_acons d_int d_anil))) d_anil)))) d_anil)) d_anil)) (nomark _)) (nomark _)) (b_one (s_ret d_bl)) b_nil)
      (b_one (s_if (d_not (d_tval (d_blt (call_ALL rfl) T.z_all (by decide +kernel) (d_acons (DN.e (d_lc (own := [("name_here", 9), ("at", 10), ("part", 11)]) rfl sclaw_right.nd (i_tup (dv 8)) (blkOk_by (N := ["purse", "long", "some", "mine", "known", "each", "plain", "k", "told", "name_here", "at", "part"]) (sc := defScope slaw_right) (by decide +kernel)) (own_tu (own_con (own_nam (by decide)) (own_con (own_nam (by decide)) (own_con (own_nam (by decide)) own_ni)))).1 ⟨fun _ _ _ _ _ => (g_tup rfl (gs_cons (g_name (i := 9) sclaw_right.nd rfl (Or.inl rfl)) (gs_cons (g_name (i := 10) sclaw_right.nd rfl (Or.inl rfl)) (gs_cons (g_name (i := 11) sclaw_right.nd rfl (Or.inl rfl)) gs_nil)))), fun _ _ _ _ _ => t_nil, fun _ _ _ _ _ => (d_call (ok_law_is_in T) takesF (hr.mono (by decide)) T.law_is_in.g T.law_is_in.F.kp T.law_is_in.b (d_acons (dv 10) (d_acons (d_dgetV hu1 4 (dv 9)) d_anil)))⟩)) d_anil)))) (b_one (s_ret d_bl)) b_nil)))))
      (b_one (s_ret d_bl))))))))⟩
theorem ok_law_right (T : Txt w.params K mg) : FnG P w K mg base CX0 14 T.law_right.f T.law_right.fd ["purse"] (spO K 1 (F_law_right T.C)) := okOG T.law_right.F sclaw_right rfl rfl (bd_law_right T)
set_option maxHeartbeats 2000000 in
theorem bd_law_purse (T : Txt w.params K mg) : BodyD P w K mg base "_law_purse" slaw_purse T.law_purse.f ["script", "k", "cell", "digits", "seed"] 0 (B_law_purse T.C) := by
  intro cdv A outer s H E hr
  have hu := hu100 hr
  have hu64 := hu64_of hr
  have hu1 := hu1_of hr
  unfold B_law_purse
  exact ⟨_, fun M0 P0 H0 => (b_cons (s_if (d_tcmp op_LT (dv 1) (d_blt call_LEN T.z_len (by decide +kernel) (d_acons (dv 0) d_anil)) (nomark _)) (b_cons (s_set (i := 2) sclaw_purse.nd rfl (Or.inl rfl) (d_ix (dv 0) (dv 1) (fun _ _ => rfl)))
      (b_cons (s_set (i := 3) sclaw_purse.nd rfl (Or.inl rfl) (d_if (DW.dt (d_or (d_tcmp op_LT (dv 2) d_int (nomark _)) (d_or1 (d_tcmp op_GE (dv 2) (d_op op_POW d_int d_int) (nomark _))))) (d_blt call_ABS T.z_abs (by decide +kernel) (d_acons (dv 2) d_anil)) d_int))
      (b_one (s_retNew (d_lst (d_acons (dv 3) (d_acons (d_op op_MOD (d_cty call_INT T.z_int (by decide +kernel) (d_acons (d_op op_ADD (d_op op_ADD (d_op op_MUL (dv 2) d_int) (d_op op_MUL d_int (dv 1))) d_int) d_anil)) d_int) (d_acons d_int d_anil)))))))) b_nil)
      (b_cons (s_set (i := 4) sclaw_purse.nd rfl (Or.inl rfl) (d_op op_ADD (d_op op_MUL d_int (dv 1)) d_int))
      (b_cons (s_for PassesOwn.never rfl (i_list (d_sl (dv 0) d_no (d_part d_int))) (g_name (i := 2) sclaw_purse.nd rfl (Or.inl rfl)) (b_one (s_set (i := 4) sclaw_purse.nd rfl (Or.inl rfl) (d_op op_MOD (d_cty call_INT T.z_int (by decide +kernel) (d_acons (d_op op_ADD (d_op op_MUL (dv 4) d_int) (dv 2)) d_anil)) d_int))))
      (b_one (s_retNew (d_lst (d_acons d_int (d_acons (dv 4) (d_acons d_int d_anil)))))))))⟩
theorem ok_law_purse (T : Txt w.params K mg) : FnOk P w K mg base CX0 1 T.law_purse.f T.law_purse.fd ["script", "k"] (spN K 2 (F_law_purse T.C)) := okN T.law_purse.F sclaw_purse rfl rfl (bd_law_purse T)
set_option maxHeartbeats 2000000 in
theorem bd_law (T : Txt w.params K mg) : BodyG P w K mg base "law" slaw T.law.f ["script", "k"] 14 (B_law T.C) := by
  intro cdv A outer s H E hg hr
  have hu := hu100 hr
  have hu64 := hu64_of hr
  have hu1 := hu1_of hr
  unfold B_law
  exact ⟨_, fun M0 P0 H0 => (b_cons (s_for PassesOwn.never rfl (i_rng1 T.z_range (d_acons (d_blt (call_MAX rfl) T.z_max (by decide +kernel) (d_acons d_int (d_acons (d_blt (call_MIN rfl) T.z_min (by decide +kernel) (d_acons (d_blt call_LEN T.z_len (by decide +kernel) (d_acons (dv 0) d_anil)) (d_acons d_int d_anil))) d_anil))) d_anil)) (g_name (i := 1) sclaw.nd rfl (Or.inl rfl)) (b_one (s_if (d_not (d_tval (d_gcallNew hg (ok_law_right T) takesO (hr.mono (by decide)) T.law_right.g T.law_right.F.kp T.law_right.b (d_callN (ok_law_purse T) takesN (hr.mono (by decide)) T.law_purse.g T.law_purse.F.kp T.law_purse.b (d_acons (dv 0) (d_acons (dv 1) d_anil))) d_anil))) (b_one (s_ret d_bl)) b_nil)))
      (b_one (s_ret d_bl)))⟩
theorem ok_law (T : Txt w.params K mg) : FnG P w K mg base CX0 15 T.law.f T.law.fd ["script"] (spF K 1 (F_law T.C)) := okFG T.law.F sclaw rfl rfl (bd_law T)
end
end My
set_option exponentiation.threshold 20000
namespace My
open PySem PySem.Spec PyProof.Rows L2 DL
structure Ps where
  name : Str
  mode : Str
  first : Int
  last : Int
  touches : List (Int × Int)
  glide : Int
  tail : Str
def encT (p : Int × Int) : D := .tup [.int p.1, .int p.2]
def encP (p : Ps) : D := .tup [.str p.name, .str p.mode, .int p.first, .int p.last, .tup (p.touches.map encT), .int p.glide, .str p.tail]
def touchesOk (hi : Int) : List (Int × Int) → Int → Bool
  | [], _ => true
  | p :: r, lo => (decide (lo ≤ p.1) && decide (p.1 ≤ hi)) && (decide (p.1 + 1 ≤ p.2) && decide (p.2 ≤ hi)) && touchesOk hi r (p.2 + 1)
def letters : Str := "abcdefghijklmnopqrstuvwxyz"
def alnums : Str := "abcdefghijklmnopqrstuvwxyz0123456789"
def modes : List Str := ["write", "latch", "touch", "trim"]
def tails : List Str := ["stop", "on"]
def headOk (x : Str) : Bool := match x.cps.toList with | c :: _ => decide (c ∈ letters.cps.toList) | [] => false
def nameOk (x : Str) : Bool := decide (1 ≤ x.length) && decide (x.length ≤ 8) && headOk x && x.cps.toList.all fun c => decide (c ∈ alnums.cps.toList)
def passOk (L : Int) (p : Ps) : Bool := nameOk p.name && !decide (p.name = "old") && modes.contains p.mode && tails.contains p.tail &&
  ((decide (0 ≤ p.first) && decide (p.first ≤ L)) && (decide (p.first + 1 ≤ p.last) && decide (p.last ≤ L))) && decide (p.touches.length ≤ 6) && touchesOk p.last p.touches p.first && decide (0 ≤ p.glide) && decide (p.glide ≤ 100)
section
variable (C : Addr)
theorem v_is_integer (i : Int) : F_is_integer C [.int i] = some (.bl true) := by
  refine retF ?_
  unfold B_is_integer
  refine_lift' st
  exact rq_rt rfl
theorem v_is_between (i lo hi : Int) : F_is_between C [.int i, .int lo, .int hi] = some (.bl (decide (lo ≤ i) && decide (i ≤ hi))) := by
  refine retF ?_
  unfold B_is_between
  refine_lift' st [v_is_integer C _]
  exact rq_rt rfl
theorem v_is_stretch (p : Int × Int) (lo hi : Int) : F_is_stretch C [encT p, .int lo, .int hi] = some (.bl ((decide (lo ≤ p.1) && decide (p.1 ≤ hi)) && (decide (p.1 + 1 ≤ p.2) && decide (p.2 ≤ hi)))) := by
  refine retF ?_
  unfold B_is_stretch encT
  refine_lift' st
  · intro h
    simp at h
  · intro _
    refine_lift' st
    refine_lift' st [v_is_between C _ _ _]
    exact rq_rt rfl
theorem v_are_touches (ts : List (Int × Int)) (lo hi : Int) : F_are_touches C [.tup (ts.map encT), .int lo, .int hi] = some (.bl (decide (ts.length ≤ 6) && touchesOk hi ts lo)) := by
  refine retF ?_
  unfold B_are_touches
  refine_lift' st
  · intro h
    simp at h
    refine_lift' st
    exact rq_rt (by rw [decide_eq_false (by omega)]; rfl)
  · intro h
    have hl : ts.length ≤ 6 := by simp at h; omega
    rw [decide_eq_true hl, Bool.true_and]
    refine_lift' st
    refine_lift' st
    refine st_for (α := Int × Int) (enc := encT) (xs := ts) (ρ1 := [.dat (.tup (ts.map encT)), .dat (.int lo), .dat (.int hi), .dat (.int lo), .no]) ?_ (fun ys ρ => ∃ lo' x, ρ = [.dat (.tup (ts.map encT)), .dat (.int lo), .dat (.int hi), .dat (.int lo'), x] ∧ ∀ zs, touchesOk hi (ys ++ zs) lo = touchesOk hi zs lo') ⟨lo, .no, rfl, fun _ => rfl⟩ ?_ ?_
    · rfl
    · rintro ys p zs ρ e ⟨lo', x, rfl, q⟩
      refine ⟨_, _, g_nm, ?_⟩
      refine_lift' st [v_is_stretch C _ _ _]
      · intro h1
        have h1 := (Bool.not_eq_true' _).mp h1
        refine_lift' st
        refine rq_rt ?_
        rw [e, q, touchesOk, h1, Bool.false_and]
      · intro h1
        have h1 := (Bool.not_eq_false' _).mp h1
        refine_lift' st
        refine_lift' st
        refine ⟨p.2 + 1, _, rfl, fun zs' => ?_⟩
        rw [List.append_assoc, q]
        show touchesOk hi (p :: zs') lo' = _
        rw [touchesOk, h1, Bool.true_and]
    · rintro ρ ⟨lo', x, rfl, q⟩
      refine_lift' st
      refine rq_rt ?_
      have := q []
      rw [List.append_nil] at this
      rw [this]
      rfl
end
end My
set_option exponentiation.threshold 20000
namespace My
open PySem PySem.Spec PyProof.Rows L2 DL
section
variable (C : Addr)
theorem abc_cat : dAdd (.str "abcdefghijklmnopqrstuvwxyz") (.str "0123456789") = some (.str alnums) := by
  have h : (("abcdefghijklmnopqrstuvwxyz" : Str) ++ ("0123456789" : Str)) = alnums := by decide +kernel
  rw [← h]
  exact if_pos (t := some (D.str (("abcdefghijklmnopqrstuvwxyz" : Str) ++ ("0123456789" : Str)))) (e := none) (show ("abcdefghijklmnopqrstuvwxyz" : Str).length + ("0123456789" : Str).length ≤ sizeLine by decide +kernel)
theorem in_str (c : Nat) (z : Str) : dIn (.str ⟨#[c]⟩) (.str z) = some (.bl (decide (c ∈ z.cps.toList))) := rfl
theorem bls_map {α : Type} (f : α → Bool) : ∀ l : List α, bls? (l.map fun a => D.bl (f a)) = some (l.map f)
  | [] => rfl
  | a :: l => by
    rw [List.map_cons, bls?, bls_map f l]
    rfl
theorem all_map {α : Type} (f : α → Bool) (l : List α) : dAll [.lst (l.map fun a => D.bl (f a))] = some (.bl (l.all f)) := by
  unfold dAll
  simp only [bls_map, Option.map_some, List.all_map]
  rfl
theorem v_is_name (x : Str) (hx : x.length ≤ sizeLine) : F_is_name C [.str x] = some (.bl (nameOk x)) := by
  have hl : dLen [.str x] = some (.int x.length) := if_pos hx
  refine retF ?_
  unfold B_is_name
  refine_lift' st [hl]
  · intro h
    refine_lift' st
    refine rq_rt ?_
    unfold nameOk
    have : (decide (1 ≤ x.length) && decide (x.length ≤ 8)) = false := by
      simp at h ⊢
      omega
    rw [this, Bool.false_and, Bool.false_and]
  · intro h
    have h2 : 1 ≤ x.length ∧ x.length ≤ 8 := by
      simp at h
      omega
    refine_lift' st
    have hlc : mLc [1] (iSeq seqS (mVar 0)) (gNm 1) (mC true) (mOp dIn (mVar 1) (mOp dAdd (mC (.str "abcdefghijklmnopqrstuvwxyz")) (mC (.str "0123456789")))) (cells [.str x] 1) = some (.lst (x.cps.toList.map fun c => .bl (decide (c ∈ alnums.cps.toList))), cells [.str x] 1) := by
      refine e_lcm (α := Nat) (vs := [1]) (ρ1 := cells [.str x] 1) (enc := fun c => D.str ⟨#[c]⟩) (xs := x.cps.toList) (f := fun c => .bl (decide (c ∈ alnums.cps.toList))) rfl rfl (len_le ?_) ?_ rfl
      · show x.length ≤ 1000
        omega
      · intro c _
        exact ⟨(), [.dat (.str x), .dat (.str ⟨#[c]⟩)], rfl, [.dat (.str x), .dat (.str ⟨#[c]⟩)], by refine_lift' ev [abc_cat, in_str c alnums], rfl⟩
    obtain ⟨c, r, hc⟩ : ∃ c r, x.cps.toList = c :: r := by
      cases e : x.cps.toList with
      | nil =>
        have : x.length = x.cps.toList.length := rfl
        rw [e] at this
        simp at this; omega
      | cons c r => exact ⟨c, r, rfl⟩
    have hix : dIx (.str x) (.int 0) = some (.str ⟨#[c]⟩) := by
      have h : dIx (.str x) (.int 0) = (atI x.cps.toList 0).map fun c => D.str ⟨#[c]⟩ := if_pos hx
      rw [h, hc, show atI (c :: r) 0 = some c from atI_nat (j := 0) rfl]
      rfl
    have hin := in_str c "abcdefghijklmnopqrstuvwxyz"
    have hall := all_map (fun c => decide (c ∈ alnums.cps.toList)) x.cps.toList
    refine_lift' st [hix, hin, hlc, hall]
    refine rq_rt ?_
    unfold nameOk headOk
    rw [hc, decide_eq_true h2.1, decide_eq_true h2.2]
    rfl
end
end My
set_option exponentiation.threshold 20000
namespace My
open PySem PySem.Spec PyProof.Rows L2 DL
section
variable (C : Addr)
structure Ps.sane (p : Ps) : Prop where
  name : PyData.strOk p.name = true
  mode : PyData.strOk p.mode = true
  tail : PyData.strOk p.tail = true
  nameL : p.name.length ≤ sizeLine
theorem shaped_str {x : Str} (h : PyData.strOk x = true) : SeqAt.shaped (.str x) = true := by
  simp [SeqAt.shaped, PyData.canLay0, h, PyData.depth]
theorem strs_toPs (ws : List Str) : toPs (ws.map .str) = ws.map .str := by
  rw [toPs_map, List.map_map]
  congr 1
theorem plains_strs : ∀ ws : List Str, plains (ws.map .str) = true
  | [] => rfl
  | w :: ws => by simp only [List.map_cons, plains, DL.plain, plains_strs ws, Bool.and_self]
theorem canLay_strs : ∀ ws : List Str, (∀ w ∈ ws, PyData.strOk w = true) → PyData.canLayAll0 (ws.map .str) = true ∧ PyData.depthAll (ws.map .str) = 0
  | [], _ => by simp [PyData.canLayAll0, PyData.depthAll]
  | w :: ws, h => by
    obtain ⟨a, b⟩ := canLay_strs ws fun v hv => h v (List.mem_cons_of_mem _ hv)
    have := h w List.mem_cons_self
    simp [PyData.canLayAll0, PyData.depthAll, PyData.canLay0, PyData.depth, a, b, this]
theorem any_strs (x : Str) : ∀ ws : List Str, ((ws.map PyData.str).any fun e => PyData.eqv e (.str x)) = ws.contains x
  | [] => rfl
  | w :: ws => by
    rw [List.map_cons, List.any_cons, any_strs x ws, List.contains_cons]
    congr 1
    simp only [PyData.eqv]
    exact BEq.comm
theorem in_words {x : Str} (hx : PyData.strOk x = true) (ws : List Str) (h : ∀ w ∈ ws, PyData.strOk w = true) : dIn (.str x) (.tup (ws.map .str)) = some (.bl (ws.contains x)) := by
  obtain ⟨a, b⟩ := canLay_strs ws h
  have hs : SeqAt.shaped (.tuple (toPs (ws.map D.str))) = true := by
    rw [strs_toPs]
    simp [SeqAt.shaped, PyData.canLay0, PyData.depth, a, b]
  have : dInB (.str x) (.tup (ws.map .str)) = some (ws.contains x) := by
    rw [← any_strs, ← strs_toPs]
    exact if_pos ⟨rfl, plains_strs ws, shaped_str hx, hs⟩
  unfold dIn
  rw [this]
  rfl
theorem v_is_word {x : Str} (hx : PyData.strOk x = true) (ws : List Str) (h : ∀ w ∈ ws, PyData.strOk w = true) : F_is_word C [.str x, .tup (ws.map .str)] = some (.bl (ws.contains x)) := by
  refine retF ?_
  unfold B_is_word
  refine_lift' st [in_words hx ws h]
  exact rq_rt rfl
theorem v_is_length (i : Int) : F_is_length C [.int i] = some (.bl (decide (1 ≤ i) && decide (i ≤ 1000000000000))) := by
  refine retF ?_
  unfold B_is_length
  refine_lift' st [v_is_between C _ _ _]
  exact rq_rt rfl
theorem v_is_pass (p : Ps) (s : p.sane) (L : Int) : F_is_pass C [encP p, .int L] = some (.bl (passOk L p)) := by
  have hm := v_is_word C s.mode modes (by decide +kernel)
  have ht := v_is_word C s.tail tails (by decide +kernel)
  have hn := v_is_name C p.name s.nameL
  have hs := v_is_stretch C (p.first, p.last) 0 L
  have hto := v_are_touches C p.touches p.first p.last
  have hgl := v_is_between C p.glide 0 100
  refine retF ?_
  unfold B_is_pass
  unfold encP
  refine_lift' st
  · intro h
    simp at h
  · intro _
    refine_lift' st
    refine_lift' st
    refine_lift' st [hn]
    · intro h
      refine_lift' st
      refine rq_rt ?_
      unfold passOk
      have : (nameOk p.name && !decide (p.name = "old")) = false := by
        simp at h ⊢
        intro e; rcases h with h | h
        · rw [h] at e; cases e
        · exact h
      simp only [this, Bool.false_and]
    · intro h
      have h1 : (nameOk p.name && !decide (p.name = "old")) = true := by
        simp at h ⊢
        exact h
      refine_lift' st
      refine_lift' st [hm, ht]
      · intro h
        refine_lift' st
        refine rq_rt ?_
        unfold passOk
        have : (modes.contains p.mode && tails.contains p.tail) = false := by
          simp at h ⊢
          intro e; rcases h with h | h
          · exact (h e).elim
          · exact h
        rw [h1, Bool.true_and, this]
        simp only [Bool.false_and]
      · intro h
        have h2 : (modes.contains p.mode && tails.contains p.tail) = true := by
          simp at h ⊢
          exact h
        refine_lift' st
        refine_lift' st [hs]
        · intro h
          have h := (Bool.not_eq_true' _).mp h
          refine_lift' st
          refine rq_rt ?_
          unfold passOk
          rw [h1, Bool.true_and, h2, Bool.true_and]
          simp only at h
          rw [h]
          simp only [Bool.false_and]
        · intro h
          have h3 := (Bool.not_eq_false' _).mp h
          refine_lift' st
          refine_lift' st [hto, hgl]
          refine rq_rt ?_
          unfold passOk
          rw [h1, Bool.true_and, h2, Bool.true_and]
          simp only at h3
          rw [h3, Bool.true_and]
          simp only [Bool.and_assoc]
end
end My
set_option exponentiation.threshold 20000
namespace My
open PySem PySem.Spec PyProof.Rows L2 DL
section
variable (C : Addr)
theorem in_strL {x : Str} (hx : PyData.strOk x = true) (ws : List Str) (h : ∀ w ∈ ws, PyData.strOk w = true) : dIn (.str x) (.lst (ws.map .str)) = some (.bl (ws.contains x)) := by
  obtain ⟨a, b⟩ := canLay_strs ws h
  have hs : SeqAt.shaped (.list (toPs (ws.map D.str))) = true := by
    rw [strs_toPs]
    simp [SeqAt.shaped, PyData.canLay0, PyData.depth, a, b]
  have : dInB (.str x) (.lst (ws.map .str)) = some (ws.contains x) := by
    rw [← any_strs, ← strs_toPs]
    exact if_pos ⟨rfl, plains_strs ws, shaped_str hx, hs⟩
  unfold dIn
  rw [this]
  rfl
theorem enumD_map {α : Type} (enc : α → D) : ∀ (xs : List α) (k : Nat), enumD k (xs.map enc) = (xs.zipIdx k).map fun p => .tup [.int p.2, enc p.1]
  | [], _ => rfl
  | x :: xs, k => by
    rw [List.map_cons, enumD, enumD_map enc xs (k + 1), List.zipIdx_cons, List.map_cons]
structure PssOk (L : Int) (ps : List Ps) : Prop where
  sane : ∀ p ∈ ps, p.sane
  ok : ∀ p ∈ ps, passOk L p = true
  nd : (ps.map Ps.name).Nodup
  len : ps.length ≤ 8
theorem v_first_wrong (L : Int) (ps : List Ps) (h : PssOk L ps) : F_first_wrong C [.tup (ps.map encP), .int L] = some .non := by
  refine retF ?_
  unfold B_first_wrong
  refine_lift' st
  refine st_for (α := Ps × Nat) (enc := fun p => .tup [.int p.2, encP p.1]) (xs := ps.zipIdx) (ρ1 := [.dat (.tup (ps.map encP)), .dat (.int L), .own false (.lst []), .no, .no]) ?_ (fun ys ρ => ∃ x y, ρ = [.dat (.tup (ps.map encP)), .dat (.int L), .own false (.lst ((ys.map fun p => p.1.name).map .str)), x, y]) ⟨_, _, rfl⟩ ?_ ?_
  · have : enumT? [.tup (ps.map encP)] = some (ps.zipIdx.map fun p => .tup [.int p.2, encP p.1]) := by rw [← enumD_map]; rfl
    exact e_bd (v := [.tup (ps.map encP)]) rfl (e_l this)
  · rintro ys ⟨p, k⟩ zs ρ e ⟨x, y, rfl⟩
    refine ⟨(), [.dat (.tup (ps.map encP)), .dat (.int L), .own false (.lst ((ys.map fun p => p.1.name).map .str)), .dat (.int k), .dat (encP p)], rfl, ?_⟩
    have hk : (ys.map (·.1)).length = k ∧ ps = ys.map (·.1) ++ p :: zs.map (·.1) := by
      have e1 : ps = (ys ++ (p, k) :: zs).map (·.1) := by rw [← e, List.zipIdx_map_fst]
      rw [List.map_append, List.map_cons] at e1
      refine ⟨?_, e1⟩
      have e2 : List.range' 0 ps.length = (ys ++ (p, k) :: zs).map (·.2) := by rw [← e, List.zipIdx_map_snd]
      have e3 : (List.range' 0 ps.length)[ys.length]? = some k := by
        rw [e2, List.map_append, List.getElem?_append_right (by rw [List.length_map]; exact Nat.le_refl _), List.length_map, Nat.sub_self]
        rfl
      have hy : ys.length < ps.length := by rw [e1]; simp
      rw [List.getElem?_range' hy] at e3
      have e3 := Option.some.inj e3
      rw [List.length_map]; omega
    have hm : p ∈ ps := by rw [hk.2]; simp
    have hkl : k < 8 := by
      have h8 := h.len
      rw [hk.2, List.length_append, hk.1] at h8
      simp at h8
      omega
    have s := h.sane p hm
    have hp := v_is_pass C p s L
    rw [h.ok p hm] at hp
    have hin : dIn (.str p.name) (.lst ((ys.map fun p => p.1.name).map .str)) = some (.bl false) := by
      rw [in_strL s.name]
      · congr 2
        have nd := h.nd
        rw [hk.2, List.map_append, List.map_cons, List.nodup_append] at nd
        have := nd.2.2
        rw [List.contains_eq_mem, decide_eq_false_iff_not]
        intro q
        rw [List.map_map] at this
        exact this p.name q p.name (by simp) rfl
      · intro w hw
        obtain ⟨q, hq, rfl⟩ := List.mem_map.mp hw
        exact (h.sane q.1 (by rw [hk.2]; exact List.mem_append_left _ (List.mem_map.mpr ⟨q, hq, rfl⟩))).name
    have hlen : ((ys.map fun p => p.1.name).map D.str).length < sizeLine := by
      have : ys.length = k := by rw [← hk.1, List.length_map]
      rw [List.length_map, List.length_map, this]
      exact Nat.lt_of_lt_of_le hkl (len_le (by omega))
    have hge : dGe (.int k) (.int 8) = some (.bl false) := by
      show some (D.bl (decide ((8 : Int) ≤ k))) = _
      rw [decide_eq_false (by omega)]
    have hix : dIx (encP p) (.int 0) = some (.str p.name) := rfl
    refine st_one ?_
    refine_lift' st
    refine_lift' st [hge, hp, hix, hin]
    · intro h; cases h
    · intro _
      refine_lift' st
      refine_lift' st [hix, hlen]
      refine_lift' st
      refine ⟨.dat (.int k), .dat (encP p), ?_⟩
      rw [List.map_append, List.map_append]
      rfl
  · rintro ρ ⟨x, y, rfl⟩
    refine_lift' st
    exact rq_rt rfl
def encTr (C : Addr) (L : Int) (ps : List Ps) : D := .ins C ["_length", "_passes"] [.int L, .tup (ps.map encP)]
theorem v_Track_init (L : Int) (ps : List Ps) (h : PssOk L ps) (h1 : 1 ≤ L) (h2 : L ≤ 1000000000000) : F_Track_init C (.ins C [] []) [.int L, .tup (ps.map encP)] = some (.non, encTr C L ps) := by
  have hl := v_is_length C L
  rw [decide_eq_true h1, decide_eq_true h2] at hl
  have hw := v_first_wrong C L ps h
  have : ∃ d e, runO 3 1 (B_Track_init C) (.ins C [] []) [.int L, .tup (ps.map encP)] = some (d, e) ∧ d = .non ∧ e = encTr C L ps := by
    refine retOE ?_
    unfold B_Track_init
    refine_lift' st [hl]
    · intro h; cases h
    · intro _
      refine_lift' st
      refine_lift' st
      · intro h; cases h
      · intro _
        refine_lift' st
        refine_lift' st [hw]
        refine_lift' st
        · intro h; cases h
        · intro _
          refine_lift' st
          refine_lift' st
          refine_lift' st
          refine_lift' st
          exact ro_nx ⟨rfl, rfl⟩
  obtain ⟨d, e, q, rfl, rfl⟩ := this
  exact q
theorem v_Track_length (L : Int) (ps : List Ps) : F_Track_length C [encTr C L ps] = some (.int L) := by
  refine retF ?_
  unfold B_Track_length encTr
  refine_lift' st
  exact rq_rt rfl
theorem v_Track_passes (L : Int) (ps : List Ps) : F_Track_passes C [encTr C L ps] = some (.tup (ps.map encP)) := by
  refine retF ?_
  unfold B_Track_passes encTr
  refine_lift' st
  exact rq_rt rfl
theorem v_check_track (L : Int) (ps : List Ps) : F_check_track C [encTr C L ps] = some .non := by
  refine retF ?_
  unfold B_check_track encTr
  have : dIsCT C [.ins C ["_length", "_passes"] [.int L, .tup (ps.map encP)], .cls C] = some (.bl true) := by
    unfold dIsCT
    simp
  refine_lift' st [this]
  · intro h; cases h
  · intro _
    refine_lift' st
    exact rq_nx rfl
end
end My
set_option exponentiation.threshold 20000
namespace My
open PySem PySem.Spec PyProof.Rows L2 DL
abbrev Wt := Int × Int
def encW (w : Wt) : D := .tup [.int w.1, .int w.2]
structure Tm where
  name : Str
  at' : Int
  wt : Wt
def encTm (t : Tm) : D := .tup [.str t.name, .int t.at', encW t.wt]
def gI (a b : Int) : Int := ((Nat.gcd a.natAbs b.natAbs : Nat) : Int)
def lowM (a b : Int) : Wt := (a / gI a b, b / gI a b)
theorem big_bits {i : Int} (h : i.natAbs ≤ 2 ^ 1000) : Builtin.Int.intBits i ≤ 1001 := by
  refine Nat.le_trans (bits_mono (j := 2 ^ 1000) ?_) (by decide +kernel)
  rw [Int.natAbs_pow]; exact h
theorem mul_ok {i j : Int} (h : i.natAbs ≤ 2 ^ 1000) (h' : j.natAbs ≤ 2 ^ 1000) : dMul (.int i) (.int j) = some (.int (i * j)) := by
  have a := big_bits h
  have b := big_bits h'
  exact if_pos (by omega)
theorem gI_pos {a b : Int} (h : 0 < b) : 0 < gI a b := by
  unfold gI
  have : 0 < Nat.gcd a.natAbs b.natAbs := Nat.gcd_pos_of_pos_right _ (by omega)
  omega
theorem gI_le {a b : Int} (h : 0 < b) : gI a b ≤ b := by
  unfold gI
  have : Nat.gcd a.natAbs b.natAbs ≤ b.natAbs := Nat.gcd_le_right _ (by omega)
  omega
theorem div_ok {i j : Int} (h : 0 < j) (h' : j.natAbs ≤ 2 ^ 8000) : dDiv (.int i) (.int j) = some (.int (i / j)) := by
  refine if_pos ⟨h, ?_⟩
  have h0 : j.natAbs ≠ 0 := by omega
  have : j.natAbs.log2 < 8001 := (Nat.log2_lt h0).mpr (Nat.lt_of_le_of_lt h' (Nat.pow_lt_pow_right (by omega) (by omega)))
  omega
theorem gI_dvd (a b : Int) : gI a b ∣ a ∧ gI a b ∣ b := by
  unfold gI
  exact ⟨Int.ofNat_dvd_left.mpr (Nat.gcd_dvd_left _ _), Int.ofNat_dvd_left.mpr (Nat.gcd_dvd_right _ _)⟩
/-- a weight within k glides -/
structure WtOk (k : Nat) (w : Wt) : Prop where
  pos : 0 < w.2
  le : w.2 ≤ 101 ^ k
  num : 0 ≤ w.1
  lt : w.1 ≤ w.2
theorem WtOk.nat {k : Nat} {w : Wt} (h : WtOk k w) (hk : k ≤ 100) : w.1.natAbs ≤ 2 ^ 1000 ∧ w.2.natAbs ≤ 2 ^ 1000 := by
  have h1 : (101 : Int) ^ k ≤ 101 ^ 100 := by
    have : (101 : Nat) ^ k ≤ 101 ^ 100 := Nat.pow_le_pow_right (by omega) hk
    exact_mod_cast this
  have h2 : (101 : Int) ^ 100 ≤ 2 ^ 1000 := by decide +kernel
  have := h.le; have := h.num; have := h.lt; have := h.pos
  have e : ((2 : Nat) ^ 1000 : Nat) = ((2 : Int) ^ 1000).natAbs := by decide +kernel
  constructor
  · rw [e]; omega
  · rw [e]; omega
theorem WtOk.mono {j k : Nat} {w : Wt} (h : WtOk j w) (hk : j ≤ k) : WtOk k w := by
  have : (101 : Nat) ^ j ≤ 101 ^ k := Nat.pow_le_pow_right (by omega) hk
  have h1 : (101 : Int) ^ j ≤ 101 ^ k := by exact_mod_cast this
  exact ⟨h.pos, Int.le_trans h.le h1, h.num, h.lt⟩
theorem lowM_ok {k : Nat} {a b : Int} (h : WtOk k (a, b)) : WtOk k (lowM a b) := by
  have hp := gI_pos (a := a) h.pos
  have h1 : (1 : Int) ≤ gI a b := hp
  obtain ⟨d1, d2⟩ := gI_dvd a b
  have hb : 0 < b := h.pos
  have ha : 0 ≤ a := h.num
  have hab : a ≤ b := h.lt
  refine ⟨?_, ?_, ?_, ?_⟩
  · exact Int.ediv_pos_of_pos_of_dvd hb (by omega) d2
  · exact Int.le_trans (Int.ediv_le_self _ (by omega)) h.le
  · exact Int.ediv_nonneg ha (by omega)
  · exact Int.ediv_le_ediv hp hab
theorem mul_wt {j k : Nat} {v w : Wt} (h : WtOk j v) (h' : WtOk k w) : WtOk (j + k) (v.1 * w.1, v.2 * w.2) := by
  refine ⟨Int.mul_pos h.pos h'.pos, ?_, Int.mul_nonneg h.num h'.num, ?_⟩
  · rw [Int.pow_add]
    exact Int.mul_le_mul h.le h'.le (Int.le_of_lt h'.pos) (Int.le_trans (Int.le_of_lt h.pos) h.le)
  · exact Int.mul_le_mul h.lt h'.lt h'.num (Int.le_of_lt h.pos)
def timesM (v w : Wt) : Wt := lowM (v.1 * w.1) (v.2 * w.2)
section
variable (C : Addr)
theorem v_lowest {k : Nat} {a b : Int} (h : WtOk k (a, b)) (hk : k ≤ 100) : F_lowest C [.int a, .int b] = some (encW (lowM a b)) := by
  have hb := h.pos
  simp only at hb
  have hp := gI_pos (a := a) hb
  have hle := gI_le (a := a) hb
  have hn := (h.nat hk).2
  simp only at hn
  have hs : (gI a b).natAbs ≤ 2 ^ 8000 := Nat.le_trans (by omega) (Nat.le_trans hn (Nat.pow_le_pow_right (by omega) (by omega)))
  have d1 := div_ok (i := a) hp hs
  have d2 := div_ok (i := b) hp hs
  have g : dGcd [.int a, .int b] = some (.int (gI a b)) := rfl
  refine retF ?_
  unfold B_lowest
  refine_lift' st [g]
  refine_lift' st [d1, d2]
  exact rq_rt rfl
theorem v_times {j k : Nat} {v w : Wt} (h : WtOk j v) (h' : WtOk k w) (hk : j + k ≤ 100) : F_times C [encW v, encW w] = some (encW (timesM v w)) := by
  have m1 := mul_ok (h.nat (by omega)).1 (h'.nat (by omega)).1
  have m2 := mul_ok (h.nat (by omega)).2 (h'.nat (by omega)).2
  have hl := v_lowest C (mul_wt h h') hk
  refine retF ?_
  unfold B_times encW
  refine_lift' st [m1, m2, hl]
  exact rq_rt rfl
theorem gcd_step (h l : Nat) (hl : 0 < l) : Nat.gcd l (h % l) = Nat.gcd h l := by
  rw [Nat.gcd_comm h l, Nat.gcd_rec l h, Nat.gcd_comm]
theorem v_law_low {k : Nat} {a b : Int} (h : WtOk k (a, b)) (hk : k ≤ 100) : F_law_low C [.int a, .int b] = some (encW (lowM a b)) := by
  have hb : 0 < b := h.pos
  have ha : 0 ≤ a := h.num
  have hp := gI_pos (a := a) hb
  have hle := gI_le (a := a) hb
  have hn := (h.nat hk).2
  simp only at hn
  have hs : (gI a b).natAbs ≤ 2 ^ 8000 := Nat.le_trans (by omega) (Nat.le_trans hn (Nat.pow_le_pow_right (by omega) (by omega)))
  have d1 := div_ok (i := a) hp hs
  have d2 := div_ok (i := b) hp hs
  have habs : dAbs [.int a] = some (.int a) := by
    show some (D.int (if a < 0 then -a else a)) = _
    rw [if_neg (by omega)]
  refine retF ?_
  unfold B_law_low
  refine_lift' st [habs]
  refine st_while (fun n ρ => ∃ hh : Nat, ρ = [.dat (.int a), .dat (.int b), .dat (.int hh), .dat (.int n)] ∧ Nat.gcd hh n = Nat.gcd a.natAbs b.natAbs) b.natAbs ?_ ⟨a.natAbs, ?_, rfl⟩ ?_
  · show b.natAbs < b.natAbs + 1
    omega
  · rw [show ((a.natAbs : Nat) : Int) = a by omega, show ((b.natAbs : Nat) : Int) = b by omega]
    rfl
  · rintro n ρ ⟨hh, rfl, e⟩
    refine ⟨decide (0 < (n : Int)), _, by refine_lift' ev, ?_, ?_⟩
    · intro q
      have : n = 0 := by simp at q; exact q
      subst this
      rw [Nat.gcd_zero_right] at e
      have e' : (hh : Int) = gI a b := by unfold gI; rw [e]
      rw [e']
      refine_lift' st [d1, d2]
      exact rq_rt rfl
    · intro q
      have q : 0 < n := by simp at q; exact q
      have hm : dMod (.int hh) (.int n) = some (.int ((hh % n : Nat) : Int)) := by
        have : dMod (.int hh) (.int n) = some (.int ((hh : Int) % n)) := if_pos (by omega)
        rw [this]; rfl
      have hi : dInt [.int hh] = some (.int hh) := rfl
      have : ∃ ρ1, sPar [2, 3] [false, false] (aCons (mVar 3) (aCons (mOp dMod (mFn dInt (aCons (mVar 2) aNil)) (mVar 3)) aNil)) [.dat (.int a), .dat (.int b), .dat (.int hh), .dat (.int n)] = some (.nx, ρ1) ∧ ρ1 = [.dat (.int a), .dat (.int b), .dat (.int n), .dat (.int ((hh % n : Nat) : Int))] := by
        refine ⟨_, e_bd (v := [.int n, .int ((hh % n : Nat) : Int)]) (ρ1 := [.dat (.int a), .dat (.int b), .dat (.int hh), .dat (.int n)]) (by refine_lift' ev [hm, hi]) rfl, rfl⟩
      obtain ⟨ρ1, e1, e2⟩ := this
      rw [e1]
      exact ⟨hh % n, Nat.mod_lt _ q, n, e2, by rw [gcd_step hh n q]; exact e⟩
end
end My
set_option exponentiation.threshold 20000
namespace My
open PySem PySem.Spec PyProof.Rows L2 DL
def encOI : Option Int → D
  | none => .non
  | some i => .int i
def endM (p : Ps) (L : Int) : Int := if p.tail = "on" then L else p.last
def lastT (t : Int) : List (Int × Int) → Option Int → Option Int
  | [], f => f
  | p :: r, f => lastT t r (if p.1 ≤ t then some (if p.2 - 1 < t then p.2 - 1 else t) else f)
/-- what a pass writes: hand, share, place, rest -/
structure Wr where
  hand : Option Int
  share : Wt
  place : Int
  rest : Wt
def writtenM (p : Ps) (L t : Int) : Option Wr :=
  if p.first ≤ t ∧ t < endM p L then
    match lastT t p.touches none with
    | none => if p.mode = "write" then some ⟨none, (0, 1), p.first, (1, 1)⟩ else none
    | some h => if p.mode = "write" ∨ p.mode = "latch" then some ⟨some h, (1, 1), t, (0, 1)⟩ else
      if p.glide < t - h then none else some ⟨some h, lowM (p.glide + 1 - (t - h)) (p.glide + 1), t, if p.mode = "trim" then (1, 1) else lowM (t - h) (p.glide + 1)⟩
  else none
def encWr : Option Wr → D
  | none => .non
  | some w => .tup [encOI w.hand, encW w.share, .int w.place, encW w.rest]
abbrev Lf := Int × Wt
def encLf (l : Lf) : D := .tup [.int l.1, encW l.2]
def encOL : Option Lf → D
  | none => .non
  | some l => encLf l
/-- what a pass takes of what is left, and what it leaves -/
def takenM (p : Ps) (L : Int) (l : Lf) : Option Lf × Option Lf := match writtenM p L l.1 with
  | none => (none, some l)
  | some w => (w.hand.map fun h => (h, timesM l.2 w.share), if w.rest = (0, 1) then none else some (w.place, timesM l.2 w.rest))
def formM (L : Int) : List Ps → Lf → List Tm
  | [], l => [⟨"old", l.1, l.2⟩]
  | p :: r, l => ((takenM p L l).1.map fun x => Tm.mk p.name x.1 x.2).toList ++ match (takenM p L l).2 with
    | none => []
    | some l' => formM L r l'
structure WrOk (w : Wr) : Prop where
  share : WtOk 1 w.share
  rest : WtOk 1 w.rest
theorem lastT_le (t : Int) : ∀ (ts : List (Int × Int)) (f : Option Int), (∀ h, f = some h → h ≤ t) → ∀ h, lastT t ts f = some h → h ≤ t
  | [], f, hf, h, e => hf h e
  | p :: r, f, hf, h, e => lastT_le t r _ (fun x hx => by
      split at hx
      · cases hx
        split <;> omega
      · exact hf x hx) h e
theorem wt1 {a b : Int} (h : 0 < b) (h1 : b ≤ 101) (h2 : 0 ≤ a) (h3 : a ≤ b) : WtOk 1 (a, b) := ⟨h, by rw [Int.pow_succ, Int.pow_zero]; simpa using h1, h2, h3⟩
theorem writtenM_ok {p : Ps} {L t : Int} {w : Wr} (hg0 : 0 ≤ p.glide) (hg : p.glide ≤ 100) (h : writtenM p L t = some w) : WrOk w := by
  unfold writtenM at h
  split at h
  · split at h
    · split at h
      · cases h
        exact ⟨wt1 (by omega) (by omega) (by omega) (by omega), wt1 (by omega) (by omega) (by omega) (by omega)⟩
      · cases h
    · rename_i hd e
      have hle := lastT_le t p.touches none (fun _ q => by cases q) hd e
      split at h
      · cases h
        exact ⟨wt1 (by omega) (by omega) (by omega) (by omega), wt1 (by omega) (by omega) (by omega) (by omega)⟩
      · split at h
        · cases h
        · cases h
          refine ⟨lowM_ok (wt1 (by omega) (by omega) (by omega) (by omega)), ?_⟩
          simp only
          split
          · exact wt1 (by omega) (by omega) (by omega) (by omega)
          · exact lowM_ok (wt1 (by omega) (by omega) (by omega) (by omega))
  · cases h
section
variable (C : Addr)
theorem v_end_of (p : Ps) (L : Int) : F_end_of C [encP p, .int L] = some (.int (endM p L)) := by
  refine retF ?_
  unfold B_end_of encP
  refine_lift' st
  refine_lift' st
  refine rq_rt ?_
  unfold endM
  by_cases h : p.tail = "on"
  · simp [h]
  · simp [h]
theorem v_last_touch (ts : List (Int × Int)) (t : Int) : F_last_touch C [.tup (ts.map encT), .int t] = some (encOI (lastT t ts none)) := by
  refine retF ?_
  unfold B_last_touch
  refine_lift' st
  refine st_for (α := Int × Int) (enc := encT) (xs := ts) (ρ1 := [.dat (.tup (ts.map encT)), .dat (.int t), .dat .non, .no, .no]) rfl (fun ys ρ => ∃ f x y, ρ = [.dat (.tup (ts.map encT)), .dat (.int t), .dat (encOI f), x, y] ∧ ∀ zs, lastT t (ys ++ zs) none = lastT t zs f) ⟨none, _, _, rfl, fun _ => rfl⟩ ?_ ?_
  · rintro ys p zs ρ e ⟨f, x, y, rfl, q⟩
    refine ⟨(), [.dat (.tup (ts.map encT)), .dat (.int t), .dat (encOI f), .dat (.int p.1), .dat (.int p.2)], rfl, ?_⟩
    have step : ∀ f', (if p.1 ≤ t then some (if p.2 - 1 < t then p.2 - 1 else t) else f) = f' → ∀ zs, lastT t ((ys ++ [p]) ++ zs) none = lastT t zs f' := fun f' e zs => by
      rw [List.append_assoc, q]
      show lastT t (p :: zs) f = _
      rw [lastT, e]
    have hm : dMin [.int t, .int (p.2 - 1)] = some (.int (if p.2 - 1 < t then p.2 - 1 else t)) := rfl
    refine_lift' st
    · intro h
      refine_lift' st [hm]
      exact ⟨some (if p.2 - 1 < t then p.2 - 1 else t), .dat (.int p.1), .dat (.int p.2), rfl, step _ (if_pos (of_decide_eq_true h))⟩
    · intro h
      refine_lift' st
      exact ⟨f, .dat (.int p.1), .dat (.int p.2), rfl, step _ (if_neg (of_decide_eq_false h))⟩
  · rintro ρ ⟨f, x, y, rfl, q⟩
    refine_lift' st
    refine rq_rt ?_
    have := q []
    rw [List.append_nil] at this
    rw [this]
    rfl
theorem v_written (p : Ps) (L t : Int) (hg0 : 0 ≤ p.glide) (hg : p.glide ≤ 100) : F_written C [encP p, .int L, .int t] = some (encWr (writtenM p L t)) := by
  have he := v_end_of C p L
  have hl := v_last_touch C p.touches t
  refine retF ?_
  unfold B_written
  unfold encP at he ⊢
  refine_lift' st
  refine_lift' st [he]
  · intro h
    refine_lift' st
    refine rq_rt ?_
    unfold writtenM
    rw [if_neg (by simp at h; omega)]
    rfl
  · intro h
    have h1 : p.first ≤ t ∧ t < endM p L := by simp at h; omega
    refine_lift' st
    refine_lift' st [hl]
    unfold writtenM
    rw [if_pos h1]
    have hle := lastT_le t p.touches none (fun _ q => by cases q)
    cases hc : lastT t p.touches none with
    | none =>
      refine_lift' st
      · intro _
        refine_lift' st
        refine rq_rt ?_
        by_cases hm : p.mode = "write"
        · simp only [hm, decide_true, if_true]; rfl
        · simp only [hm, decide_false, if_false]; rfl
      · intro h; cases h
    | some hd =>
      have hle := hle hd hc
      have hx : encOI (some hd) = .int hd := rfl
      simp only [hx]
      refine_lift' st
      · intro h; cases h
      · intro _
        refine_lift' st
        refine_lift' st
        · intro h
          have h2 : p.mode = "write" ∨ p.mode = "latch" := by simpa using h
          rw [if_pos h2]
          refine_lift' st
          exact rq_rt rfl
        · intro h
          have h2 : ¬ (p.mode = "write" ∨ p.mode = "latch") := by simpa using h
          rw [if_neg h2]
          refine_lift' st
          refine_lift' st
          refine_lift' st
          · intro h
            have h3 := of_decide_eq_true h
            rw [if_pos h3]
            refine_lift' st
            exact rq_rt rfl
          · intro h
            have h3 := of_decide_eq_false h
            rw [if_neg h3]
            have w1 : WtOk 1 (p.glide + 1 - (t - hd), p.glide + 1) := wt1 (by omega) (by omega) (by omega) (by omega)
            have w2 : WtOk 1 (t - hd, p.glide + 1) := wt1 (by omega) (by omega) (by omega) (by omega)
            have l1 := v_lowest C w1 (by omega)
            have l2 := v_lowest C w2 (by omega)
            refine_lift' st
            refine_lift' st [l2]
            refine_lift' st [l1]
            refine rq_rt ?_
            by_cases hm : p.mode = "trim"
            · simp only [hm, decide_true, if_true]; rfl
            · simp only [hm, decide_false, if_false]; rfl
end
end My
set_option exponentiation.threshold 20000
namespace My
open PySem PySem.Spec PyProof.Rows L2 DL
theorem eqs_w (v w : Wt) : dEq (encW v) (encW w) = some (.bl (decide (v = w))) := by
  have : eqs (encW v) (encW w) = some (decide (v = w)) := by
    unfold eqs encW
    rw [if_pos (by refine ⟨rfl, rfl, rfl, rfl⟩)]
    obtain ⟨a, b⟩ := v
    obtain ⟨a', b'⟩ := w
    congr 1
    simp only [toP, toPs, PyData.eqv, PyData.eqvAll, Bool.and_true]
    by_cases h1 : a = a' <;> by_cases h2 : b = b' <;> simp [h1, h2]
  show (eqs (encW v) (encW w)).map D.bl = _
  rw [this]; rfl
section
variable (C : Addr)
theorem v_taken_by {k : Nat} (p : Ps) (L t : Int) (w : Wt) (hg0 : 0 ≤ p.glide) (hg : p.glide ≤ 100) (hw : WtOk k w) (hk : k < 100) : F_taken_by C [encP p, .int L, encLf (t, w)] = some (.tup [encOL (takenM p L (t, w)).1, encOL (takenM p L (t, w)).2]) := by
  have hwr := v_written C p L t hg0 hg
  refine retF ?_
  unfold B_taken_by
  unfold encLf
  refine_lift' st
  refine_lift' st [hwr]
  unfold takenM
  cases e : writtenM p L t with
  | none =>
    simp only [e, encWr]
    refine_lift' st
    · intro _
      refine_lift' st
      exact rq_rt rfl
    · intro h; cases h
  | some r =>
    obtain ⟨o1, o2⟩ := writtenM_ok hg0 hg e
    obtain ⟨hd, sh, pl, rs⟩ := r
    have t1 := v_times C hw o1 (by omega)
    have t2 := v_times C hw o2 (by omega)
    have eq2 := eqs_w rs (0, 1)
    simp only [e, encWr] at t1 t2 ⊢
    refine_lift' st
    · intro h; cases h
    · intro _
      refine_lift' st
      refine_lift' st
      cases hd with
      | none =>
        simp only [encOI]
        have m10 : ∀ ρ, mVar 6 ρ = some (D.non, ρ) → mIf (mTst (mOp dIs (mVar 6) (mC .non))) (mC .non) (mTup (aCons (mVar 6) (aCons (mFn (F_times C) (aCons (mVar 4) (aCons (mVar 7) aNil))) aNil))) ρ = some (.non, ρ) := fun ρ h => e_if1 (by refine_lift' ev) rfl
        refine_lift' st [m10 _ (e_var rfl)]
        refine_lift' st [eq2, t2]
        refine rq_rt ?_
        by_cases hr : rs = (0, 1)
        · simp only [hr, decide_true, if_true, Option.map_none]; rfl
        · simp only [hr, decide_false, if_false, Option.map_none]; rfl
      | some hd =>
        simp only [encOI]
        have m10 : ∀ ρ, mVar 6 ρ = some (D.int hd, ρ) → mVar 4 ρ = some (encW w, ρ) → mVar 7 ρ = some (encW sh, ρ) → mIf (mTst (mOp dIs (mVar 6) (mC .non))) (mC .non) (mTup (aCons (mVar 6) (aCons (mFn (F_times C) (aCons (mVar 4) (aCons (mVar 7) aNil))) aNil))) ρ = some (.tup [.int hd, encW (timesM w sh)], ρ) := fun ρ h h4 h7 => e_if0 (e_tst (p := false) (e_op h e_c rfl)) (by refine_lift' ev [t1])
        refine_lift' st [m10 _ (e_var rfl) (e_var rfl) (e_var rfl)]
        refine_lift' st [eq2, t2]
        refine rq_rt ?_
        by_cases hr : rs = (0, 1)
        · simp only [hr, decide_true, if_true, Option.map_some]; rfl
        · simp only [hr, decide_false, if_false, Option.map_some]; rfl
end
theorem takenM_ok {k : Nat} {p : Ps} {L : Int} {l : Lf} (hg0 : 0 ≤ p.glide) (hg : p.glide ≤ 100) (hw : WtOk k l.2) : (∀ x, (takenM p L l).1 = some x → WtOk (k + 1) x.2) ∧ ∀ x, (takenM p L l).2 = some x → WtOk (k + 1) x.2 := by
  unfold takenM
  cases e : writtenM p L l.1 with
  | none => exact ⟨fun x h => (by cases h), fun x h => by cases h; exact hw.mono (by omega)⟩
  | some r =>
    obtain ⟨o1, o2⟩ := writtenM_ok hg0 hg e
    refine ⟨fun x h => ?_, fun x h => ?_⟩
    · obtain ⟨h', _, rfl⟩ := Option.map_eq_some_iff.mp h
      exact lowM_ok (mul_wt hw o1)
    · simp only at h
      split at h
      · cases h
      · cases h
        exact lowM_ok (mul_wt hw o2)
end My
set_option exponentiation.threshold 20000
namespace My
open PySem PySem.Spec PyProof.Rows L2 DL
def sortT (ts : List Tm) : List D := (ts.map encTm).mergeSort leD
theorem tm_alike (a b : Tm) : PySem.W.alike (toP (encTm a)) (toP (encTm b)) = true := by
  simp [encTm, encW, toP, toPs, PySem.W.alike, PySem.W.alikeAll]
theorem leD_total : PySem.W.TotalLe leD := PySem.W.sortLe_total _ _ _
theorem leD_tm {a b : Tm} (h : a.name ≠ b.name) : leD (encTm a) (encTm b) = !decide (b.name.cps.toList < a.name.cps.toList) := by
  show (!PySem.W.dataLt (toP (encTm b)) (toP (encTm a))) = _
  have e : PySem.W.dataLt (toP (encTm b)) (toP (encTm a)) = decide (b.name.cps.toList < a.name.cps.toList) := by
    simp only [encTm, toP, toPs]
    rw [PySem.W.dataLt_tuple, PySem.W.dataLt_cons (by simp [PySem.W.alike]), PySem.W.dataLt_str]
    have : PyData.eqv (.str b.name) (.str a.name) = false := by
      simp only [PyData.eqv]
      exact beq_eq_false_iff_ne.mpr fun q => h q.symm
    rw [this]
    rfl
  rw [e]
theorem leD_anti {a b : Tm} (h : a.name ≠ b.name) : ¬ (leD (encTm a) (encTm b) = true ∧ leD (encTm b) (encTm a) = true) := by
  rintro ⟨h1, h2⟩
  rw [leD_tm h] at h1
  rw [leD_tm (Ne.symm h)] at h2
  have h1 : ¬ b.name.cps.toList < a.name.cps.toList := by simpa using h1
  have h2 : ¬ a.name.cps.toList < b.name.cps.toList := by simpa using h2
  exact h (PySem.W.str_of_cps (List.le_antisymm (List.not_lt.mp h1) (List.not_lt.mp h2)))
theorem sortT_perm {ts us : List Tm} (h : ts.Perm us) (nd : (ts.map Tm.name).Nodup) : sortT ts = sortT us := by
  unfold sortT
  refine List.Perm.eq_of_pairwise (le := fun a b => leD a b = true) ?_ (PySem.W.sort_pairwise leD_total _) (PySem.W.sort_pairwise leD_total _) ?_
  · intro x y hx hy h1 h2
    obtain ⟨a, ha, rfl⟩ := List.mem_map.mp (List.mem_mergeSort.mp hx)
    obtain ⟨b, hb, rfl⟩ := List.mem_map.mp (List.mem_mergeSort.mp hy)
    have hb := h.mem_iff.mpr hb
    by_cases e : a.name = b.name
    · have : a = b := by
        clear h hx hy h1 h2
        induction ts with
        | nil => cases ha
        | cons t ts ih =>
          rw [List.map_cons, List.nodup_cons] at nd
          rcases List.mem_cons.mp ha with p | p <;> rcases List.mem_cons.mp hb with q | q
          · rw [p, q]
          · exact (nd.1 (by rw [← p, e]; exact List.mem_map.mpr ⟨b, q, rfl⟩)).elim
          · exact (nd.1 (by rw [← q, ← e]; exact List.mem_map.mpr ⟨a, p, rfl⟩)).elim
          · exact ih nd.2 p q
      rw [this]
    · exact (leD_anti e ⟨h1, h2⟩).elim
  · exact (List.mergeSort_perm _ _).trans ((h.map encTm).trans (List.mergeSort_perm _ _).symm)
theorem plains_map {α : Type} (f : α → D) (h : ∀ a, DL.plain (f a) = true) : ∀ xs : List α, plains (xs.map f) = true
  | [] => rfl
  | x :: xs => by simp only [List.map_cons, plains, h x, plains_map f h xs, Bool.and_self]
theorem sorted_tms (ts : List Tm) (h : ts.length ≤ sizeLine) : dSorted [.lst (ts.map encTm)] = some (.lst (sortT ts)) := by
  refine if_pos ⟨plains_map _ (fun a => rfl) ts, ?_, ?_, ?_, by rw [List.length_map]; exact h⟩
  · rw [toPs_map, List.map_map]
    refine List.all_eq_true.mpr fun x hx => List.all_eq_true.mpr fun y hy => ?_
    obtain ⟨a, _, rfl⟩ := List.mem_map.mp hx
    obtain ⟨b, _, rfl⟩ := List.mem_map.mp hy
    exact tm_alike a b
  · rw [toPs_map, List.map_map]
    unfold sortable
    rw [Bool.or_eq_true]
    refine .inl (List.all_eq_true.mpr fun x hx => ?_)
    obtain ⟨a, _, rfl⟩ := List.mem_map.mp hx
    simp [encTm, toP, toPs, hasHead]
  · rw [toPs_map, List.map_map]
    refine List.all_eq_true.mpr fun x hx => ?_
    obtain ⟨a, _, rfl⟩ := List.mem_map.mp hx
    simp [encTm, encW, toP, toPs, PyData.depth, PyData.depthAll]
theorem sortT_length (ts : List Tm) : (sortT ts).length = ts.length := by
  unfold sortT
  rw [List.length_mergeSort, List.length_map]
section
variable (C : Addr)
theorem wt_one : WtOk 0 (1, 1) := ⟨by decide, by decide, by decide, by decide⟩
theorem passOk_glide {L : Int} {p : Ps} (h : passOk L p = true) : 0 ≤ p.glide ∧ p.glide ≤ 100 := by
  unfold passOk at h
  simp only [Bool.and_eq_true, decide_eq_true_eq] at h
  exact ⟨h.1.2, h.2⟩
theorem v_form_of {L t : Int} {ps : List Ps} (h : PssOk L ps) : F_form_of C [.tup (ps.map encP), .int L, .int t] = some (.tup (sortT (formM L ps.reverse (t, (1, 1))))) := by
  refine retF ?_
  unfold B_form_of
  refine_lift' st
  refine_lift' st
  refine st_for (α := Ps) (enc := encP) (xs := ps.reverse) (ρ1 := [.dat (.tup (ps.map encP)), .dat (.int L), .dat (.int t), .own false (.lst []), .dat (encLf (t, (1, 1))), .no, .no]) ?_ (fun ys ρ => ∃ (acc : List Tm) (l : Lf) (x y : Cell), ρ = [.dat (.tup (ps.map encP)), .dat (.int L), .dat (.int t), .own false (.lst (acc.map encTm)), .dat (encLf l), x, y] ∧ acc.length ≤ ys.length ∧ WtOk ys.length l.2 ∧ ∀ zs, formM L (ys ++ zs) (t, (1, 1)) = acc ++ formM L zs l) ⟨[], (t, (1, 1)), _, _, rfl, Nat.le_refl _, wt_one, fun _ => rfl⟩ ?_ ?_
  · have : seqT (.tup (ps.map encP).reverse) = some (ps.reverse.map encP) := by rw [List.map_reverse]; rfl
    exact e_bd (e_un (x := .tup (ps.map encP)) (z := .tup (ps.map encP).reverse) rfl rfl) (e_l this)
  · rintro ys p zs ρ e ⟨acc, ⟨lt, lw⟩, x, y, rfl, ha, hw, q⟩
    have hmem : p ∈ ps := List.mem_reverse.mp (by rw [e]; simp)
    obtain ⟨hg0, hg⟩ := passOk_glide (h.ok p hmem)
    have hyl : ys.length + 1 ≤ 8 := by
      have := h.len
      rw [← List.length_reverse, e] at this
      simp at this; omega
    have ht := v_taken_by C p L lt lw hg0 hg hw (by omega)
    have hok := takenM_ok (L := L) (l := (lt, lw)) hg0 hg hw
    have hix : dIx (encP p) (.int 0) = some (.str p.name) := rfl
    have step : ∀ zs', formM L ((ys ++ [p]) ++ zs') (t, (1, 1)) = acc ++ formM L (p :: zs') (lt, lw) := fun zs' => by rw [List.append_assoc]; exact q _
    have hfull : formM L ps.reverse (t, (1, 1)) = acc ++ formM L (p :: zs) (lt, lw) := by rw [e]; exact q _
    refine ⟨(), [.dat (.tup (ps.map encP)), .dat (.int L), .dat (.int t), .own false (.lst (acc.map encTm)), .dat (encLf (lt, lw)), .dat (encP p), y], rfl, ?_⟩
    have hl1 : (acc.map encTm).length < sizeLine := by rw [List.length_map]; exact Nat.lt_of_lt_of_le (by omega : acc.length < 100) (len_le (by omega))
    have ets : ∀ tk : Option Lf, (takenM p L (lt, lw)).1 = tk → acc.map encTm ++ (tk.map fun x => encTm ⟨p.name, x.1, x.2⟩).toList = (acc ++ (tk.map fun x => Tm.mk p.name x.1 x.2).toList).map encTm := fun tk _ => by
      cases tk <;> simp
    -- behind the pass: what is left, or the end
    have tail : ∀ (acc' : List Tm) (c6 : Cell), acc' = acc ++ ((takenM p L (lt, lw)).1.map fun x => Tm.mk p.name x.1 x.2).toList → BodyQ (fun ρ => ∃ (acc : List Tm) (l : Lf) (x y : Cell), ρ = [.dat (.tup (ps.map encP)), .dat (.int L), .dat (.int t), .own false (.lst (acc.map encTm)), .dat (encLf l), x, y] ∧ acc.length ≤ (ys ++ [p]).length ∧ WtOk (ys ++ [p]).length l.2 ∧ ∀ zs, formM L ((ys ++ [p]) ++ zs) (t, (1, 1)) = acc ++ formM L zs l) (fun ρ' => RetQ (fun r => r = .tup (sortT (formM L ps.reverse (t, (1, 1))))) ((sSeq (sAppV 3 (mTup (aCons (mC (.str "old")) (aStar (mVar 4) aNil)))) (sRet (mFn dTuple (aCons (mFn dSorted (aCons (mVar 3) aNil)) aNil)))) ρ')) (RetQ (fun r => r = .tup (sortT (formM L ps.reverse (t, (1, 1)))))) (sSeq (sIf (mTst (mOp dIs (mVar 4) (mC .non))) (sRet (mFn dTuple (aCons (mFn dSorted (aCons (mVar 3) aNil)) aNil))) sNx) sNx [.dat (.tup (ps.map encP)), .dat (.int L), .dat (.int t), .own false (.lst (acc'.map encTm)), .dat (encOL (takenM p L (lt, lw)).2), .dat (encP p), c6]) := by
      intro acc' c6 ea
      have hal : acc'.length ≤ ys.length + 1 := by
        rw [ea, List.length_append]
        cases (takenM p L (lt, lw)).1 <;> simp <;> omega
      cases e2 : (takenM p L (lt, lw)).2 with
      | none =>
        have hs := sorted_tms acc' (Nat.le_trans (by omega : acc'.length ≤ 1000) (len_le (Nat.le_refl _)))
        have hf : formM L ps.reverse (t, (1, 1)) = acc' := by
          rw [hfull, ea, formM, e2]
          simp
        refine_lift' st
        · intro _
          have h3 : ∀ ρ : Cs, mVar 3 ρ = some (.lst (acc'.map encTm), ρ.set 3 (.dat (.lst (acc'.map encTm)))) → mFn dTuple (aCons (mFn dSorted (aCons (mVar 3) aNil)) aNil) ρ = some (.tup (sortT acc'), ρ.set 3 (.dat (.lst (acc'.map encTm)))) := fun ρ h => e_fn (e_acons (e_fn (e_acons h e_anil) hs) e_anil) rfl
          refine_lift' st [h3 _ (e_varO rfl)]
          exact rq_rt (by rw [hf])
        · intro h; cases h
      | some l' =>
        have hw' := hok.2 l' e2
        refine_lift' st
        · intro h; cases h
        · intro _
          refine_lift' st
          refine ⟨acc', l', _, _, rfl, by simpa using hal, by simpa using hw', fun zs' => ?_⟩
          rw [step, formM, e2, ea]
          simp
    refine st_one ?_
    refine_lift' st
    refine_lift' st [ht]
    cases e1 : (takenM p L (lt, lw)).1 with
    | none =>
      refine_lift' st
      refine_lift' st
      · intro h; cases h
      · intro _
        refine_lift' st
        exact tail acc _ (by rw [e1]; simp)
    | some tk =>
      refine_lift' st
      refine_lift' st
      · intro _
        refine_lift' st [hix, hl1]
        have := tail (acc ++ [⟨p.name, tk.1, tk.2⟩]) (.dat (encOL (some tk))) (by rw [e1]; simp)
        rw [List.map_append] at this
        exact this
      · intro h; cases h
  · rintro ρ ⟨acc, ⟨lt, lw⟩, x, y, rfl, ha, hw, q⟩
    have hal : acc.length ≤ 8 := by
      have := h.len
      rw [List.length_reverse] at ha
      omega
    have hl1 : (acc.map encTm).length < sizeLine := by rw [List.length_map]; exact Nat.lt_of_lt_of_le (by omega : acc.length < 100) (len_le (by omega))
    unfold encLf
    refine_lift' st [hl1]
    have q := q []
    rw [List.append_nil] at q
    have e : acc.map encTm ++ [.tup ([.str "old"] ++ [.int lt, encW lw])] = (formM L ps.reverse (t, (1, 1))).map encTm := by
      rw [q, List.map_append]
      rfl
    have hs := sorted_tms (formM L ps.reverse (t, (1, 1))) (by rw [q]; exact len_le (by simp [formM]; omega))
    rw [← e] at hs
    have h3 : ∀ ρ : Cs, mVar 3 ρ = some (.lst (acc.map encTm ++ [.tup ([.str "old"] ++ [.int lt, encW lw])]), ρ.set 3 (.dat (.lst (acc.map encTm ++ [.tup ([.str "old"] ++ [.int lt, encW lw])])))) → mFn dTuple (aCons (mFn dSorted (aCons (mVar 3) aNil)) aNil) ρ = some (.tup (sortT (formM L ps.reverse (t, (1, 1)))), ρ.set 3 (.dat (.lst (acc.map encTm ++ [.tup ([.str "old"] ++ [.int lt, encW lw])])))) := fun ρ h => e_fn (e_acons (e_fn (e_acons h e_anil) hs) e_anil) rfl
    refine_lift' st [h3 _ (e_varO rfl)]
    exact rq_rt rfl
end
end My
set_option exponentiation.threshold 20000
namespace My
open PySem PySem.Spec PyProof.Rows L2 DL
section
variable (C : Addr)
/-- the form of a track -/
def formD (L : Int) (ps : List Ps) (t : Int) : D := .tup (sortT (formM L ps.reverse (t, (1, 1))))
end
end My
set_option exponentiation.threshold 20000
namespace My
open PySem PySem.Spec PyProof.Rows L2 DL
structure Pur where
  d : Int
  s : Int
  c : Int
def encPu (u : Pur) : D := .lst [.int u.d, .int u.s, .int u.c]
structure PurOk (m : Nat) (u : Pur) : Prop where
  bits : Builtin.Int.intBits u.d ≤ 1048576
  s0 : 0 ≤ u.s
  s1 : u.s < 2147483648
  c0 : 0 ≤ u.c
  c1 : u.c + (m : Int) ≤ 1000000000
theorem PurOk.mono {m n : Nat} {u : Pur} (h : PurOk m u) (k : n ≤ m) : PurOk n u := ⟨h.bits, h.s0, h.s1, h.c0, by have := h.c1; omega⟩
theorem mul_bits {i j : Int} (h : Builtin.Int.intBits i ≤ 10000000) (h' : Builtin.Int.intBits j ≤ 10000000) : dMul (.int i) (.int j) = some (.int (i * j)) := if_pos (by omega)
theorem mod_ok {i j : Int} (h : 0 < j) : dMod (.int i) (.int j) = some (.int (i % j)) := if_pos h
theorem divmod_ok {i j : Int} (h : 0 < j) (h' : j < 1073741824073741824) : dDivmod [.int i, .int j] = some (.tup [.int (i / j), .int (i % j)]) := by
  refine if_pos ⟨h, ?_⟩
  have h0 : j.natAbs ≠ 0 := by omega
  have : j.natAbs.log2 < 60 := (Nat.log2_lt h0).mpr (by omega)
  omega
section
variable (C : Addr)
theorem v_law_draw {m : Nat} {u : Pur} (hu : PurOk (m + 1) u) {n : Int} (h0 : 0 < n) (h1 : n < 1073741824073741824) : ∃ (i : Int) (u' : Pur), F_law_draw C (encPu u) [.int n] = some (.int i, encPu u') ∧ 0 ≤ i ∧ i < n ∧ PurOk m u' := by
  obtain ⟨d, s, c⟩ := u
  obtain ⟨b, s0, s1, c0, c1⟩ := hu
  simp only at b s0 s1 c0 c1
  have e1 := mod_ok (i := s) (j := 40009) (by decide)
  have q1 : 0 ≤ s % 40009 ∧ s % 40009 < 40009 := ⟨Int.emod_nonneg _ (by decide), Int.emod_lt_of_pos _ (by decide)⟩
  have c31 : (2 : Nat) ^ 31 ≤ 2 ^ 1000 := by decide +kernel
  have e2 : dMul (.int s) (.int (s % 40009 + 20021)) = some (.int (s * (s % 40009 + 20021))) := mul_ok (Nat.le_trans (by omega) c31) (Nat.le_trans (by omega) c31)
  have e3 : dMul (.int 60013) (.int (c + 1)) = some (.int (60013 * (c + 1))) := mul_ok (Nat.le_trans (by omega) c31) (Nat.le_trans (by omega) c31)
  have e4 := mod_ok (i := s * (s % 40009 + 20021) + 60013 * (c + 1) + 11) (j := 2147483629) (by decide)
  have q4 : 0 ≤ (s * (s % 40009 + 20021) + 60013 * (c + 1) + 11) % 2147483629 ∧ (s * (s % 40009 + 20021) + 60013 * (c + 1) + 11) % 2147483629 < 2147483629 := ⟨Int.emod_nonneg _ (by decide), Int.emod_lt_of_pos _ (by decide)⟩
  generalize hS : (s * (s % 40009 + 20021) + 60013 * (c + 1) + 11) % 2147483629 = S at e4 q4
  have e5 := divmod_ok (i := d) h0 h1
  have e6 : dDiv (.int S) (.int 89) = some (.int (S / 89)) := div_ok (by decide) (Nat.le_trans (by decide : (89 : Int).natAbs ≤ 2 ^ 31) (Nat.pow_le_pow_right (by decide) (by decide)))
  have e7 := mod_ok (i := S / 89) h0
  have i1 : ∀ i : Int, dInt [.int i] = some (.int i) := fun i => rfl
  have : ∃ r u', runO 2 3 (B_law_draw C) (encPu ⟨d, s, c⟩) [.int n] = some (r, u') ∧ ∃ (i : Int) (v : Pur), r = .int i ∧ u' = encPu v ∧ 0 ≤ i ∧ i < n ∧ PurOk m v := by
    refine retOE ?_
    unfold B_law_draw encPu
    refine_lift' st [e1, i1 _]
    refine_lift' st
    refine_lift' st [e2, e3, e4, i1 _]
    refine_lift' st
    · intro h
      have hd : 0 < d := of_decide_eq_true h
      refine_lift' st
      refine_lift' st [e5]
      refine_lift' st
      exact ro_rt ⟨d % n, ⟨d / n, S, c + 1⟩, rfl, rfl, Int.emod_nonneg _ (by omega), Int.emod_lt_of_pos _ h0, Nat.le_trans (bits_div (by omega) h0) b, by simp only; omega, by simp only; omega, by simp only; omega, by simp only; omega⟩
    · intro h
      refine_lift' st
      refine_lift' st [e6, e7, i1 _]
      exact ro_rt ⟨S / 89 % n, ⟨d, S, c + 1⟩, rfl, rfl, Int.emod_nonneg _ (by omega), Int.emod_lt_of_pos _ h0, b, by simp only; omega, by simp only; omega, by simp only; omega, by simp only; omega⟩
  obtain ⟨r, u', e, i, v, rfl, rfl, h⟩ := this
  exact ⟨i, v, e, h⟩
theorem v_law_pick {m : Nat} {u : Pur} (hu : PurOk (m + 1) u) {ds : List D} (h0 : 0 < ds.length) (h1 : ds.length ≤ 1000) : ∃ (x : D) (u' : Pur), F_law_pick C (encPu u) [.lst ds] = some (x, encPu u') ∧ x ∈ ds ∧ PurOk m u' := by
  obtain ⟨i, u1, e, i0, i1, hu1⟩ := v_law_draw C hu (n := ds.length) (by omega) (by omega)
  obtain ⟨j, rfl⟩ : ∃ j : Nat, i = j := ⟨i.toNat, by omega⟩
  have hj : j < ds.length := by omega
  have hix : dIx (.lst ds) (.int j) = some ds[j] := atI_nat (by rw [List.getElem?_eq_getElem hj])
  have : ∃ r u', runO 2 0 (B_law_pick C) (encPu u) [.lst ds] = some (r, u') ∧ r = ds[j] ∧ u' = encPu u1 := by
    refine retOE ?_
    unfold B_law_pick
    refine_lift' st [e, hix]
    exact ro_rt ⟨rfl, rfl⟩
  obtain ⟨r, u', e', rfl, rfl⟩ := this
  exact ⟨_, u1, e', List.getElem_mem hj, hu1⟩
theorem cut4 (ns : List Int) : dSl (.scr ns) none (some 4) = some (.lst ((ns.take 4).map .int)) := by
  have : DL.cutD ns none (some ((4 : Nat) : Int)) = ns.take 4 := by
    unfold DL.cutD
    rw [HT.sIx_none, HT.sIx_nat, List.drop_zero, Nat.sub_zero]
    by_cases h : 4 ≤ ns.length
    · rw [Nat.min_eq_left h]
    · rw [Nat.min_eq_right (by omega), List.take_length, List.take_of_length_le (by omega)]
  show some (D.lst ((DL.cutD ns none (some ((4 : Nat) : Int))).map .int)) = _
  rw [this]
theorem v_law_purse {ns : List Int} (hb : ∀ z ∈ ns, Builtin.Int.intBits z ≤ 1048576) {k : Nat} (hk : k ≤ 100) : ∃ u : Pur, F_law_purse C [.scr ns, .int k] = some (encPu u) ∧ PurOk 1000000000 u := by
  have c31 : (2 : Nat) ^ 40 ≤ 2 ^ 1000 := by decide +kernel
  have i1 : ∀ i : Int, dInt [.int i] = some (.int i) := fun i => rfl
  have : ∃ d, F_law_purse C [.scr ns, .int k] = some d ∧ ∃ u : Pur, d = encPu u ∧ PurOk 1000000000 u := by
    refine retNE ?_
    unfold B_law_purse
    refine_lift' st
    · intro h
      have lk : k < ns.length := by
        have := of_decide_eq_true h
        omega
      have hc := hb _ (List.getElem_mem lk)
      have hix : dIx (.scr ns) (.int k) = some (.int ns[k]) := by
        show (atI ns k).map D.int = _
        rw [atI_nat (j := k) (by rw [List.getElem?_eq_getElem lk])]
        rfl
      generalize ns[k] = cell at hc hix
      have e1 : dMul (.int cell) (.int 39373) = some (.int (cell * 39373)) := mul_bits (Nat.le_trans hc (by decide)) (by decide)
      have e2 : dMul (.int 104723) (.int k) = some (.int (104723 * (k : Int))) := mul_ok (Nat.le_trans (by decide) c31) (Nat.le_trans (by omega) c31)
      have e3 := mod_ok (i := cell * 39373 + 104723 * (k : Int) + 17) (j := 2147483629) (by decide)
      have q3 : 0 ≤ (cell * 39373 + 104723 * (k : Int) + 17) % 2147483629 ∧ (cell * 39373 + 104723 * (k : Int) + 17) % 2147483629 < 2147483629 := ⟨Int.emod_nonneg _ (by decide), Int.emod_lt_of_pos _ (by decide)⟩
      have ab : dAbs [.int cell] = some (.int (if cell < 0 then -cell else cell)) := rfl
      have p18 : dPow (.int 10) (.int 18) = some (.int 1000000000000000000) := by
        have e : ((10 : Int) ^ (18 : Int).toNat) = 1000000000000000000 := by decide +kernel
        rw [← e]
        exact if_pos (e := none) (show (0 : Int) ≤ 18 ∧ (18 : Int) ≤ 1000000 ∧ (10 : Int).natAbs < 2 ^ 64 by decide +kernel)
      generalize hS : (cell * 39373 + 104723 * (k : Int) + 17) % 2147483629 = S at e3 q3
      refine_lift' st
      refine_lift' st [hix]
      have m3 : ∀ ρ : Cs, mVar 2 ρ = some (.int cell, ρ) → ∃ d : Int, mIf (mOr (mTst (mOp dLt (mVar 2) (mC (.int 0)))) (mTst (mOp dGe (mVar 2) (mOp dPow (mC (.int 10)) (mC (.int 18)))))) (mFn dAbs (aCons (mVar 2) aNil)) (mC (.int 0)) ρ = some (.int d, ρ) ∧ Builtin.Int.intBits d ≤ 1048576 := by
        intro ρ h
        cases hq : (decide (cell < 0) || decide ((1000000000000000000 : Int) ≤ cell)) with
        | true =>
          refine ⟨if cell < 0 then -cell else cell, e_if1 (by rw [← hq]; refine_lift' ev [p18]) (by refine_lift' ev), Nat.le_trans (bits_mono ?_) hc⟩
          split <;> omega
        | false => exact ⟨0, e_if0 (by rw [← hq]; refine_lift' ev [p18]) rfl, by decide⟩
      obtain ⟨d, hd, bd⟩ := m3 [.dat (.scr ns), .dat (.int k), .dat (.int cell), .no, .no] rfl
      refine_lift' st
      refine st_set (ρ := [.dat (.scr ns), .dat (.int k), .dat (.int cell), .no, .no]) hd ?_
      refine_lift' st [e1, e2, e3, i1 _]
      exact rn_rn ⟨⟨d, S, 0⟩, rfl, bd, by simp only; omega, by simp only; omega, by simp only; omega, by simp only; omega⟩
    · intro _
      have e1 : dMul (.int 86243) (.int k) = some (.int (86243 * (k : Int))) := mul_ok (Nat.le_trans (by decide) c31) (Nat.le_trans (by omega) c31)
      have hc4 := cut4 ns
      refine_lift' st
      refine_lift' st [e1]
      refine st_for (α := Int) (enc := D.int) (xs := ns.take 4) (ρ1 := [.dat (.scr ns), .dat (.int k), .no, .no, .dat (.int (86243 * (k : Int) + 131))]) ?_ (fun ys ρ => ∃ (y : Cell) (s : Int), ρ = [.dat (.scr ns), .dat (.int k), y, .no, .dat (.int s)] ∧ 0 ≤ s ∧ s < 2147483648) ⟨_, _, rfl, by omega, by omega⟩ ?_ ?_
      · have h1 : mSl dSl (mVar 0) mNo (mPart (mC (.int 4))) [.dat (.scr ns), .dat (.int k), .no, .no, .dat (.int (86243 * (k : Int) + 131))] = some (.lst ((ns.take 4).map .int), [.dat (.scr ns), .dat (.int k), .no, .no, .dat (.int (86243 * (k : Int) + 131))]) := by refine_lift' ev [hc4]
        exact e_bd h1 (e_l rfl)
      · rintro ys x zs ρ e ⟨y, s, rfl, s0, s1⟩
        have e2 : dMul (.int s) (.int 48271) = some (.int (s * 48271)) := mul_ok (Nat.le_trans (by omega) c31) (Nat.le_trans (by decide) c31)
        have e3 := mod_ok (i := s * 48271 + x) (j := 2147483587) (by decide)
        have q3 : 0 ≤ (s * 48271 + x) % 2147483587 ∧ (s * 48271 + x) % 2147483587 < 2147483587 := ⟨Int.emod_nonneg _ (by decide), Int.emod_lt_of_pos _ (by decide)⟩
        refine ⟨(), [.dat (.scr ns), .dat (.int k), .dat (.int x), .no, .dat (.int s)], rfl, ?_⟩
        refine_lift' st [e2, e3, i1 _]
        refine_lift' st
        exact ⟨.dat (.int x), _, rfl, q3.1, by omega⟩
      · rintro ρ ⟨y, s, rfl, s0, s1⟩
        refine_lift' st
        exact rn_rn ⟨⟨0, s, 0⟩, rfl, by show Builtin.Int.intBits 0 ≤ 1048576; decide, s0, s1, by show (0 : Int) ≤ 0; decide, by show (0 : Int) + 1000000000 ≤ 1000000000; decide⟩
  obtain ⟨d, e, u, rfl, h⟩ := this
  exact ⟨u, e, h⟩
end
end My
set_option exponentiation.threshold 20000
namespace My
open PySem PySem.Spec PyProof.Rows L2 DL
section
variable (C : Addr)
def placeM (ps : List Ps) (n : Str) : Option Nat := ps.findIdx? fun p => decide (p.name = n)
theorem zipIdx_at {α : Type} {xs : List α} {ys zs : List (α × Nat)} {x : α} {k : Nat} (e : xs.zipIdx = ys ++ (x, k) :: zs) : ys.length = k ∧ xs = ys.map (·.1) ++ x :: zs.map (·.1) := by
  have e1 : xs = (ys ++ (x, k) :: zs).map (·.1) := by rw [← e, List.zipIdx_map_fst]
  rw [List.map_append, List.map_cons] at e1
  refine ⟨?_, e1⟩
  have e2 : List.range' 0 xs.length = (ys ++ (x, k) :: zs).map (·.2) := by rw [← e, List.zipIdx_map_snd]
  have e3 : (List.range' 0 xs.length)[ys.length]? = some k := by
    rw [e2, List.map_append, List.getElem?_append_right (by rw [List.length_map]; exact Nat.le_refl _), List.length_map, Nat.sub_self]
    rfl
  have hy : ys.length < xs.length := by rw [e1]; simp
  rw [List.getElem?_range' hy] at e3
  have e3 := Option.some.inj e3
  omega
def encON : Option Nat → D
  | none => .non
  | some i => .int i
theorem v_place_of (ps : List Ps) (n : Str) : F_place_of C [.tup (ps.map encP), .str n] = some (encON (placeM ps n)) := by
  refine retF ?_
  unfold B_place_of
  refine_lift' st
  · intro _
    refine st_for (α := Ps × Nat) (enc := fun p => .tup [.int p.2, encP p.1]) (xs := ps.zipIdx) (ρ1 := [.dat (.tup (ps.map encP)), .dat (.str n), .no, .no]) ?_ (fun ys ρ => ∃ x y, ρ = [.dat (.tup (ps.map encP)), .dat (.str n), x, y] ∧ ∀ q ∈ ys, ¬ q.1.name = n) ⟨_, _, rfl, fun q h => by cases h⟩ ?_ ?_
    · have : enumT? [.tup (ps.map encP)] = some (ps.zipIdx.map fun p => .tup [.int p.2, encP p.1]) := by rw [← enumD_map]; rfl
      exact e_bd (v := [.tup (ps.map encP)]) rfl (e_l this)
    · rintro ys ⟨p, k⟩ zs ρ e ⟨x, y, rfl, hn⟩
      obtain ⟨hk, hps⟩ := zipIdx_at e
      have hix : dIx (encP p) (.int 0) = some (.str p.name) := rfl
      refine ⟨(), [.dat (.tup (ps.map encP)), .dat (.str n), .dat (.int k), .dat (encP p)], rfl, ?_⟩
      refine_lift' st [hix]
      · intro h
        have h := of_decide_eq_true h
        refine_lift' st
        refine rq_rt ?_
        have : placeM ps n = some k := by
          unfold placeM
          rw [hps, List.findIdx?_append]
          have h1 : (ys.map (·.1)).findIdx? (fun p => decide (p.name = n)) = none := by
            rw [List.findIdx?_eq_none_iff]
            intro q hq
            obtain ⟨r, hr, rfl⟩ := List.mem_map.mp hq
            exact decide_eq_false (hn r hr)
          rw [h1]
          simp [List.findIdx?_cons, h, hk]
        rw [this]
        rfl
      · intro h
        have h := of_decide_eq_false h
        refine_lift' st
        refine ⟨.dat (.int k), .dat (encP p), rfl, fun q hq => ?_⟩
        rcases List.mem_append.mp hq with hq | hq
        · exact hn q hq
        · rw [List.mem_singleton] at hq
          subst hq; exact h
    · rintro ρ ⟨x, y, rfl, hn⟩
      refine_lift' st
      refine rq_rt ?_
      have : placeM ps n = none := by
        unfold placeM
        rw [List.findIdx?_eq_none_iff]
        intro q hq
        have : q ∈ ps.zipIdx.map (·.1) := by rw [List.zipIdx_map_fst]; exact hq
        obtain ⟨r, hr, rfl⟩ := List.mem_map.mp this
        exact decide_eq_false (hn r hr)
      rw [this]
      rfl
  · intro h; cases h
end
end My
set_option exponentiation.threshold 20000
namespace My
open PySem PySem.Spec PyProof.Rows L2 DL
structure Gd (n : Nat) (d : D) : Prop where
  p : DL.plain d = true
  l : (toP d).canLay0 = true
  dp : (toP d).depth ≤ n
  e : PyData.eqv (toP d) (toP d) = true
theorem gd_int (n : Nat) (i : Int) : Gd n (.int i) := ⟨rfl, by simp [toP, PyData.canLay0], by simp [toP, PyData.depth], by simp [toP, PyData.eqv]⟩
theorem gd_str (n : Nat) {x : Str} (h : PyData.strOk x = true) : Gd n (.str x) := ⟨rfl, by simp [toP, PyData.canLay0, h], by simp [toP, PyData.depth], by simp [toP, PyData.eqv]⟩
theorem gds {n : Nat} : ∀ {ds : List D}, (∀ d ∈ ds, Gd n d) → plains ds = true ∧ PyData.canLayAll0 (toPs ds) = true ∧ PyData.depthAll (toPs ds) ≤ n ∧ PyData.eqvAll (toPs ds) (toPs ds) = true
  | [], _ => by simp [plains, toPs, PyData.canLayAll0, PyData.depthAll, PyData.eqvAll]
  | d :: ds, h => by
    obtain ⟨a, b, c, e⟩ := gds fun x hx => h x (List.mem_cons_of_mem _ hx)
    have g := h d List.mem_cons_self
    refine ⟨by simp only [plains, g.p, a, Bool.and_self], by simp only [toPs, PyData.canLayAll0, g.l, b, Bool.and_self], ?_, by simp only [toPs, PyData.eqvAll, g.e, e, Bool.and_self]⟩
    simp only [toPs, PyData.depthAll]
    exact Nat.max_le.mpr ⟨g.dp, c⟩
theorem gd_tup {n : Nat} {ds : List D} (h : ∀ d ∈ ds, Gd n d) : Gd (n + 1) (.tup ds) := by
  obtain ⟨a, b, c, e⟩ := gds h
  exact ⟨by simpa [DL.plain] using a, by simpa [toP, PyData.canLay0] using b, by simp only [toP, PyData.depth]; omega, by simpa [toP, PyData.eqv] using e⟩
theorem gd_lst {n : Nat} {ds : List D} (h : ∀ d ∈ ds, Gd n d) : Gd (n + 1) (.lst ds) := by
  obtain ⟨a, b, c, e⟩ := gds h
  exact ⟨by simpa [DL.plain] using a, by simpa [toP, PyData.canLay0] using b, by simp only [toP, PyData.depth]; omega, by simpa [toP, PyData.eqv] using e⟩
theorem gd_w (w : Wt) : Gd 1 (encW w) := gd_tup (n := 0) fun d hd => by
  simp at hd
  rcases hd with rfl | rfl
  · exact gd_int _ _
  · exact gd_int _ _
theorem gd_tm {t : Tm} (h : PyData.strOk t.name = true) : Gd 2 (encTm t) := gd_tup (n := 1) fun d hd => by
  simp at hd
  rcases hd with rfl | rfl | rfl
  · exact gd_str _ h
  · exact gd_int _ _
  · exact gd_w _
theorem gd_sort {ts : List Tm} (h : ∀ t ∈ ts, PyData.strOk t.name = true) : Gd 3 (.tup (sortT ts)) := gd_tup fun d hd => by
  unfold sortT at hd
  obtain ⟨t, ht, rfl⟩ := List.mem_map.mp (List.mem_mergeSort.mp hd)
  exact gd_tm (h t ht)
theorem takenM_name {L : Int} : ∀ (ps : List Ps) (l : Lf), (∀ p ∈ ps, PyData.strOk p.name = true) → ∀ t ∈ formM L ps l, PyData.strOk t.name = true
  | [], l, _, t, ht => by
    simp [formM] at ht
    subst ht
    show PyData.strOk "old" = true
    decide +kernel
  | p :: r, l, h, t, ht => by
    rw [formM] at ht
    rcases List.mem_append.mp ht with ht | ht
    · cases e : (takenM p L l).1 with
      | none => rw [e] at ht; cases ht
      | some x =>
        rw [e] at ht
        simp at ht
        subst ht
        exact h p List.mem_cons_self
    · cases e : (takenM p L l).2 with
      | none => rw [e] at ht; cases ht
      | some l' =>
        rw [e] at ht
        exact takenM_name r l' (fun q hq => h q (List.mem_cons_of_mem _ hq)) t ht
theorem gd_form {L t : Int} {ps : List Ps} (h : PssOk L ps) : Gd 3 (formD L ps t) := gd_sort (takenM_name _ _ fun p hp => (h.sane p (List.mem_reverse.mp hp)).name)
end My
set_option exponentiation.threshold 20000
namespace My
open PySem PySem.Spec PyProof.Rows L2 DL
def ofQ (q : Rat) : Wt := (q.num, (q.den : Int))
def toQ (w : Wt) : Rat := (w.1 : Rat) / (w.2 : Rat)
theorem lowM_ofQ {a b : Int} (h : 0 < b) : lowM a b = ofQ ((a : Rat) / (b : Rat)) := by
  unfold ofQ lowM
  rw [← Rat.divInt_eq_div, Rat.num_divInt, Rat.den_divInt]
  have e : gI a b = (Int.gcd b a : Nat) := by unfold gI; rw [Int.gcd, Nat.gcd_comm]
  rw [Int.sign_eq_one_of_pos h, Int.one_mul, if_neg (by omega), e]
  congr 1
  have : b = (b.natAbs : Int) := by omega
  rw [this]
  simp
theorem toQ_ofQ (q : Rat) : toQ (ofQ q) = q := by
  unfold toQ ofQ
  simp only
  rw [← Rat.divInt_eq_div]
  exact Rat.num_divInt_den q
theorem ofQ_inj {p q : Rat} (h : ofQ p = ofQ q) : p = q := by rw [← toQ_ofQ p, h, toQ_ofQ]
theorem ofQ_pos (q : Rat) : 0 < (ofQ q).2 := by
  have := q.den_pos
  unfold ofQ; simp only; omega
theorem timesM_ofQ (p q : Rat) : timesM (ofQ p) (ofQ q) = ofQ (p * q) := by
  unfold timesM
  rw [lowM_ofQ (Int.mul_pos (ofQ_pos p) (ofQ_pos q))]
  congr 1
  have a := toQ_ofQ p
  have b := toQ_ofQ q
  have hp : ((ofQ p).2 : Rat) ≠ 0 := by have := ofQ_pos p; exact_mod_cast Int.ne_of_gt this
  have hq : ((ofQ q).2 : Rat) ≠ 0 := by have := ofQ_pos q; exact_mod_cast Int.ne_of_gt this
  unfold toQ at a b
  rw [Rat.intCast_mul, Rat.intCast_mul]
  grind
theorem ofQ_one : ofQ 1 = (1, 1) := by decide +kernel
theorem ofQ_zero : ofQ 0 = (0, 1) := by decide +kernel
theorem ofQ_num_pos {q : Rat} (h : 0 < q) : 0 < (ofQ q).1 := by
  have := (Rat.lt_iff 0 q).mp h
  unfold ofQ
  simpa using this
structure TQ where
  name : Str
  at' : Int
  q : Rat
def TQ.tm (x : TQ) : Tm := ⟨x.name, x.at', ofQ x.q⟩
def TQ.sc (q : Rat) (x : TQ) : TQ := ⟨x.name, x.at', q * x.q⟩
/-- hand with its share; what is left to the curve ahead: where, and its share -/
def wrQ (p : Ps) (L t : Int) : Option (Int × Rat) × Option (Int × Rat) :=
  if p.first ≤ t ∧ t < endM p L then
    match lastT t p.touches none with
    | none => (none, some (if p.mode = "write" then p.first else t, 1))
    | some h => if p.mode = "write" ∨ p.mode = "latch" then (some (h, 1), none) else
      if p.glide < t - h then (none, some (t, 1)) else
      (some (h, ((p.glide + 1 - (t - h) : Int) : Rat) / ((p.glide + 1 : Int) : Rat)), if p.mode = "trim" then some (t, 1) else if t = h then none else some (t, ((t - h : Int) : Rat) / ((p.glide + 1 : Int) : Rat)))
  else (none, some (t, 1))
def atQ (L : Int) : List Ps → Int → List TQ
  | [], t => [⟨"old", t, 1⟩]
  | p :: r, t => ((wrQ p L t).1.map fun x => TQ.mk p.name x.1 x.2).toList ++ match (wrQ p L t).2 with
    | none => []
    | some y => (atQ L r y.1).map (TQ.sc y.2)
theorem takenM_q (p : Ps) (L t : Int) (q : Rat) (hg : 0 ≤ p.glide) :
    takenM p L (t, ofQ q) = ((wrQ p L t).1.map fun x => (x.1, ofQ (q * x.2)), (wrQ p L t).2.map fun x => (x.1, ofQ (q * x.2))) := by
  have t1 : timesM (ofQ q) (1, 1) = ofQ (q * 1) := by rw [← ofQ_one, timesM_ofQ]
  have one : q * 1 = q := by grind
  rw [one] at t1
  have hpos : 0 < p.glide + 1 := by omega
  unfold takenM writtenM wrQ
  simp only
  by_cases h1 : p.first ≤ t ∧ t < endM p L
  · rw [if_pos h1, if_pos h1]
    cases e : lastT t p.touches none with
    | none =>
      simp only
      by_cases hw : p.mode = "write"
      · rw [if_pos hw, if_pos hw]
        simp only [Option.map_none, Option.map_some, t1, one]
        rw [if_neg (by decide)]
      · rw [if_neg hw, if_neg hw]
        simp only [Option.map_none, Option.map_some, one]
    | some h =>
      have hle := lastT_le t p.touches none (fun _ q => by cases q) h e
      simp only
      by_cases hw : p.mode = "write" ∨ p.mode = "latch"
      · rw [if_pos hw, if_pos hw]
        simp only [Option.map_none, Option.map_some, t1, one, if_true]
      · rw [if_neg hw, if_neg hw]
        by_cases hgl : p.glide < t - h
        · rw [if_pos hgl, if_pos hgl]
          simp only [Option.map_none, Option.map_some, one]
        · rw [if_neg hgl, if_neg hgl]
          simp only [Option.map_some]
          rw [lowM_ofQ (a := p.glide + 1 - (t - h)) hpos, timesM_ofQ]
          congr 1
          by_cases htr : p.mode = "trim"
          · rw [if_pos htr, if_pos htr, if_neg (by decide), t1]
            simp only [Option.map_some, one]
          · rw [if_neg htr, if_neg htr, lowM_ofQ (a := t - h) hpos]
            have hne : ((p.glide + 1 : Int) : Rat) ≠ 0 := by exact_mod_cast Int.ne_of_gt hpos
            by_cases hth : t = h
            · subst hth
              rw [if_pos rfl, if_pos ?_]
              · rfl
              · rw [← ofQ_zero]
                congr 1
                rw [Int.sub_self]
                grind
            · rw [if_neg hth, if_neg ?_]
              · rw [timesM_ofQ]; rfl
              · intro z
                rw [← ofQ_zero] at z
                have z := ofQ_inj z
                have : ((t - h : Int) : Rat) ≠ 0 := by exact_mod_cast (by omega : t - h ≠ 0)
                grind
  · rw [if_neg h1, if_neg h1]
    simp only [Option.map_none, Option.map_some, one]
theorem sc_sc (p q : Rat) (x : TQ) : (x.sc p).sc q = x.sc (q * p) := by unfold TQ.sc; simp only [Rat.mul_assoc]
theorem formM_q (L : Int) : ∀ (ps : List Ps) (t : Int) (q : Rat), (∀ p ∈ ps, 0 ≤ p.glide) → formM L ps (t, ofQ q) = ((atQ L ps t).map (TQ.sc q)).map TQ.tm
  | [], t, q, _ => by
    have one : q * 1 = q := by grind
    simp [formM, atQ, TQ.sc, TQ.tm, one]
  | p :: r, t, q, h => by
    rw [formM, takenM_q p L t q (h p List.mem_cons_self), atQ, List.map_append, List.map_append]
    congr 1
    · cases (wrQ p L t).1 <;> simp [TQ.sc, TQ.tm]
    · cases (wrQ p L t).2 with
      | none => rfl
      | some y =>
        simp only [Option.map_some]
        rw [formM_q L r y.1 (q * y.2) fun p hp => h p (List.mem_cons_of_mem _ hp)]
        simp only [List.map_map]
        congr 1
        funext x
        simp only [Function.comp, sc_sc]
theorem sc_one (x : TQ) : x.sc 1 = x := by
  obtain ⟨n, a, q⟩ := x
  unfold TQ.sc
  simp only [TQ.mk.injEq, true_and]
  grind
theorem map_sc_one (xs : List TQ) : xs.map (TQ.sc 1) = xs := by
  rw [show TQ.sc 1 = id from funext sc_one, List.map_id]
theorem formM_atQ (L : Int) (ps : List Ps) (t : Int) (h : ∀ p ∈ ps, 0 ≤ p.glide) : formM L ps (t, (1, 1)) = (atQ L ps t).map TQ.tm := by
  rw [← ofQ_one, formM_q L ps t 1 h, map_sc_one]
end My
set_option exponentiation.threshold 20000
namespace My
open PySem PySem.Spec PyProof.Rows L2 DL
structure BodyOk (L : Int) (p : Ps) : Prop where
  mode : modes.contains p.mode = true
  tail : tails.contains p.tail = true
  rng : 0 ≤ p.first ∧ p.first + 1 ≤ p.last ∧ p.last ≤ L
  tl : p.touches.length ≤ 6
  tok : touchesOk p.last p.touches p.first = true
  gl : 0 ≤ p.glide ∧ p.glide ≤ 100
theorem modes_strOk {x : Str} (h : modes.contains x = true) : PyData.strOk x = true := by
  have h := List.contains_iff_mem.mp h
  simp only [modes, List.mem_cons, List.not_mem_nil, or_false] at h
  rcases h with rfl | rfl | rfl | rfl <;> decide +kernel
theorem tails_strOk {x : Str} (h : tails.contains x = true) : PyData.strOk x = true := by
  have h := List.contains_iff_mem.mp h
  simp only [tails, List.mem_cons, List.not_mem_nil, or_false] at h
  rcases h with rfl | rfl <;> decide +kernel
theorem passOk_of {L : Int} {p : Ps} (h : BodyOk L p) (a : nameOk p.name = true) (b : p.name ≠ "old") : passOk L p = true := by
  have r := h.rng
  unfold passOk
  rw [a, h.mode, h.tail, h.tok, decide_eq_false b, decide_eq_true r.1, decide_eq_true (show p.first ≤ L by omega), decide_eq_true r.2.1, decide_eq_true r.2.2, decide_eq_true h.tl, decide_eq_true h.gl.1, decide_eq_true h.gl.2]
  rfl
theorem sane_of {L : Int} {p : Ps} (h : BodyOk L p) (a : PyData.strOk p.name = true) (b : p.name.length ≤ 1000) : p.sane := ⟨a, modes_strOk h.mode, tails_strOk h.tail, len_le b⟩
theorem b_of_pass {L : Int} {p : Ps} (h : passOk L p = true) : BodyOk L p ∧ nameOk p.name = true ∧ p.name ≠ "old" := by
  unfold passOk at h
  simp only [Bool.and_eq_true, decide_eq_true_eq, Bool.not_eq_true', decide_eq_false_iff_not] at h
  obtain ⟨⟨⟨⟨⟨⟨⟨⟨a, b⟩, c⟩, d⟩, e⟩, f⟩, g⟩, i⟩, j⟩ := h
  exact ⟨⟨c, d, ⟨e.1.1, e.2.1, e.2.2⟩, f, g, i, j⟩, a, b⟩
theorem it_rng1 {ρ ρ1 : Cs} {l : Mo (List D)} {n : Nat} (h : l ρ = some ([.int n], ρ1)) (hn : n ≤ 1000000) : iFn rng1? l ρ = some ((List.range n).map fun k : Nat => D.int (0 + (k : Int)), ρ1) := by
  refine e_bd h ?_
  show mL (rng1? [.int n]) ρ1 = _
  rw [rng_ok hn]
  rfl
section
variable (C : Addr)
theorem v_law_pickI {m : Nat} {u : Pur} (hu : PurOk (m + 1) u) (is : List Int) (h0 : 0 < is.length := by simp) (h1 : is.length ≤ 1000 := by simp) : ∃ (i : Int) (u' : Pur), F_law_pick C (encPu u) [.lst (is.map .int)] = some (.int i, encPu u') ∧ i ∈ is ∧ PurOk m u' := by
  obtain ⟨x, u', e, hx, hu'⟩ := v_law_pick C hu (ds := is.map .int) (by simpa using h0) (by simpa using h1)
  obtain ⟨i, hi, rfl⟩ := List.mem_map.mp hx
  exact ⟨i, u', e, hi, hu'⟩
theorem v_law_pickS {m : Nat} {u : Pur} (hu : PurOk (m + 1) u) (is : List Str) (h0 : 0 < is.length := by simp) (h1 : is.length ≤ 1000 := by simp) : ∃ (i : Str) (u' : Pur), F_law_pick C (encPu u) [.lst (is.map .str)] = some (.str i, encPu u') ∧ i ∈ is ∧ PurOk m u' := by
  obtain ⟨x, u', e, hx, hu'⟩ := v_law_pick C hu (ds := is.map .str) (by simpa using h0) (by simpa using h1)
  obtain ⟨i, hi, rfl⟩ := List.mem_map.mp hx
  exact ⟨i, u', e, hi, hu'⟩
theorem mul_s {i j : Int} (h : i.natAbs ≤ 2 ^ 200) (h' : j.natAbs ≤ 2 ^ 200) : dMul (.int i) (.int j) = some (.int (i * j)) := mul_ok (Nat.le_trans h (Nat.pow_le_pow_right (by omega) (by omega))) (Nat.le_trans h' (Nat.pow_le_pow_right (by omega) (by omega)))
theorem v_law_touches {m n : Nat} {u : Pur} {first last wide : Int} (hu : PurOk (m + 4 * n) u) (hf : 0 ≤ first) (hf1 : first ≤ 1000000000000) (hl : last ≤ 1000000000000) (hn : n ≤ 100) (hw : 0 ≤ wide) (hw' : wide ≤ 1000000000000) :
    ∃ (ts : List (Int × Int)) (u' : Pur), F_law_touches C (encPu u) [.int first, .int last, .int n, .int wide] = some (.tup (ts.map encT), encPu u') ∧ touchesOk last ts first = true ∧ ts.length ≤ n ∧ PurOk m u' := by
  have : ∃ r e, runO 5 5 (B_law_touches C) (encPu u) [.int first, .int last, .int n, .int wide] = some (r, e) ∧ ∃ (ts : List (Int × Int)) (u' : Pur), r = .tup (ts.map encT) ∧ e = encPu u' ∧ touchesOk last ts first = true ∧ ts.length ≤ n ∧ PurOk m u' := by
    refine retOE ?_
    unfold B_law_touches
    refine_lift' st
    refine st_for (α := Nat) (enc := fun k : Nat => D.int (0 + (k : Int))) (xs := List.range n) (ρ1 := [.own true (encPu u), .dat (.int first), .dat (.int last), .dat (.int n), .dat (.int wide), .own false (.lst []), .dat (.int first), .no, .no, .no]) ?_
      (fun ys ρ => ∃ (u' : Pur) (ts : List (Int × Int)) (a : Int) (x y z : Cell), ρ = [.own true (encPu u'), .dat (.int first), .dat (.int last), .dat (.int n), .dat (.int wide), .own false (.lst (ts.map encT)), .dat (.int a), x, y, z] ∧ PurOk (m + 4 * (n - ys.length)) u' ∧ ts.length ≤ ys.length ∧ 0 ≤ a ∧ a ≤ 1000000000001 ∧ ∀ zs, touchesOk last (ts ++ zs) first = touchesOk last zs a)
      ⟨u, [], first, _, _, _, rfl, by simpa using hu, Nat.le_refl _, hf, by omega, fun _ => rfl⟩ ?_ ?_
    · refine it_rng1 (n := n) (ρ1 := [.own true (encPu u), .dat (.int first), .dat (.int last), .dat (.int n), .dat (.int wide), .own false (.lst []), .dat (.int first), .no, .no, .no]) ?_ (by omega)
      refine_lift' eva
    · rintro ys k zs ρ e ⟨u0, ts, a, x, y, z, rfl, hu0, htl, ha0, ha1, q⟩
      have hyn : ys.length < n := by
        have := congrArg List.length e
        rw [List.length_range, List.length_append, List.length_cons] at this
        omega
      have hu0 : PurOk (m + 4 * (n - (ys.length + 1)) + 1 + 1 + 1 + 1) u0 := hu0.mono (by omega)
      obtain ⟨i1, u1, e1, i10, i11, hu1⟩ := v_law_draw C hu0 (n := 4) (by decide) (by decide)
      obtain ⟨w1, u2, e2, hw1, hu2⟩ := v_law_pickI C hu1 [1, 1, wide]
      obtain ⟨i3, u3, e3, i30, i31, hu3⟩ := v_law_draw C hu2 (n := 3) (by decide) (by decide)
      obtain ⟨w4, u4, e4, hw4, hu4⟩ := v_law_pickI C hu3 [1, 1, wide]
      have hw1 : 0 ≤ w1 ∧ w1 ≤ 1000000000000 := by simp at hw1; omega
      have hw4 : 0 ≤ w4 ∧ w4 ≤ 1000000000000 := by simp at hw4; omega
      have m1 : dMul (.int i1) (.int w1) = some (.int (i1 * w1)) := mul_s (Nat.le_trans (by omega : i1.natAbs ≤ 2 ^ 60) (by decide)) (Nat.le_trans (by omega : w1.natAbs ≤ 2 ^ 60) (by decide))
      have m2 : dMul (.int i3) (.int w4) = some (.int (i3 * w4)) := mul_s (Nat.le_trans (by omega : i3.natAbs ≤ 2 ^ 60) (by decide)) (Nat.le_trans (by omega : w4.natAbs ≤ 2 ^ 60) (by decide))
      have p1 : 0 ≤ i1 * w1 := Int.mul_nonneg i10 hw1.1
      have p2 : 0 ≤ i3 * w4 := Int.mul_nonneg i30 hw4.1
      have hl1 : (ts.map encT).length < sizeLine := by rw [List.length_map]; exact Nat.lt_of_lt_of_le (by omega : ts.length < 200) (len_le (by omega))
      refine ⟨(), [.own true (encPu u0), .dat (.int first), .dat (.int last), .dat (.int n), .dat (.int wide), .own false (.lst (ts.map encT)), .dat (.int a), .dat (.int (0 + (k : Int))), y, z], rfl, ?_⟩
      refine st_one ?_
      refine_lift' st
      refine_lift' st [e1, e2, m1]
      refine_lift' st
      refine_lift' st [e3, e4, m2]
      refine_lift' st
      · intro h
        have h := of_decide_eq_true h
        refine_lift' st
        refine_lift' st [hl1]
        refine_lift' st
        refine ⟨u4, ts ++ [(a + i1 * w1, a + i1 * w1 + 1 + i3 * w4)], a + i1 * w1 + 1 + i3 * w4 + 1, .dat (.int (0 + (k : Int))), .dat (.int (a + i1 * w1)), .dat (.int (a + i1 * w1 + 1 + i3 * w4)), by rw [List.map_append]; rfl, ?_, ?_, by omega, by omega, fun zs' => ?_⟩
        · rw [List.length_append]; exact hu4
        · rw [List.length_append, List.length_append, List.length_singleton, List.length_singleton]; omega
        · rw [List.append_assoc, q]
          show touchesOk last ((a + i1 * w1, a + i1 * w1 + 1 + i3 * w4) :: zs') a = _
          rw [touchesOk]
          simp only
          rw [decide_eq_true (by omega), decide_eq_true (by omega), decide_eq_true (by omega), decide_eq_true (by omega)]
          rfl
      · intro h
        refine_lift' st
        refine ⟨u4, ts, a, .dat (.int (0 + (k : Int))), .dat (.int (a + i1 * w1)), .dat (.int (a + i1 * w1 + 1 + i3 * w4)), rfl, ?_, ?_, ha0, ha1, q⟩
        · rw [List.length_append]; exact hu4
        · rw [List.length_append]; omega
    · rintro ρ ⟨u', ts, a, x, y, z, rfl, hu', htl, _, _, q⟩
      refine_lift' st
      rw [List.length_range] at htl hu'
      refine ro_rt ⟨ts, u', rfl, rfl, ?_, htl, hu'.mono (by omega)⟩
      have := q []
      rw [List.append_nil] at this
      rw [this]
      rfl
  obtain ⟨r, e, h, ts, u', rfl, rfl, h2⟩ := this
  exact ⟨ts, u', h, h2⟩
end
end My
set_option exponentiation.threshold 20000
namespace My
open PySem PySem.Spec PyProof.Rows L2 DL
theorem max_eq (a b : Int) : dMax [.int a, .int b] = some (.int (if b > a then b else a)) := rfl
theorem min_eq (a b : Int) : dMin [.int a, .int b] = some (.int (if b < a then b else a)) := rfl
theorem div_s {i j : Int} (h : 0 < j) (h' : j ≤ 1000000000000) : dDiv (.int i) (.int j) = some (.int (i / j)) := div_ok h (Nat.le_trans (by omega : j.natAbs ≤ 2 ^ 60) (Nat.pow_le_pow_right (by decide) (by decide)))
theorem drawn_modes {x : Str} (h : x ∈ (["write", "latch", "touch", "touch", "trim"] : List Str)) : modes.contains x = true := by
  simp only [List.mem_cons, List.not_mem_nil, or_false] at h
  rcases h with rfl | rfl | rfl | rfl | rfl <;> decide +kernel
theorem drawn_tails {x : Str} (h : x ∈ (["stop", "stop", "on"] : List Str)) : tails.contains x = true := by
  simp only [List.mem_cons, List.not_mem_nil, or_false] at h
  rcases h with rfl | rfl | rfl <;> decide +kernel
section
variable (C : Addr)
set_option maxHeartbeats 4000000 in
theorem v_law_pass {m : Nat} {u : Pur} {L wide : Int} (x : Str) (hu : PurOk (m + 20) u) (hL : 1 ≤ L) (hL1 : L ≤ 1000000000000) (hw : 1 ≤ wide) (hw' : wide ≤ 1000000000000) :
    ∃ (p : Ps) (u' : Pur), F_law_pass C (encPu u) [.str x, .int L, .int wide] = some (encP p, encPu u') ∧ p.name = x ∧ BodyOk L p ∧ p.touches.length ≤ 3 ∧ p.glide ≤ 5 ∧ PurOk m u' := by
  have : ∃ r e, runO 4 6 (B_law_pass C) (encPu u) [.str x, .int L, .int wide] = some (r, e) ∧ ∃ (p : Ps) (u' : Pur), r = encP p ∧ e = encPu u' ∧ p.name = x ∧ BodyOk L p ∧ p.touches.length ≤ 3 ∧ p.glide ≤ 5 ∧ PurOk m u' := by
    refine retOE ?_
    unfold B_law_pass
    have hu : PurOk (m + 12 + 1 + 1 + 1 + 1 + 1 + 1 + 1 + 1) u := hu
    -- first
    have m4 : ∃ (f : Int) (u2 : Pur), mIf (mTst (mOp dGt (mCallO (F_law_draw C) 0 (aCons (mC (.int 4)) aNil)) (mC (.int 0)))) (mOp dMul (mCallO (F_law_draw C) 0 (aCons (mFn dMax (aCons (mC (.int 1)) (aCons (mOp dDiv (mVar 2) (mVar 3)) aNil))) aNil)) (mVar 3)) (mC (.int 0)) (.own true (encPu u) :: cells [.str x, .int L, .int wide] 6) = some (.int f, .own true (encPu u2) :: cells [.str x, .int L, .int wide] 6) ∧ 0 ≤ f ∧ PurOk (m + 12 + 1 + 1 + 1 + 1 + 1 + 1) u2 := by
      obtain ⟨i1, u1, e1, i10, i11, hu1⟩ := v_law_draw C hu (n := 4) (by decide) (by decide)
      by_cases hi : 0 < i1
      · have hd : dGt (.int i1) (.int 0) = some (.bl true) := by show some (D.bl (decide _)) = _; rw [decide_eq_true hi]
        have d1 := div_s (i := L) (j := wide) (by omega) (by omega)
        have mx := max_eq 1 (L / wide)
        have hq : L / wide ≤ L := Int.ediv_le_self _ (by omega)
        generalize hn : (if L / wide > 1 then L / wide else 1) = n at mx
        have hn0 : 0 < n ∧ n ≤ 1000000000000 := by split at hn <;> omega
        obtain ⟨i2, u2, e2, i20, i21, hu2⟩ := v_law_draw C hu1 (n := n) (by omega) (by omega)
        have ml := mul_s (i := i2) (j := wide) (Nat.le_trans (by omega : i2.natAbs ≤ 2 ^ 60) (by decide)) (Nat.le_trans (by omega : wide.natAbs ≤ 2 ^ 60) (by decide))
        refine ⟨i2 * wide, u2, ?_, Int.mul_nonneg i20 (by omega), hu2⟩
        refine e_if1 (ρ1 := .own true (encPu u1) :: cells [.str x, .int L, .int wide] 6) ?_ ?_
        · refine_lift' eva [e1, hd]
        · refine_lift' eva [d1, mx, e2, ml]
      · have hd : dGt (.int i1) (.int 0) = some (.bl false) := by show some (D.bl (decide _)) = _; rw [decide_eq_false hi]
        refine ⟨0, u1, ?_, by omega, hu1.mono (by omega)⟩
        refine e_if0 (ρ1 := .own true (encPu u1) :: cells [.str x, .int L, .int wide] 6) ?_ ?_
        · refine_lift' eva [e1, hd]
        · refine_lift' eva
    obtain ⟨f, u2, hm4, hf, hu2⟩ := m4
    refine st_set hm4 ?_
    -- at most the last tick
    have mn := min_eq f (L - 1)
    generalize hf2 : (if L - 1 < f then L - 1 else f) = f2 at mn
    have hf2 : 0 ≤ f2 ∧ f2 ≤ L - 1 := by split at hf2 <;> omega
    refine_lift' st [mn]
    -- last
    have d1 := div_s (i := L - f2) (j := wide) (by omega) (by omega)
    have mx := max_eq 1 ((L - f2) / wide)
    have hq : (L - f2) / wide ≤ L - f2 := Int.ediv_le_self _ (by omega)
    generalize hn : (if (L - f2) / wide > 1 then (L - f2) / wide else 1) = n at mx
    have hn0 : 0 < n ∧ n ≤ 1000000000000 := by split at hn <;> omega
    obtain ⟨i3, u3, e3, i30, i31, hu3⟩ := v_law_draw C hu2 (n := n) (by omega) (by omega)
    have ml := mul_s (i := i3) (j := wide) (Nat.le_trans (by omega : i3.natAbs ≤ 2 ^ 60) (by decide)) (Nat.le_trans (by omega : wide.natAbs ≤ 2 ^ 60) (by decide))
    have p3 : 0 ≤ i3 * wide := Int.mul_nonneg i30 (by omega)
    refine_lift' st [d1, mx, e3, ml]
    have mn2 := min_eq (f2 + 1 + i3 * wide) L
    generalize hl1 : (if L < f2 + 1 + i3 * wide then L else f2 + 1 + i3 * wide) = l1 at mn2
    have hl1 : f2 + 1 ≤ l1 ∧ l1 ≤ L := by split at hl1 <;> omega
    obtain ⟨l2, u4, e4, hl2, hu4⟩ := v_law_pickI C hu3 [l1, l1, L]
    have hl2 : f2 + 1 ≤ l2 ∧ l2 ≤ L := by simp at hl2; omega
    refine_lift' st [mn2, e4]
    -- touches
    obtain ⟨i5, u5, e5, i50, i51, hu5⟩ := v_law_draw C hu4 (n := 4) (by decide) (by decide)
    obtain ⟨n5, rfl⟩ : ∃ n : Nat, i5 = n := ⟨i5.toNat, by omega⟩
    obtain ⟨ts, u6, e6, ht, htl, hu6⟩ := v_law_touches C (m := m + 1 + 1 + 1) (n := n5) (first := f2) (last := l2) (wide := wide) (hu5.mono (by omega)) hf2.1 (by omega) (by omega) (by omega) (by omega) hw'
    refine_lift' st [e5, e6]
    obtain ⟨md, u7, e7, hmd, hu7⟩ := v_law_pickS C hu6 ["write", "latch", "touch", "touch", "trim"]
    refine_lift' st [e7]
    obtain ⟨gl, u8, e8, hgl, hu8⟩ := v_law_pickI C hu7 [0, 1, 2, 3, 5]
    obtain ⟨tl, u9, e9, htl9, hu9⟩ := v_law_pickS C hu8 ["stop", "stop", "on"]
    have hgl : 0 ≤ gl ∧ gl ≤ 5 := by simp at hgl; omega
    refine_lift' st [e8, e9]
    refine_lift' st
    exact ro_rt ⟨⟨x, md, f2, l2, ts, gl, tl⟩, u9, rfl, rfl, rfl, ⟨drawn_modes hmd, drawn_tails htl9, ⟨hf2.1, hl2.1, hl2.2⟩, by simp only; omega, ht, by simp only; omega⟩, by simp only; omega, by simp only; omega, hu9⟩
  obtain ⟨r, e, h, p, u', rfl, rfl, h2⟩ := this
  exact ⟨p, u', h, h2⟩
end
end My
set_option exponentiation.threshold 20000
namespace My
open PySem PySem.Spec PyProof.Rows L2 DL
theorem cut_drop {α : Type} (xs : List α) (n : Nat) : DL.cutD xs (some (n : Int)) none = xs.drop n := by
  unfold DL.cutD
  rw [HT.sIx_none, HT.sIx_nat]
  by_cases h : n ≤ xs.length
  · rw [Nat.min_eq_left h, List.take_of_length_le (by rw [List.length_drop]; omega)]
  · rw [Nat.min_eq_right (by omega), List.drop_length, List.drop_of_length_le (by omega)]
    simp
theorem cut_take {α : Type} (xs : List α) (n : Nat) : DL.cutD xs none (some (n : Int)) = xs.take n := by
  unfold DL.cutD
  rw [HT.sIx_none, HT.sIx_nat, List.drop_zero, Nat.sub_zero]
  by_cases h : n ≤ xs.length
  · rw [Nat.min_eq_left h]
  · rw [Nat.min_eq_right (by omega), List.take_length, List.take_of_length_le (by omega)]
theorem sl_drop (ds : List D) (n : Nat) : dSl (.lst ds) (some (n : Int)) none = some (.lst (ds.drop n)) := by
  show some (D.lst (DL.cutD ds _ _)) = _
  rw [cut_drop]
theorem sl_take (ds : List D) (n : Nat) : dSl (.lst ds) none (some (n : Int)) = some (.lst (ds.take n)) := by
  show some (D.lst (DL.cutD ds _ _)) = _
  rw [cut_take]
theorem add_lst {a b : List D} (h : a.length + b.length ≤ 1000) : dAdd (.lst a) (.lst b) = some (.lst (a ++ b)) := if_pos (len_le h)
theorem cat_lst {a b : List D} (h : a.length + b.length ≤ 1000) : dCat (.lst a) (.lst b) = some (.lst (a ++ b)) := if_pos (len_le h)
theorem ix_lst {ds : List D} {k : Nat} (h : k < ds.length) : dIx (.lst ds) (.int (0 + (k : Int))) = some ds[k] := by
  rw [Int.zero_add]
  exact atI_nat (by rw [List.getElem?_eq_getElem h])
theorem pow_ok {j : Nat} (h : j ≤ 100) : dPow (.int 10) (.int j) = some (.int (10 ^ j)) := by
  have : ((10 : Int) ^ (j : Int).toNat) = 10 ^ j := by rw [Int.toNat_natCast]
  rw [← this]
  exact if_pos (e := none) ⟨by omega, by omega, by decide⟩
theorem pow6 : dPow (.int 10) (.int 6) = some (.int 1000000) := pow_ok (j := 6) (by decide)
theorem pow12 : dPow (.int 10) (.int 12) = some (.int 1000000000000) := pow_ok (j := 12) (by decide)
def rowNames : List Str := ["a", "b", "olds", "z9", "write", "c", "on", "pass"]
def rot {α : Type} (xs : List α) (n : Nat) : List α := xs.drop n ++ xs.take n
theorem rot_len {α : Type} (xs : List α) (n : Nat) : (rot xs n).length = xs.length := by
  unfold rot
  rw [List.length_append, List.length_drop, List.length_take]
  omega
theorem rot_map {α β : Type} (f : α → β) (xs : List α) (n : Nat) : rot (xs.map f) n = (rot xs n).map f := by
  unfold rot
  rw [List.map_append, List.map_drop, List.map_take]
theorem rot_perm {α : Type} (xs : List α) (n : Nat) : (rot xs n).Perm xs := by
  unfold rot
  refine List.perm_append_comm.trans ?_
  rw [List.take_append_drop]
/-- passes of a row: their names are the first of some -/
structure RowOk (L : Int) (ns : List Str) (ps : List Ps) : Prop where
  names : ps.map Ps.name = ns.take ps.length
  body : ∀ p ∈ ps, BodyOk L p
structure NmsOk (ns : List Str) : Prop where
  nd : ns.Nodup
  ok : ∀ x ∈ ns, nameOk x = true ∧ x ≠ "old" ∧ PyData.strOk x = true ∧ x.length ≤ 1000
theorem NmsOk.perm {ns ms : List Str} (h : NmsOk ns) (p : ms.Perm ns) : NmsOk ms := ⟨p.nodup_iff.mpr h.nd, fun x hx => h.ok x (p.mem_iff.mp hx)⟩
theorem rowNames_ok : NmsOk rowNames := ⟨by decide +kernel, by decide +kernel⟩
theorem RowOk.pss {L : Int} {ns : List Str} {ps : List Ps} (h : RowOk L ns ps) (hn : NmsOk ns) (hl : ps.length ≤ 8) : PssOk L ps := by
  have hm : ∀ p ∈ ps, p.name ∈ ns := fun p hp => List.mem_of_mem_take (by rw [← h.names]; exact List.mem_map.mpr ⟨p, hp, rfl⟩)
  refine ⟨fun p hp => ?_, fun p hp => ?_, ?_, hl⟩
  · obtain ⟨_, _, c, d⟩ := hn.ok _ (hm p hp)
    exact sane_of (h.body p hp) c d
  · obtain ⟨a, b, _, _⟩ := hn.ok _ (hm p hp)
    exact passOk_of (h.body p hp) a b
  · rw [h.names]
    exact hn.nd.sublist (List.take_sublist _ _)
theorem RowOk.snoc {L : Int} {ns : List Str} {ps : List Ps} {p : Ps} (h : RowOk L ns ps) (hb : BodyOk L p) (hl : ps.length < ns.length) (hn : p.name = ns[ps.length]) : RowOk L ns (ps ++ [p]) := by
  refine ⟨?_, fun q hq => ?_⟩
  · rw [List.map_append, h.names, List.length_append, List.length_singleton, List.take_add_one, List.getElem?_eq_getElem hl]
    simp [hn]
  · rcases List.mem_append.mp hq with hq | hq
    · exact h.body q hq
    · rw [List.mem_singleton.mp hq]; exact hb
section
variable (C : Addr)
set_option maxHeartbeats 2000000 in
theorem v_law_row {m many : Nat} {u : Pur} {L wide : Int} (hu : PurOk (m + 20 * many + 2) u) (hm : many ≤ 8) (hL : 1 ≤ L) (hL1 : L ≤ 1000000000000) (hw : 1 ≤ wide) (hw' : wide ≤ 1000000000000) :
    ∃ (ps : List Ps) (u' : Pur), F_law_row C (encPu u) [.int L, .int many, .int wide] = some (.tup (ps.map encP), encPu u') ∧ (∃ n, RowOk L (rot rowNames n) ps) ∧ ps.length ≤ many ∧ (∀ p ∈ ps, p.touches.length ≤ 3 ∧ p.glide ≤ 5) ∧ PurOk m u' := by
  have : ∃ r e, runO 4 3 (B_law_row C) (encPu u) [.int L, .int many, .int wide] = some (r, e) ∧ ∃ (ps : List Ps) (u' : Pur), r = .tup (ps.map encP) ∧ e = encPu u' ∧ (∃ n, RowOk L (rot rowNames n) ps) ∧ ps.length ≤ many ∧ (∀ p ∈ ps, p.touches.length ≤ 3 ∧ p.glide ≤ 5) ∧ PurOk m u' := by
    refine retOE ?_
    unfold B_law_row
    have hu : PurOk (m + 20 * many + 1 + 1) u := hu
    refine_lift' st
    obtain ⟨i1, u1, e1, i10, i11, hu1⟩ := v_law_draw C hu (n := 8) (by decide) (by decide)
    obtain ⟨n, rfl⟩ : ∃ n : Nat, i1 = n := ⟨i1.toNat, by omega⟩
    refine_lift' st [e1]
    have s1 := sl_drop (rowNames.map D.str) n
    have s2 := sl_take (rowNames.map D.str) n
    have s3 : dAdd (.lst ((rowNames.map D.str).drop n)) (.lst ((rowNames.map D.str).take n)) = some (.lst ((rot rowNames n).map D.str)) := by
      rw [add_lst, ← rot_map]
      · rfl
      · rw [List.length_drop, List.length_take, List.length_map]
        have : rowNames.length = 8 := rfl
        omega
    refine_lift' st [s1, s2, s3]
    obtain ⟨i2, u2, e2, i20, i21, hu2⟩ := v_law_draw C hu1 (n := (many : Int) + 1) (by omega) (by omega)
    obtain ⟨k, rfl⟩ : ∃ n : Nat, i2 = n := ⟨i2.toNat, by omega⟩
    have hk : k ≤ many := by omega
    obtain ⟨acc, ρ', hlc, u3, ps, x, rfl, rfl, hps, hrow, hsm, hu3⟩ := e_lc (α := Nat) (vs := [6]) (it := iFn rng1? (aCons (mCallO (F_law_draw C) 0 (aCons (mOp dAdd (mVar 2) (mC (.int 1))) aNil)) aNil)) (g := gNm 6) (t := mC true) (e := mCallO (F_law_pass C) 0 (aCons (mOp dIx (mVar 4) (mVar 6)) (aCons (mVar 1) (aCons (mVar 3) aNil)))) (enc := fun k : Nat => D.int (0 + (k : Int))) (xs := List.range k)
      (ρ := [.own true (encPu u1), .dat (.int L), .dat (.int many), .dat (.int wide), .dat (.lst ((rot rowNames n).map D.str)), .dat (.int n), .no]) (ρ1 := [.own true (encPu u2), .dat (.int L), .dat (.int many), .dat (.int wide), .dat (.lst ((rot rowNames n).map D.str)), .dat (.int n), .no])
      (by refine it_rng1 (n := k) ?_ (by omega); refine_lift' eva [e2]) rfl
      (fun ys acc ρ => ∃ (u3 : Pur) (ps : List Ps) (x : Cell), ρ = [.own true (encPu u3), .dat (.int L), .dat (.int many), .dat (.int wide), .dat (.lst ((rot rowNames n).map D.str)), .dat (.int n), x] ∧ acc = ps.map encP ∧ ps.length = ys.length ∧ RowOk L (rot rowNames n) ps ∧ (∀ p ∈ ps, p.touches.length ≤ 3 ∧ p.glide ≤ 5) ∧ PurOk (m + 20 * (many - ys.length)) u3)
      ⟨u2, [], .no, rfl, rfl, rfl, ⟨rfl, fun p h => by cases h⟩, (fun p h => by cases h), by simpa using hu2⟩
      (fun done acc ρ ⟨_, ps, _, _, h, h1, _⟩ => by rw [h, List.length_map, h1]; exact Nat.le_refl _) (by rw [List.length_range]; exact len_le (by omega))
      (by
        rintro ys j zs acc ρ e ⟨u3, ps, x, rfl, rfl, hps, hrow, hsm, hu3⟩
        have hj : j = ys.length ∧ ys.length < k := by
          have h1 := congrArg List.length e
          have h2 := congrArg (fun l => l[ys.length]?) e
          simp only [List.length_range, List.length_append, List.length_cons] at h1
          simp only [List.getElem?_append_right (Nat.le_refl _), Nat.sub_self, List.getElem?_cons_zero] at h2
          rw [List.getElem?_range (by omega)] at h2
          exact ⟨(Option.some.inj h2).symm, by omega⟩
        obtain ⟨rfl, hyk⟩ := hj
        have hlen : (rot rowNames n).length = 8 := by rw [rot_len]; rfl
        have hix : dIx (.lst ((rot rowNames n).map D.str)) (.int (0 + (ys.length : Int))) = some (.str ((rot rowNames n)[ys.length]'(by omega))) := by
          rw [ix_lst (by rw [List.length_map]; omega), List.getElem_map]
        obtain ⟨p, u4, e4, hn, hb, h3, h5, hu4⟩ := v_law_pass C (m := m + 20 * (many - (ys.length + 1))) ((rot rowNames n)[ys.length]'(by omega)) (hu3.mono (by omega)) hL hL1 hw hw'
        refine ⟨(), [.own true (encPu u3), .dat (.int L), .dat (.int many), .dat (.int wide), .dat (.lst ((rot rowNames n).map D.str)), .dat (.int n), .dat (.int (0 + (ys.length : Int)))], true, _, rfl, rfl, fun h => (by cases h), fun _ => ⟨encP p, [.own true (encPu u4), .dat (.int L), .dat (.int many), .dat (.int wide), .dat (.lst ((rot rowNames n).map D.str)), .dat (.int n), .dat (.int (0 + (ys.length : Int)))], by refine_lift' eva [hix, e4], u4, ps ++ [p], _, rfl, by rw [List.map_append]; rfl, by rw [List.length_append, List.length_append, hps]; rfl, hrow.snoc hb (by omega) (by rw [hn]; simp only [hps]), ?_, ?_⟩⟩
        · intro q hq
          rcases List.mem_append.mp hq with hq | hq
          · exact hsm q hq
          · rw [List.mem_singleton.mp hq]; exact ⟨h3, h5⟩
        · rw [List.length_append]; exact hu4)
    rw [List.length_range] at hps hu3
    refine st_one ?_
    refine st_ret (e_fn (f := dTuple) (z := .tup (ps.map encP)) (e_acons hlc e_anil) rfl) ?_
    exact ro_rt ⟨ps, u3, rfl, rfl, ⟨n, hrow⟩, by omega, hsm, hu3.mono (by omega)⟩
  obtain ⟨r, e, h, ps, u', rfl, rfl, h2⟩ := this
  exact ⟨ps, u', h, h2⟩
end
end My
set_option exponentiation.threshold 20000
namespace My
open PySem PySem.Spec PyProof.Rows L2 DL
theorem NmsOk.take {ns : List Str} (h : NmsOk ns) (k : Nat) : NmsOk (ns.take k) := ⟨h.nd.sublist (List.take_sublist _ _), fun x hx => h.ok x (List.mem_of_mem_take hx)⟩
end My
set_option exponentiation.threshold 20000
namespace My
open PySem PySem.Spec PyProof.Rows L2 DL
theorem range_at {n : Nat} {ys zs : List Nat} {k : Nat} (e : List.range n = ys ++ k :: zs) : k = ys.length ∧ ys.length < n := by
  have h1 := congrArg List.length e
  have h2 := congrArg (fun l => l[ys.length]?) e
  simp only [List.length_range, List.length_append, List.length_cons] at h1
  simp only [List.getElem?_append_right (Nat.le_refl _), Nat.sub_self, List.getElem?_cons_zero] at h2
  rw [List.getElem?_range (by omega)] at h2
  exact ⟨(Option.some.inj h2).symm, by omega⟩
theorem st_forN {it : Mo (List D)} {g : D → Mo Unit} {n : Nat} {ρ ρ1 : Cs} {m k : Mo Fl} {P : Option (Fl × Cs) → Prop} (hi : it ρ = some ((List.range n).map fun k : Nat => D.int (0 + (k : Int)), ρ1)) (I : Nat → Cs → Prop) (h0 : I 0 ρ1)
    (hs : ∀ j ρ, j < n → I j ρ → ∃ u ρ1, g (.int (0 + (j : Int))) ρ = some (u, ρ1) ∧ BodyQ (I (j + 1)) (fun ρ' => P (k ρ')) P (m ρ1)) (hd : ∀ ρ, I n ρ → P (k ρ)) : P (sSeq (sFor it g m) k ρ) := by
  refine st_for (α := Nat) (enc := fun k : Nat => D.int (0 + (k : Int))) (xs := List.range n) hi (fun ys ρ => I ys.length ρ) h0 ?_ ?_
  · intro ys j zs ρ q h
    obtain ⟨rfl, hj⟩ := range_at q
    obtain ⟨u, ρ1, a, b⟩ := hs ys.length ρ hj h
    exact ⟨u, ρ1, a, by rw [List.length_append]; exact b⟩
  · intro ρ h
    rw [List.length_range] at h
    exact hd ρ h
section
variable (C : Addr)
theorem sl5 (p : Ps) : dSl (encP p) none (some 5) = some (.tup [.str p.name, .str p.mode, .int p.first, .int p.last, .tup (p.touches.map encT)]) := rfl
theorem sl6 (p : Ps) : dSl (encP p) (some 6) none = some (.tup [.str p.tail]) := rfl
theorem ix5 (p : Ps) : dIx (encP p) (.int 5) = some (.int p.glide) := rfl
theorem add_tup {a b : List D} (h : a.length + b.length ≤ 1000) : dAdd (.tup a) (.tup b) = some (.tup (a ++ b)) := if_pos (len_le h)
theorem glided (p : Ps) (g : Int) : dAdd (.tup [.str p.name, .str p.mode, .int p.first, .int p.last, .tup (p.touches.map encT)]) (.tup [.int g]) = some (.tup [.str p.name, .str p.mode, .int p.first, .int p.last, .tup (p.touches.map encT), .int g]) := add_tup (by simp)
theorem glided2 (p : Ps) (g : Int) : dAdd (.tup [.str p.name, .str p.mode, .int p.first, .int p.last, .tup (p.touches.map encT), .int g]) (.tup [.str p.tail]) = some (encP { p with glide := g }) := add_tup (by simp)
theorem BodyOk.glide {L : Int} {p : Ps} (h : BodyOk L p) {g : Int} (h0 : 0 ≤ g) (h1 : g ≤ 100) : BodyOk L { p with glide := g } := ⟨h.mode, h.tail, h.rng, h.tl, h.tok, h0, h1⟩
end
end My
set_option exponentiation.threshold 20000
namespace My
open PySem PySem.Spec PyProof.Rows L2 DL
section
variable (C : Addr)
theorem eq_int (a b : Int) : dEq (.int a) (.int b) = some (.bl (a == b)) := rfl
end
end My
set_option exponentiation.threshold 20000
namespace My
open PySem PySem.Spec PyProof.Rows L2 DL
section
variable (C : Addr)
/-- what was left in a name of a loop -/
def Loose (x : Cell) : Prop := x = .no ∨ ∃ d, x = .dat d
theorem Loose.d {d : D} : Loose (.dat d) := .inr ⟨_, rfl⟩
theorem Loose.n : Loose .no := .inl rfl
set_option maxHeartbeats 4000000 in
theorem v_law_spots {m : Nat} {u : Pur} {L : Int} {ps : List Ps} (hu : PurOk (m + 80) u) (hL : 1 ≤ L) (hL1 : L ≤ 1000000000000) (hp8 : ps.length ≤ 8) (hpt : ∀ p ∈ ps, p.touches.length ≤ 6) :
    ∃ (ks : List Int) (u' : Pur), F_law_spots C (encPu u) [.int L, .tup (ps.map encP)] = some (.lst (ks.map .int), encPu u') ∧ (∀ k ∈ ks, 0 ≤ k ∧ k < L) ∧ 0 < ks.length ∧ ks.length ≤ 1000 ∧ PurOk m u' := by
  have : ∃ r e, runO 3 5 (B_law_spots C) (encPu u) [.int L, .tup (ps.map encP)] = some (r, e) ∧ ∃ (ks : List Int) (u' : Pur), r = .lst (ks.map .int) ∧ e = encPu u' ∧ (∀ k ∈ ks, 0 ≤ k ∧ k < L) ∧ 0 < ks.length ∧ ks.length ≤ 1000 ∧ PurOk m u' := by
    refine retOE ?_
    unfold B_law_spots
    refine_lift' st
    refine st_for (α := Ps) (enc := encP) (xs := ps) (ρ1 := [.own true (encPu u), .dat (.int L), .dat (.tup (ps.map encP)), .own false (.lst [.int 0, .int (L - 1)]), .no, .no, .no, .no]) rfl
      (fun ys ρ => ∃ (ks : List Int) (x y z : Cell), ρ = [.own true (encPu u), .dat (.int L), .dat (.tup (ps.map encP)), .own false (.lst ((0 :: ks).map .int)), x, y, z, .no] ∧ ks.length ≤ 1 + 40 * ys.length) ⟨[L - 1], _, _, _, rfl, by simp⟩ ?_ ?_
    · rintro ys p zs ρ e ⟨ks, x, y, z, rfl, hk⟩
      have hp : p ∈ ps := by rw [e]; simp
      have hyl : ys.length < ps.length := by rw [e]; simp
      have hpt := hpt p hp
      refine ⟨(), [.own true (encPu u), .dat (.int L), .dat (.tup (ps.map encP)), .own false (.lst ((0 :: ks).map .int)), .dat (encP p), y, z, .no], rfl, ?_⟩
      have i2 : dIx (encP p) (.int 2) = some (.int p.first) := rfl
      have i3 : dIx (encP p) (.int 3) = some (.int p.last) := rfl
      have i4 : dIx (encP p) (.int 4) = some (.tup (p.touches.map encT)) := rfl
      have i5 : dIx (encP p) (.int 5) = some (.int p.glide) := rfl
      have c1 : dCat (.lst ((0 :: ks).map .int)) (.lst [.int (p.first - 1), .int p.first, .int (p.last - 1), .int p.last]) = some (.lst ((0 :: (ks ++ [p.first - 1, p.first, p.last - 1, p.last])).map .int)) := by
        rw [cat_lst (by simp; omega), List.map_cons, List.map_cons, List.map_append]
        rfl
      refine_lift' st [i2, i3, c1]
      refine st_one ?_
      refine st_for (α := Int × Int) (enc := encT) (xs := p.touches) (ρ1 := [.own true (encPu u), .dat (.int L), .dat (.tup (ps.map encP)), .own false (.lst ((0 :: (ks ++ [p.first - 1, p.first, p.last - 1, p.last])).map .int)), .dat (encP p), y, z, .no]) ?_
        (fun ts ρ => ∃ (ls : List Int) (y z : Cell), ρ = [.own true (encPu u), .dat (.int L), .dat (.tup (ps.map encP)), .own false (.lst ((0 :: ls).map .int)), .dat (encP p), y, z, .no] ∧ ls.length ≤ ks.length + 4 + 6 * ts.length) ⟨_, _, _, rfl, by simp⟩ ?_ ?_
      · refine e_bd (v := .tup (p.touches.map encT)) (ρ1 := [.own true (encPu u), .dat (.int L), .dat (.tup (ps.map encP)), .own false (.lst ((0 :: (ks ++ [p.first - 1, p.first, p.last - 1, p.last])).map .int)), .dat (encP p), y, z, .no]) ?_ rfl
        refine_lift' eva [i4]
      · rintro ts t zs' ρ e' ⟨ls, y, z, rfl, hl⟩
        have htl : ts.length < p.touches.length := by rw [e']; simp
        refine ⟨(), [.own true (encPu u), .dat (.int L), .dat (.tup (ps.map encP)), .own false (.lst ((0 :: ls).map .int)), .dat (encP p), .dat (.int t.1), .dat (.int t.2), .no], rfl, ?_⟩
        have c2 : dCat (.lst ((0 :: ls).map .int)) (.lst [.int (t.1 - 1), .int t.1, .int (t.2 - 1), .int t.2, .int (t.2 + p.glide - 1), .int (t.2 + p.glide)]) = some (.lst ((0 :: (ls ++ [t.1 - 1, t.1, t.2 - 1, t.2, t.2 + p.glide - 1, t.2 + p.glide])).map .int)) := by
          rw [cat_lst (by simp; omega), List.map_cons, List.map_cons, List.map_append]
          rfl
        refine st_one ?_
        refine_lift' st [i5, c2]
        refine_lift' st
        exact ⟨_, _, _, rfl, by simp; omega⟩
      · rintro ρ ⟨ls, y, z, rfl, hl⟩
        refine_lift' st
        refine ⟨ls, _, _, _, rfl, ?_⟩
        rw [List.length_append, List.length_singleton]
        omega
    · rintro ρ ⟨ks, x, y, z, rfl, hk⟩
      refine st_forN (n := 40) (ρ1 := [.own true (encPu u), .dat (.int L), .dat (.tup (ps.map encP)), .own false (.lst ((0 :: ks).map .int)), x, y, z, .no]) (it_rng1 (n := 40) rfl (by decide))
        (fun j ρ => ∃ (u1 : Pur) (ls : List Int) (c : Cell), ρ = [.own true (encPu u1), .dat (.int L), .dat (.tup (ps.map encP)), .own false (.lst ((0 :: ls).map .int)), x, y, z, c] ∧ Loose c ∧ ls.length = ks.length + j ∧ PurOk (m + 2 * (40 - j)) u1) ⟨u, ks, .no, rfl, .n, rfl, hu⟩ ?_ ?_
      · rintro j ρ hj ⟨u1, ls, c, rfl, hc, hls, hu1⟩
        have hu1 : PurOk (m + 2 * (40 - (j + 1)) + 1 + 1) u1 := hu1.mono (by omega)
        obtain ⟨i1, u2, e1, i10, i11, hu2⟩ := v_law_draw C hu1 (n := 1000000) (by decide) (by decide)
        have d1 := div_s (i := L) (j := 1000000) (by omega) (by omega)
        have q1 : 0 ≤ L / 1000000 := Int.ediv_nonneg (by omega) (by omega)
        have q2 : L / 1000000 ≤ L := Int.ediv_le_self _ (by omega)
        have ml := mul_s (i := i1) (j := L / 1000000) (Nat.le_trans (by omega : i1.natAbs ≤ 2 ^ 60) (by decide)) (Nat.le_trans (by omega : (L / 1000000).natAbs ≤ 2 ^ 60) (by decide))
        have mn := min_eq L 1000000
        generalize hn : (if (1000000 : Int) < L then 1000000 else L) = n at mn
        have hn0 : 0 < n ∧ n ≤ 1000000 := by split at hn <;> omega
        obtain ⟨i2, u3, e2, i20, i21, hu3⟩ := v_law_draw C hu2 (n := n) (by omega) (by omega)
        have hl1 : ((0 :: ls).map D.int).length < sizeLine := by rw [List.length_map, List.length_cons]; exact Nat.lt_of_lt_of_le (by omega : ls.length + 1 < 900) (len_le (by omega))
        refine ⟨(), [.own true (encPu u1), .dat (.int L), .dat (.tup (ps.map encP)), .own false (.lst ((0 :: ls).map .int)), x, y, z, .dat (.int (0 + (j : Int)))], rfl, ?_⟩
        refine st_one ?_
        refine_lift' st [pow6, e1, d1, ml, mn, e2, hl1]
        refine_lift' st
        refine ⟨u3, ls ++ [i1 * (L / 1000000) + i2], .dat (.int (0 + (j : Int))), ?_, .d, by rw [List.length_append, hls]; rfl, hu3⟩
        rw [List.map_cons, List.map_cons, List.map_append]
        rfl
      · rintro ρ ⟨u1, ls, c, rfl, hc, hls, hu1⟩
        have hfree : free [7] [.own true (encPu u1), .dat (.int L), .dat (.tup (ps.map encP)), .dat (.lst ((0 :: ls).map .int)), x, y, z, c] = true := by rcases hc with rfl | ⟨d, rfl⟩ <;> rfl
        have hlc := e_lcf (α := Int) (vs := [7]) (it := iSeq seqL (mVar 3)) (g := gNm 7) (t := mTst (mChain dLe dLt (mC (.int 0)) (mVar 7) (mVar 1))) (e := mVar 7) (enc := D.int) (f := D.int) (xs := 0 :: ls) (p := fun k => decide (0 ≤ k) && decide (k < L)) (ρ := [.own true (encPu u1), .dat (.int L), .dat (.tup (ps.map encP)), .own false (.lst ((0 :: ls).map .int)), x, y, z, c]) (ρ1 := [.own true (encPu u1), .dat (.int L), .dat (.tup (ps.map encP)), .dat (.lst ((0 :: ls).map .int)), x, y, z, c]) rfl hfree (len_le (by rw [List.length_cons]; omega)) (by
          intro k _
          exact ⟨(), [.own true (encPu u1), .dat (.int L), .dat (.tup (ps.map encP)), .dat (.lst ((0 :: ls).map .int)), x, y, z, .dat (.int k)], rfl, [.own true (encPu u1), .dat (.int L), .dat (.tup (ps.map encP)), .dat (.lst ((0 :: ls).map .int)), x, y, z, .dat (.int k)], by refine_lift' ev, fun _ => rfl, fun _ => ⟨[.own true (encPu u1), .dat (.int L), .dat (.tup (ps.map encP)), .dat (.lst ((0 :: ls).map .int)), x, y, z, .dat (.int k)], by refine_lift' ev, rfl⟩⟩) rfl
        refine st_one ?_
        refine st_ret hlc ?_
        refine ro_rt ⟨(0 :: ls).filter fun k => decide (0 ≤ k) && decide (k < L), u1, rfl, rfl, fun k hk => ?_, ?_, ?_, hu1.mono (by omega)⟩
        · have := (List.mem_filter.mp hk).2
          simpa using this
        · rw [List.filter_cons_of_pos (by simp; omega)]
          simp
        · refine Nat.le_trans (List.length_filter_le _ _) ?_
          rw [List.length_cons]; omega
  obtain ⟨r, e, h, ks, u', rfl, rfl, h2⟩ := this
  exact ⟨ks, u', h, h2⟩
end
end My
set_option exponentiation.threshold 20000
namespace My
open PySem PySem.Spec PyProof.Rows L2 DL
def atL (L : Int) : List Ps → Int → List TQ
  | [], t => [⟨"old", t, 1⟩]
  | p :: r, t => (match (wrQ p L t).2 with
    | none => []
    | some y => (atL L r y.1).map (TQ.sc y.2)) ++ ((wrQ p L t).1.map fun x => TQ.mk p.name x.1 x.2).toList
theorem atL_perm (L : Int) : ∀ (ps : List Ps) (t : Int), (atL L ps t).Perm (atQ L ps t)
  | [], t => .refl _
  | p :: r, t => by
    rw [atL, atQ]
    refine List.perm_append_comm.trans (List.Perm.append_left _ ?_)
    cases (wrQ p L t).2 with
    | none => exact .refl _
    | some y => exact (atL_perm L r y.1).map _
theorem atQ_names (L : Int) : ∀ (ps : List Ps) (t : Int), ((atQ L ps t).map TQ.name).Sublist (ps.map Ps.name ++ [("old" : Str)])
  | [], t => .refl _
  | p :: r, t => by
    rw [atQ, List.map_append, List.map_cons, List.cons_append]
    have h2 : ((match (wrQ p L t).2 with
    | none => []
    | some y => (atQ L r y.1).map (TQ.sc y.2)).map TQ.name).Sublist (r.map Ps.name ++ [("old" : Str)]) := by
      cases (wrQ p L t).2 with
      | none => exact List.nil_sublist _
      | some y =>
        simp only [List.map_map]
        exact atQ_names L r y.1
    cases (wrQ p L t).1 with
    | none => exact h2.cons _
    | some x => exact h2.cons_cons _
theorem PssOk.old {L : Int} {ps : List Ps} (h : PssOk L ps) : (ps.map Ps.name ++ [("old" : Str)]).Nodup := by
  rw [List.nodup_append]
  refine ⟨h.nd, by simp, fun a ha b hb => ?_⟩
  obtain ⟨p, hp, rfl⟩ := List.mem_map.mp ha
  rw [List.mem_singleton.mp hb]
  exact (b_of_pass (h.ok p hp)).2.2
theorem PssOk.rev {L : Int} {ps : List Ps} (h : PssOk L ps) : PssOk L ps.reverse := ⟨fun p hp => h.sane p (List.mem_reverse.mp hp), fun p hp => h.ok p (List.mem_reverse.mp hp), by rw [List.map_reverse]; exact (List.reverse_perm _).nodup_iff.mpr h.nd, by rw [List.length_reverse]; exact h.len⟩
theorem PssOk.sub {L : Int} {ps qs : List Ps} (h : PssOk L ps) (s : qs.Sublist ps) : PssOk L qs := ⟨fun p hp => h.sane p (s.subset hp), fun p hp => h.ok p (s.subset hp), h.nd.sublist (s.map _), Nat.le_trans s.length_le h.len⟩
theorem atQ_nodup {L : Int} {ps : List Ps} (h : PssOk L ps) (t : Int) : ((atQ L ps t).map TQ.name).Nodup := h.old.sublist (atQ_names L ps t)
theorem atL_nodup {L : Int} {ps : List Ps} (h : PssOk L ps) (t : Int) : ((atL L ps t).map TQ.name).Nodup := ((atL_perm L ps t).map _).nodup_iff.mpr (atQ_nodup h t)
theorem atL_mem {L : Int} {ps : List Ps} {t : Int} {x : TQ} (h : x ∈ atL L ps t) : x.name ∈ ps.map Ps.name ++ [("old" : Str)] := (atQ_names L ps t).subset (List.mem_map.mpr ⟨x, (atL_perm L ps t).mem_iff.mp h, rfl⟩)
theorem wt_mul {j k : Nat} {a b : Rat} (h : WtOk j (ofQ a)) (h' : WtOk k (ofQ b)) : WtOk (j + k) (ofQ (a * b)) := by
  rw [← timesM_ofQ]
  exact lowM_ok (mul_wt h h')
theorem wt_frac {a b : Int} (h : 0 < b) (h1 : b ≤ 101) (h2 : 0 ≤ a) (h3 : a ≤ b) : WtOk 1 (ofQ ((a : Rat) / (b : Rat))) := by
  rw [← lowM_ofQ h]
  exact lowM_ok (wt1 h h1 h2 h3)
theorem wt_1 : WtOk 1 (ofQ 1) := by rw [ofQ_one]; exact wt1 (by decide) (by decide) (by decide) (by decide)
theorem wrQ_ok {p : Ps} {L t : Int} (hg0 : 0 ≤ p.glide) (hg : p.glide ≤ 100) : (∀ x, (wrQ p L t).1 = some x → WtOk 1 (ofQ x.2)) ∧ ∀ x, (wrQ p L t).2 = some x → WtOk 1 (ofQ x.2) := by
  unfold wrQ
  by_cases h1 : p.first ≤ t ∧ t < endM p L
  · rw [if_pos h1]
    cases e : lastT t p.touches none with
    | none => exact ⟨fun x h => (by cases h), fun x h => by cases h; exact wt_1⟩
    | some h =>
      have hle := lastT_le t p.touches none (fun _ q => by cases q) h e
      simp only
      by_cases hw : p.mode = "write" ∨ p.mode = "latch"
      · rw [if_pos hw]
        exact ⟨fun x h => by cases h; exact wt_1, fun x h => by cases h⟩
      · rw [if_neg hw]
        by_cases hgl : p.glide < t - h
        · rw [if_pos hgl]
          exact ⟨fun x h => (by cases h), fun x h => by cases h; exact wt_1⟩
        · rw [if_neg hgl]
          refine ⟨fun x h => by cases h; exact wt_frac (by omega) (by omega) (by omega) (by omega), fun x h => ?_⟩
          simp only at h
          split at h
          · cases h; exact wt_1
          · split at h
            · cases h
            · cases h; exact wt_frac (by omega) (by omega) (by omega) (by omega)
  · rw [if_neg h1]
    exact ⟨fun x h => (by cases h), fun x h => by cases h; exact wt_1⟩
theorem atL_wt {L : Int} : ∀ (ps : List Ps) (t : Int), (∀ p ∈ ps, 0 ≤ p.glide ∧ p.glide ≤ 100) → ∀ x ∈ atL L ps t, WtOk (ps.length + 1) (ofQ x.q)
  | [], t, _, x, hx => by
    simp only [atL, List.mem_singleton] at hx
    subst hx
    exact wt_1
  | p :: r, t, h, x, hx => by
    obtain ⟨o1, o2⟩ := wrQ_ok (L := L) (t := t) (h p List.mem_cons_self).1 (h p List.mem_cons_self).2
    rw [atL] at hx
    rcases List.mem_append.mp hx with hx | hx
    · cases e : (wrQ p L t).2 with
      | none => rw [e] at hx; cases hx
      | some y =>
        rw [e] at hx
        obtain ⟨z, hz, rfl⟩ := List.mem_map.mp hx
        have := wt_mul (o2 y e) (atL_wt r y.1 (fun q hq => h q (List.mem_cons_of_mem _ hq)) z hz)
        rw [List.length_cons]
        exact this.mono (by omega)
    · cases e : (wrQ p L t).1 with
      | none => rw [e] at hx; cases hx
      | some y =>
        rw [e] at hx
        simp only [Option.map_some, Option.toList_some, List.mem_singleton] at hx
        subst hx
        exact (o1 y e).mono (by omega)
def tmV (t : Tm) : D := .tup [.int t.at', encW t.wt]
def encDc (ts : List Tm) : D := .dic (ts.map fun t => .inr t.name) (ts.map tmV)
theorem look_tm : ∀ {ts : List Tm} {t : Tm}, (ts.map Tm.name).Nodup → t ∈ ts → lookK (ts.map fun t => .inr t.name) (ts.map tmV) (.inr t.name) = some (tmV t)
  | s :: r, t, nd, h => by
    rw [List.map_cons, List.nodup_cons] at nd
    rw [List.map_cons, List.map_cons, lookK]
    rcases List.mem_cons.mp h with rfl | h
    · rw [if_pos rfl]
    · rw [if_neg (fun z => nd.1 (List.mem_map.mpr ⟨t, h, (Sum.inr.inj z).symm⟩))]
      exact look_tm nd.2 h
theorem put_tm {ts : List Tm} {t : Tm} (h : t.name ∉ ts.map Tm.name) : D.dic (putKs (ts.map fun t => .inr t.name) (.inr t.name)) (putDs (ts.map fun t => .inr t.name) (ts.map tmV) (.inr t.name) (tmV t)) = encDc (ts ++ [t]) := by
  have : hasK (ts.map fun t => .inr t.name) (.inr t.name) = false := by
    unfold hasK
    rw [List.any_eq_false]
    intro k hk
    obtain ⟨s, hs, rfl⟩ := List.mem_map.mp hk
    simp only [decide_eq_true_eq]
    exact fun z => h (List.mem_map.mpr ⟨s, hs, Sum.inr.inj z⟩)
  unfold putKs putDs encDc
  rw [this, if_neg Bool.false_ne_true, if_neg Bool.false_ne_true, List.map_append, List.map_append]
  rfl
section
variable {ρ ρ1 ρ2 : Cs} {mk mv : Mo D} {i : Nat} {p q : Bool} {k m : Mo Fl} {P : Option (Fl × Cs) → Prop} {ks ks0 : List Key} {ds ds0 : List D} {v kd : D} {kk : Key}
theorem st_dput (h0 : ρ[i]? = some (.own p (.dic ks0 ds0))) (hv : mv ρ = some (v, ρ1)) (hk : mk ρ1 = some (kd, ρ2)) (h2 : ρ2[i]? = some (.own q (.dic ks ds))) (hkk : key? kd = some kk) (hl : ks.length < 1000) (hK : P (k (ρ2.set i (.own q (.dic (putKs ks kk) (putDs ks ds kk v)))))) : P (sSeq (sDPutV i mk mv) k ρ) := by
  refine st_run ?_ hK
  unfold sDPutV
  rw [if_pos (by unfold ownsDc; rw [h0])]
  refine e_bd hv (e_bd hk ?_)
  simp only [h2, hkk]
  exact if_pos (Nat.lt_of_lt_of_le hl (len_le (Nat.le_refl _)))
theorem st_forD {g : D → Mo Unit} (h0 : ρ[i]? = some (.dat (.dic ks ds))) (I : List Key → Cs → Prop) (hI : I [] ρ)
    (hs : ∀ ys x zs ρ, ks = ys ++ x :: zs → I ys ρ → ∃ u ρ1, g (keyD x) ρ = some (u, ρ1) ∧ BodyQ (I (ys ++ [x])) (fun ρ' => P (k ρ')) P (m ρ1)) (hd : ∀ ρ, I ks ρ → P (k ρ)) : P (sSeq (sForD i g m) k ρ) := by
  have := goFor_inv (g := g) (b := m) (enc := keyD) (R := P) (k := k) ks [] ρ I hI hs hd
  unfold sSeq sForD
  simp only [h0]
  exact this
end
section
variable (C : Addr)
theorem v_law_touched (ts : List (Int × Int)) (t : Int) : F_law_touched C [.tup (ts.map encT), .int t] = some (encOI (lastT t ts none)) := by
  refine retF ?_
  unfold B_law_touched
  refine_lift' st
  refine st_for (α := Int × Int) (enc := encT) (xs := ts) (ρ1 := [.dat (.tup (ts.map encT)), .dat (.int t), .dat .non, .no, .no]) rfl (fun ys ρ => ∃ f x y, ρ = [.dat (.tup (ts.map encT)), .dat (.int t), .dat (encOI f), x, y] ∧ ∀ zs, lastT t (ys ++ zs) none = lastT t zs f) ⟨none, _, _, rfl, fun _ => rfl⟩ ?_ ?_
  · rintro ys p zs ρ e ⟨f, x, y, rfl, q⟩
    refine ⟨(), [.dat (.tup (ts.map encT)), .dat (.int t), .dat (encOI f), .dat (.int p.1), .dat (.int p.2)], rfl, ?_⟩
    have step : ∀ f', (if p.1 ≤ t then some (if p.2 - 1 < t then p.2 - 1 else t) else f) = f' → ∀ zs, lastT t ((ys ++ [p]) ++ zs) none = lastT t zs f' := fun f' e zs => by
      rw [List.append_assoc, q]
      show lastT t (p :: zs) f = _
      rw [lastT, e]
    have hm : dMin [.int (p.2 - 1), .int t] = some (.int (if p.2 - 1 < t then p.2 - 1 else t)) := by
      rw [min_eq]
      congr 2
      split <;> split <;> omega
    refine_lift' st
    · intro h
      refine_lift' st [hm]
      exact ⟨some (if p.2 - 1 < t then p.2 - 1 else t), .dat (.int p.1), .dat (.int p.2), rfl, step _ (if_pos (of_decide_eq_true h))⟩
    · intro h
      refine_lift' st
      exact ⟨f, .dat (.int p.1), .dat (.int p.2), rfl, step _ (if_neg (of_decide_eq_false h))⟩
  · rintro ρ ⟨f, x, y, rfl, q⟩
    refine_lift' st
    refine rq_rt ?_
    have := q []
    rw [List.append_nil] at this
    rw [this]
    rfl
def mixM (rest : Wt) (t : Tm) : Tm := ⟨t.name, t.at', timesM t.wt rest⟩
set_option maxHeartbeats 2000000 in
theorem v_law_mixed {ts : List Tm} {x : Str} {spot : Int} {share rest : Wt} {j : Nat} (nd : (ts.map Tm.name).Nodup) (hx : x ∉ ts.map Tm.name) (hl : ts.length ≤ 100) (hw : ∀ t ∈ ts, WtOk j t.wt) (hr : WtOk 1 rest) (hj : j ≤ 50) :
    F_law_mixed C [encDc ts, .str x, .int spot, encW share, encW rest] = some (encDc (ts.map (mixM rest) ++ [⟨x, spot, share⟩])) := by
  refine retF ?_
  unfold B_law_mixed
  refine st_setN (d := .dic [] []) (ρ1 := cells [encDc ts, .str x, .int spot, encW share, encW rest] 4) rfl ?_
  refine st_forD (ks := ts.map fun t => .inr t.name) (ds := ts.map tmV) rfl (fun ys ρ => ∃ (n : Nat) (a b c : Cell), ρ = [.dat (encDc ts), .dat (.str x), .dat (.int spot), .dat (encW share), .dat (encW rest), .own false (encDc ((ts.take n).map (mixM rest))), a, b, c] ∧ n = ys.length) ⟨0, .no, .no, .no, rfl, rfl⟩ ?_ ?_
  · rintro ys k zs ρ e ⟨n, a, b, c, rfl, rfl⟩
    have hyl : ys.length < ts.length := by
      have := congrArg List.length e
      simp at this
      omega
    obtain ⟨t, ht⟩ : ∃ t, ts[ys.length]? = some t := ⟨_, List.getElem?_eq_getElem hyl⟩
    have hk : k = .inr t.name := by
      have h2 := congrArg (fun l => l[ys.length]?) e
      simp only [List.getElem?_append_right (Nat.le_refl _), Nat.sub_self, List.getElem?_cons_zero, List.getElem?_map, ht] at h2
      exact (Option.some.inj h2).symm
    subst hk
    have hm : t ∈ ts := List.mem_of_getElem? ht
    have hg : dGetD (encDc ts) (.str t.name) = some (tmV t) := look_tm nd hm
    have w := hw t hm
    have m1 := mul_ok (w.nat (by omega)).1 (hr.nat (by omega)).1
    have m2 := mul_ok (w.nat (by omega)).2 (hr.nat (by omega)).2
    have lo := v_law_low C (mul_wt w hr) (by omega)
    refine ⟨(), [.dat (encDc ts), .dat (.str x), .dat (.int spot), .dat (encW share), .dat (encW rest), .own false (encDc ((ts.take ys.length).map (mixM rest))), .dat (.str t.name), b, c], rfl, ?_⟩
    refine st_one ?_
    refine st_assoc ?_
    unfold tmV at hg
    refine_lift' st [hg]
    have nn : (mixM rest t).name ∉ ((ts.take ys.length).map (mixM rest)).map Tm.name := by
      intro z
      rw [List.map_map] at z
      obtain ⟨s, hs, hsn⟩ := List.mem_map.mp z
      obtain ⟨i, hi, hsi⟩ := List.mem_take_iff_getElem.mp hs
      have h1 : i < ts.length := by omega
      have e1 : (ts.map Tm.name)[i]'(by simpa using h1) = (ts.map Tm.name)[ys.length]'(by simpa using hyl) := by
        rw [List.getElem_map, List.getElem_map, hsi]
        have : ts[ys.length] = t := by rw [List.getElem?_eq_getElem hyl] at ht; exact Option.some.inj ht
        rw [this]
        exact hsn
      have := (List.getElem_inj nd).mp e1
      omega
    refine st_dput (ks0 := ((ts.take ys.length).map (mixM rest)).map fun t => .inr t.name) (ds0 := ((ts.take ys.length).map (mixM rest)).map tmV) (ks := ((ts.take ys.length).map (mixM rest)).map fun t => .inr t.name) (ds := ((ts.take ys.length).map (mixM rest)).map tmV) (p := false) (q := false) (kk := .inr t.name) (v := tmV (mixM rest t)) (ρ1 := [.dat (encDc ts), .dat (.str x), .dat (.int spot), .dat (encW share), .dat (encW rest), .own false (encDc ((ts.take ys.length).map (mixM rest))), .dat (.str t.name), .dat (.int t.at'), .dat (encW t.wt)]) (ρ2 := [.dat (encDc ts), .dat (.str x), .dat (.int spot), .dat (encW share), .dat (encW rest), .own false (encDc ((ts.take ys.length).map (mixM rest))), .dat (.str t.name), .dat (.int t.at'), .dat (encW t.wt)]) (kd := .str t.name) rfl ?_ rfl rfl rfl ?_ ?_
    · unfold encW at lo ⊢
      refine_lift' eva [m1, m2, lo]
    · simp; omega
    · rw [show (Sum.inr t.name : Key) = .inr (mixM rest t).name from rfl, put_tm nn]
      refine_lift' st
      refine ⟨ys.length + 1, .dat (.str t.name), .dat (.int t.at'), .dat (encW t.wt), ?_, by rw [List.length_append]; rfl⟩
      rw [List.take_add_one, ht, List.map_append]
      rfl
  · rintro ρ ⟨n, a, b, c, rfl, hn⟩
    rw [List.length_map] at hn
    subst hn
    rw [List.take_length]
    have nn : x ∉ (ts.map (mixM rest)).map Tm.name := by rw [List.map_map]; exact hx
    refine st_dput (ks0 := (ts.map (mixM rest)).map fun t => .inr t.name) (ds0 := (ts.map (mixM rest)).map tmV) (ks := (ts.map (mixM rest)).map fun t => .inr t.name) (ds := (ts.map (mixM rest)).map tmV) (p := false) (q := false) (kk := .inr x) (v := tmV ⟨x, spot, share⟩) (kd := .str x) (ρ1 := [.dat (encDc ts), .dat (.str x), .dat (.int spot), .dat (encW share), .dat (encW rest), .own false (encDc (ts.map (mixM rest))), a, b, c]) (ρ2 := [.dat (encDc ts), .dat (.str x), .dat (.int spot), .dat (encW share), .dat (encW rest), .own false (encDc (ts.map (mixM rest))), a, b, c]) rfl ?_ rfl rfl rfl ?_ ?_
    · unfold tmV
      refine_lift' eva
    · simp; omega
    · have := put_tm (t := ⟨x, spot, share⟩) nn
      simp only at this
      rw [this]
      refine_lift' st
      exact rq_rt rfl
end
end My
set_option exponentiation.threshold 20000
namespace My
open PySem PySem.Spec PyProof.Rows L2 DL
section
variable {ρ ρ1 ρ2 : Cs} {mk mv : Mo D} {k v : D} {kk : Key}
theorem e_disp1 (hk : mk ρ = some (k, ρ1)) (hv : mv ρ1 = some (v, ρ2)) (hkk : key? k = some kk) : mDisp1 mk mv ρ = some (.dic [kk] [v], ρ2) := e_bd hk (e_bd hv (e_l (by rw [hkk]; rfl)))
end
theorem gd_t (p : Int × Int) : Gd 1 (encT p) := gd_tup (n := 0) fun d hd => by
  simp at hd
  rcases hd with rfl | rfl
  · exact gd_int _ _
  · exact gd_int _ _
theorem Gd.up {m n : Nat} {d : D} (h : Gd m d) (k : m ≤ n) : Gd n d := ⟨h.p, h.l, Nat.le_trans h.dp k, h.e⟩
theorem gd_p {p : Ps} (h : p.sane) : Gd 3 (encP p) := gd_tup (n := 2) fun d hd => by
  simp only [List.mem_cons, List.not_mem_nil, or_false] at hd
  rcases hd with rfl | rfl | rfl | rfl | rfl | rfl | rfl
  · exact gd_str _ h.name
  · exact gd_str _ h.mode
  · exact gd_int _ _
  · exact gd_int _ _
  · exact gd_tup (n := 1) fun d hd => by
      obtain ⟨t, _, rfl⟩ := List.mem_map.mp hd
      exact gd_t t
  · exact gd_int _ _
  · exact gd_str _ h.tail
theorem gd_ps {ps : List Ps} (h : ∀ p ∈ ps, p.sane) : Gd 4 (.tup (ps.map encP)) := gd_tup (n := 3) fun d hd => by
  obtain ⟨p, hp, rfl⟩ := List.mem_map.mp hd
  exact gd_p (h p hp)
theorem eqs_of {n : Nat} {d e : D} (h : Gd n d) (h' : Gd n e) (hn : n ≤ 64) : eqs d e = some (PyData.eqv (toP d) (toP e)) := by
  unfold eqs
  have s : SeqAt.shaped (toP d) = true := by
    unfold SeqAt.shaped
    rw [h.l, decide_eq_true (Nat.le_trans h.dp hn)]
    rfl
  have s' : SeqAt.shaped (toP e) = true := by
    unfold SeqAt.shaped
    rw [h'.l, decide_eq_true (Nat.le_trans h'.dp hn)]
    rfl
  rw [if_pos ⟨h.p, h'.p, s, s'⟩]
theorem eq_nil {n : Nat} {ds : List D} (h : Gd n (.tup ds)) (hn : n ≤ 64) : dEq (.tup ds) (.tup []) = some (.bl ds.isEmpty) := by
  show (eqs _ _).map _ = _
  rw [eqs_of h ((gd_tup (n := 0) (ds := []) fun d hd => by cases hd).up (n := n + 1) (by omega) |> fun z => ⟨z.p, z.l, by simp [toP, toPs, PyData.depth, PyData.depthAll] at *; have := h.dp; simp only [toP, PyData.depth] at this; omega, z.e⟩) hn]
  cases ds with
  | nil => simp [toP, toPs, PyData.eqv, PyData.eqvAll]
  | cons d r => simp [toP, toPs, PyData.eqv, PyData.eqvAll]
theorem ix_last (ds : List D) (d : D) : dIx (.tup (ds ++ [d])) (.int (-1)) = some d := by
  show atI (ds ++ [d]) (-1) = some d
  unfold atI ixN
  rw [if_neg (by omega), if_pos (by rw [List.length_append, List.length_singleton]; omega)]
  have : ((-1 : Int) + ((ds ++ [d]).length : Int)).toNat = ds.length := by rw [List.length_append, List.length_singleton]; omega
  rw [this]
  simp
theorem sl_last (ds : List D) (d : D) : dSl (.tup (ds ++ [d])) none (some (-1)) = some (.tup ds) := by
  show some (D.tup (DL.cutD _ _ _)) = _
  have : DL.cutD (ds ++ [d]) none (some (-1)) = ds := by
    unfold DL.cutD HT.sIx
    have : ((-1 : Int) + ((ds ++ [d]).length : Int)).toNat = ds.length := by rw [List.length_append, List.length_singleton]; omega
    simp only [this]
    simp
  rw [this]
theorem tail_end {p : Ps} (h : tails.contains p.tail = true) (L : Int) : (if (decide (p.tail = "stop")) = true then D.int p.last else D.int L) = .int (endM p L) := by
  have h := List.contains_iff_mem.mp h
  simp only [tails, List.mem_cons, List.not_mem_nil, or_false] at h
  unfold endM
  rcases h with h | h
  · rw [h, decide_eq_true rfl, if_pos rfl, if_neg (by decide +kernel)]
  · rw [h, decide_eq_false (by decide +kernel), if_neg Bool.false_ne_true, if_pos rfl]
theorem mix_sc (q : Rat) (xs : List TQ) : (xs.map TQ.tm).map (mixM (ofQ q)) = (xs.map (TQ.sc q)).map TQ.tm := by
  rw [List.map_map, List.map_map]
  refine List.map_congr_left fun x _ => ?_
  show Tm.mk x.name x.at' (timesM (ofQ x.q) (ofQ q)) = Tm.mk x.name x.at' (ofQ (q * x.q))
  rw [timesM_ofQ, Rat.mul_comm]
theorem div_self_q {a : Int} (h : 0 < a) : ((a : Int) : Rat) / ((a : Int) : Rat) = 1 := by
  have : ((a : Int) : Rat) ≠ 0 := by exact_mod_cast Int.ne_of_gt h
  grind
section
variable (C : Addr)
set_option maxHeartbeats 4000000 in
theorem v_law_at {L : Int} : ∀ (n : Nat) (ps : List Ps) (t : Int), PssOk L ps → ps.length < n → F_law_at C n [.int L, .tup (ps.map encP), .int t] = some (encDc ((atL L ps.reverse t).map TQ.tm))
  | 0, ps, t, h, hn => by omega
  | n + 1, ps, t, h, hn => by
    show runF 3 11 (B_law_at C (F_law_at C n)) _ = _
    refine retF ?_
    unfold B_law_at
    have g4 := gd_ps h.sane
    have he := eq_nil g4 (by decide)
    rcases List.eq_nil_or_concat ps with rfl | ⟨qs, p, rfl⟩
    · refine_lift' st [he]
      · intro _
        have hd : ∀ ρ : Cs, mVar 2 ρ = some (.int t, ρ) → mDisp1 (mC (.str "old")) (mTup (aCons (mVar 2) (aCons (mTup (aCons (mC (.int 1)) (aCons (mC (.int 1)) aNil))) aNil))) ρ = some (.dic [.inr "old"] [.tup [.int t, .tup [.int 1, .int 1]]], ρ) := fun ρ h => e_disp1 e_c (by refine_lift' ev) rfl
        refine_lift' st [hd _ (e_var rfl)]
        refine rq_rt ?_
        show _ = encDc [⟨"old", t, ofQ 1⟩]
        rw [ofQ_one]
        rfl
      · intro z; cases z
    · rw [List.concat_eq_append] at h hn he g4 ⊢
      rw [List.map_append, List.map_cons, List.map_nil] at he g4 ⊢
      have he : dEq (.tup (qs.map encP ++ [encP p])) (.tup []) = some (.bl false) := by
        rw [he]
        cases qs.map encP <;> rfl
      have hq : PssOk L qs := h.sub (List.sublist_append_left _ _)
      have hql : qs.length < n := by rw [List.length_append, List.length_singleton] at hn; omega
      have hq8 : qs.length ≤ 8 := hq.len
      have hp : p ∈ qs ++ [p] := by simp
      obtain ⟨hb, hnm, hno⟩ := b_of_pass (h.ok p hp)
      have hsn := h.sane p hp
      have hnq : p.name ∉ (qs.reverse.map Ps.name ++ [("old" : Str)]) := by
        have := h.rev.old
        rw [List.reverse_append, List.reverse_singleton, List.singleton_append, List.map_cons, List.cons_append, List.nodup_cons] at this
        exact this.1
      have hR := fun t' => v_law_at n qs t' hq hql
      have ix := ix_last (qs.map encP) (encP p)
      have sl := sl_last (qs.map encP) (encP p)
      have ng : dNeg (.int 1) = some (.int (-1)) := rfl
      have hto := v_law_touched C p.touches t
      rw [List.reverse_append, List.reverse_singleton, List.singleton_append, atL]
      have hend := tail_end hb.tail L
      refine_lift' st [he]
      · intro z; cases z
      · intro _
        refine_lift' st
        unfold encP at ix
        refine_lift' st [ng, ix]
        have hm : ∀ ρ : Cs, mVar 9 ρ = some (.str p.tail, ρ) → mVar 6 ρ = some (.int p.last, ρ) → mVar 0 ρ = some (.int L, ρ) → mIf (mTst (mOp dEq (mVar 9) (mC (.str "stop")))) (mVar 6) (mVar 0) ρ = some (.int (endM p L), ρ) := fun ρ h9 h6 h0 => by
          rw [← hend]
          refine_lift' ev
        refine_lift' st [hm _ (e_var rfl) (e_var rfl) (e_var rfl)]
        · intro z
          have z : ¬ (p.first ≤ t ∧ t < endM p L) := by simp at z; omega
          refine_lift' st [ng, sl, hR t]
          refine rq_rt ?_
          unfold wrQ
          rw [if_neg z]
          simp only [Option.map_none, Option.toList_none, List.append_nil, map_sc_one]
        · intro z
          have z : p.first ≤ t ∧ t < endM p L := by simp at z; omega
          unfold wrQ
          rw [if_pos z]
          refine_lift' st
          refine_lift' st [hto]
          have hin : dIn (.str p.mode) (.lst [.str "write", .str "latch"]) = some (.bl ((["write", "latch"] : List Str).contains p.mode)) := in_strL hsn.mode ["write", "latch"] (by decide +kernel)
          have hc : (["write", "latch"] : List Str).contains p.mode = decide (p.mode = "write" ∨ p.mode = "latch") := by
            simp [List.contains_eq_mem]
          rw [hc] at hin
          cases e : lastT t p.touches none with
          | none =>
            simp only [e, encOI]
            refine_lift' st [hin]
            · intro y
              have y : (decide (p.mode = "write" ∨ p.mode = "latch") && false) = true := y
              rw [Bool.and_false] at y
              cases y
            · intro _
              refine_lift' st
              refine_lift' st
              · intro w
                have w := of_decide_eq_true w
                refine_lift' st [ng, sl, hR p.first]
                refine rq_rt ?_
                rw [if_pos w]
                simp only [Option.map_none, Option.toList_none, List.append_nil, map_sc_one]
              · intro w
                have w := of_decide_eq_false w
                refine_lift' st
                refine_lift' st [ng, sl, hR t]
                have hor : ∀ ρ : Cs, mVar 4 ρ = some (.str p.mode, ρ) → mVar 10 ρ = some (.non, ρ) → mOr (mTst (mOp dEq (mVar 4) (mC (.str "latch")))) (mOr (mTst (mOp dIs (mVar 10) (mC .non))) (mTst (mOp dGt (mOp dSub (mVar 2) (mVar 10)) (mVar 8)))) ρ = some (decide (p.mode = "latch") || (true || true), ρ) := fun ρ h4 h10 =>
                  e_orC (by refine_lift' ev) fun _ => e_orC (q := true) (e_tst (e_op h10 e_c rfl)) fun z => by cases z
                refine st_if (hor _ (e_var rfl) (e_var rfl)) ?_ ?_
                · intro _
                  refine_lift' st
                  refine rq_rt ?_
                  rw [if_neg w]
                  simp only [Option.map_none, Option.toList_none, List.append_nil, map_sc_one]
                · intro z; simp at z
          | some s =>
            have hle := lastT_le t p.touches none (fun _ q => by cases q) s e
            simp only [e, encOI]
            refine_lift' st [hin]
            · intro y
              have y : p.mode = "write" ∨ p.mode = "latch" := by
                simp only [Bool.and_eq_true, decide_eq_true_eq] at y; exact y.1
              have hd : ∀ ρ : Cs, mVar 3 ρ = some (.str p.name, ρ) → mVar 10 ρ = some (.int s, ρ) → mDisp1 (mVar 3) (mTup (aCons (mVar 10) (aCons (mTup (aCons (mC (.int 1)) (aCons (mC (.int 1)) aNil))) aNil))) ρ = some (.dic [.inr p.name] [.tup [.int s, .tup [.int 1, .int 1]]], ρ) := fun ρ h3 h10 => e_disp1 h3 (by refine_lift' ev) rfl
              refine_lift' st [hd _ (e_var rfl) (e_var rfl)]
              refine rq_rt ?_
              rw [if_pos y]
              show _ = encDc [⟨p.name, s, ofQ 1⟩]
              rw [ofQ_one]
              rfl
            · intro y
              have y : ¬ (p.mode = "write" ∨ p.mode = "latch") := fun q => by
                rw [decide_eq_true q] at y
                simp at y
                cases y
              rw [if_neg y]
              have y1 : p.mode ≠ "write" := fun q => y (.inl q)
              have y2 : p.mode ≠ "latch" := fun q => y (.inr q)
              refine_lift' st
              refine_lift' st
              · intro w; exact (y1 (of_decide_eq_true w)).elim
              · intro _
                refine_lift' st
                refine_lift' st [ng, sl, hR t]
                refine_lift' st
                · intro w
                  have w : p.glide < t - s := by
                    simp only [decide_eq_false y2, Bool.false_or] at w
                    have w : decide (p.glide < t - s) = true := w
                    exact of_decide_eq_true w
                  refine_lift' st
                  refine rq_rt ?_
                  rw [if_pos w]
                  simp only [Option.map_none, Option.toList_none, List.append_nil, map_sc_one]
                · intro w
                  have w : ¬ p.glide < t - s := by
                    simp only [decide_eq_false y2, Bool.false_or] at w
                    have w : decide (p.glide < t - s) = false := w
                    exact of_decide_eq_false w
                  rw [if_neg w]
                  have g0 := hb.gl
                  have wt := wt1 (a := p.glide + 1 - (t - s)) (b := p.glide + 1) (by omega) (by omega) (by omega) (by omega)
                  have lo := v_law_low C wt (by omega)
                  have hpos : 0 < p.glide + 1 := by omega
                  rw [lowM_ofQ hpos] at lo
                  have hwt : ∀ x ∈ (atL L qs.reverse t).map TQ.tm, WtOk 10 x.wt := fun x hx => by
                    obtain ⟨y, hy, rfl⟩ := List.mem_map.mp hx
                    exact (atL_wt qs.reverse t (fun p hp => (b_of_pass (hq.ok p (List.mem_reverse.mp hp))).1.gl) y hy).mono (by rw [List.length_reverse]; omega)
                  have hnd : (((atL L qs.reverse t).map TQ.tm).map Tm.name).Nodup := by
                    rw [List.map_map]
                    exact atL_nodup hq.rev t
                  have hnx : p.name ∉ ((atL L qs.reverse t).map TQ.tm).map Tm.name := fun z => by
                    rw [List.map_map] at z
                    obtain ⟨x, hx, hxn⟩ := List.mem_map.mp z
                    exact hnq (by rw [← hxn]; exact atL_mem hx)
                  have hln : ((atL L qs.reverse t).map TQ.tm).length ≤ 100 := by
                    have h1 := (atQ_names L qs.reverse t).length_le
                    rw [List.length_map, List.length_append, List.length_map, List.length_reverse, List.length_singleton] at h1
                    rw [List.length_map, (atL_perm L qs.reverse t).length_eq]
                    omega
                  refine_lift' st
                  refine_lift' st
                  refine_lift' st [lo]
                  refine_lift' st
                  · intro tr
                    have tr := of_decide_eq_true tr
                    have mx := v_law_mixed C (x := p.name) (spot := s) (share := ofQ (((p.glide + 1 - (t - s) : Int) : Rat) / ((p.glide + 1 : Int) : Rat))) (rest := (1, 1)) hnd hnx hln hwt (wt1 (by decide) (by decide) (by decide) (by decide)) (by decide)
                    unfold encW at mx
                    refine_lift' st [mx]
                    refine rq_rt ?_
                    rw [if_pos tr]
                    simp only [Option.map_some, Option.toList_some, List.map_append]
                    rw [← ofQ_one, mix_sc]
                    rfl
                  · intro tr
                    have tr := of_decide_eq_false tr
                    refine_lift' st
                    rw [if_neg tr]
                    refine_lift' st
                    · intro k0
                      have k0 : t - s = 0 := by simpa using k0
                      have ts : t = s := by omega
                      have hd : ∀ ρ : Cs, mVar 3 ρ = some (.str p.name, ρ) → mVar 10 ρ = some (.int s, ρ) → mDisp1 (mVar 3) (mTup (aCons (mVar 10) (aCons (mTup (aCons (mC (.int 1)) (aCons (mC (.int 1)) aNil))) aNil))) ρ = some (.dic [.inr p.name] [.tup [.int s, .tup [.int 1, .int 1]]], ρ) := fun ρ h3 h10 => e_disp1 h3 (by refine_lift' ev) rfl
                      refine_lift' st [hd _ (e_var rfl) (e_var rfl)]
                      refine rq_rt ?_
                      rw [if_pos ts]
                      simp only [Option.map_some, Option.toList_some, List.nil_append]
                      rw [k0, Int.sub_zero, div_self_q hpos]
                      show _ = encDc [⟨p.name, s, ofQ 1⟩]
                      rw [ofQ_one]
                      rfl
                    · intro k0
                      have k0 : t - s ≠ 0 := by simpa using k0
                      have ts : ¬ t = s := by omega
                      have wt' := wt1 (a := t - s) (b := p.glide + 1) (by omega) (by omega) (by omega) (by omega)
                      have lo' := v_law_low C wt' (by omega)
                      have wr := lowM_ok wt'
                      rw [lowM_ofQ hpos] at lo' wr
                      have mx := v_law_mixed C (x := p.name) (spot := s) (share := ofQ (((p.glide + 1 - (t - s) : Int) : Rat) / ((p.glide + 1 : Int) : Rat))) (rest := ofQ (((t - s : Int) : Rat) / ((p.glide + 1 : Int) : Rat))) hnd hnx hln hwt wr (by decide)
                      refine_lift' st
                      refine_lift' st [lo', mx]
                      refine rq_rt ?_
                      rw [if_neg ts]
                      simp only [Option.map_some, Option.toList_some, List.map_append]
                      rw [mix_sc]
                      rfl
end
end My
set_option exponentiation.threshold 20000
namespace My
open PySem PySem.Spec PyProof.Rows L2 DL
theorem sh_int {i : Int} (h : i.natAbs < 10 ^ 19) : L2.Sh 0 0 (.int i) := by
  refine ⟨by simp [PyData.hasDict], ?_, ?_, by simp [PyData.bulk], by simp [PyData.depth]⟩
  · simp only [PyData.showable]
    refine decide_eq_true ?_
    by_cases z : i.natAbs = 0
    · rw [z]; decide
    · have : i.natAbs < 2 ^ 70 := Nat.lt_trans h (by decide)
      have := (Nat.log2_lt z).mpr this
      omega
  · simp only [PyData.leavesShort]
    refine decide_eq_true ?_
    show (Str.ofString (toString i)).length ≤ 20
    rw [PySem.ofString_length]
    exact Nat.le_trans (int_text_length_le10 (k := 19) (by decide) h) (by decide)
theorem sh_str {x : Str} (h : PyData.strOk x = true) (hl : x.length ≤ 1000) : L2.Sh x.length 0 (.str x) := L2.Sh.str ⟨Nat.le_trans hl (by decide), h⟩
theorem sh_w {w : Wt} (h : w.1.natAbs < 10 ^ 19) (h' : w.2.natAbs < 10 ^ 19) : L2.Sh 2 1 (toP (encW w)) := by
  have := ((sh_int h).mono (Nat.le_refl _) (Nat.le_refl _)).mono (m := 0) (l := 0) (by omega) (by omega)
  exact ((L2.ShA.cons (sh_int h) (L2.ShA.cons (sh_int h') .nil)).tup).mono (by decide) (by decide)
structure TmSh (t : Tm) : Prop where
  nm : PyData.strOk t.name = true
  nl : t.name.length ≤ 8
  at' : t.at'.natAbs < 10 ^ 19
  w1 : t.wt.1.natAbs < 10 ^ 19
  w2 : t.wt.2.natAbs < 10 ^ 19
theorem sh_tm {t : Tm} (h : TmSh t) : L2.Sh 20 2 (toP (encTm t)) := by
  have := (L2.ShA.cons (sh_str h.nm (Nat.le_trans h.nl (by decide))) (L2.ShA.cons (sh_int h.at') (L2.ShA.cons (sh_w h.w1 h.w2) .nil))).tup
  have hl := h.nl
  exact this.mono (by omega) (by decide)
theorem shs {n k : Nat} {ds : List D} (h : ∀ d ∈ ds, L2.Sh n k (toP d)) : L2.ShA (ds.length * (n + 1)) k (toPs ds) := by
  rw [toPs_map]
  have := L2.ShA.all (n := n) (k := k) (ds := ds.map toP) fun d hd => by
    obtain ⟨x, hx, rfl⟩ := List.mem_map.mp hd
    exact h x hx
  rwa [List.length_map] at this
theorem sh_sort {ts : List Tm} (h : ∀ t ∈ ts, TmSh t) (hl : ts.length ≤ 100) : L2.Sh 2100 3 (toP (.tup (sortT ts))) := by
  have : L2.ShA ((sortT ts).length * 21) 2 (toPs (sortT ts)) := shs fun d hd => by
    unfold sortT at hd
    obtain ⟨t, ht, rfl⟩ := List.mem_map.mp (List.mem_mergeSort.mp hd)
    exact sh_tm (h t ht)
  rw [sortT_length] at this
  exact this.tup.mono (by omega) (by decide)
theorem repr_tup {n k m : Nat} {ds : List D} (g : Gd m (.tup ds)) (s : L2.Sh n k (toP (.tup ds))) (hn : n ≤ 700000) (hk : k ≤ 60) : dRepr [.tup ds] = some (.str (toP (.tup ds)).shown) := by
  have h := s.shown hn
  have hs := s.sh
  have hp := g.p
  refine if_pos ⟨by simpa [DL.plain] using hp, by simpa [toP, PyData.showable] using hs, Nat.le_trans s.dp hk, h⟩
theorem lastT_ge {t : Int} : ∀ (ts : List (Int × Int)) (f : Option Int) (lo hi : Int), touchesOk hi ts lo = true → 0 ≤ lo → (∀ h, f = some h → 0 ≤ h) → ∀ h, lastT t ts f = some h → 0 ≤ h
  | [], f, _, _, _, _, hf, h, e => hf h e
  | p :: r, f, lo, hi, ok, h0, hf, h, e => by
    rw [touchesOk] at ok
    simp only [Bool.and_eq_true, decide_eq_true_eq] at ok
    obtain ⟨⟨⟨a, _⟩, b, _⟩, ok⟩ := ok
    refine lastT_ge r _ _ _ ok (by omega) (fun x hx => ?_) h e
    split at hx
    · cases hx
      split <;> omega
    · exact hf x hx
theorem wrQ_at {p : Ps} {L t : Int} (hb : BodyOk L p) (h0 : 0 ≤ t) : (∀ x, (wrQ p L t).1 = some x → 0 ≤ x.1 ∧ x.1 ≤ t) ∧ ∀ x, (wrQ p L t).2 = some x → 0 ≤ x.1 ∧ x.1 ≤ t := by
  unfold wrQ
  have r := hb.rng
  by_cases h1 : p.first ≤ t ∧ t < endM p L
  · rw [if_pos h1]
    cases e : lastT t p.touches none with
    | none =>
      refine ⟨fun x h => (by cases h), fun x h => ?_⟩
      cases h
      simp only
      split <;> omega
    | some h =>
      have hle := lastT_le t p.touches none (fun _ q => by cases q) h e
      have hge := lastT_ge p.touches none p.first p.last hb.tok r.1 (fun _ q => by cases q) h e
      simp only
      by_cases hw : p.mode = "write" ∨ p.mode = "latch"
      · rw [if_pos hw]
        exact ⟨fun x h => by cases h; exact ⟨hge, hle⟩, fun x h => by cases h⟩
      · rw [if_neg hw]
        by_cases hgl : p.glide < t - h
        · rw [if_pos hgl]
          exact ⟨fun x h => (by cases h), fun x h => by cases h; exact ⟨h0, Int.le_refl _⟩⟩
        · rw [if_neg hgl]
          refine ⟨fun x h => by cases h; exact ⟨hge, hle⟩, fun x h => ?_⟩
          simp only at h
          split at h
          · cases h; exact ⟨h0, Int.le_refl _⟩
          · split at h
            · cases h
            · cases h; exact ⟨h0, Int.le_refl _⟩
  · rw [if_neg h1]
    exact ⟨fun x h => (by cases h), fun x h => by cases h; exact ⟨h0, Int.le_refl _⟩⟩
theorem atL_at {L : Int} : ∀ (ps : List Ps) (t : Int), (∀ p ∈ ps, BodyOk L p) → 0 ≤ t → ∀ x ∈ atL L ps t, 0 ≤ x.at' ∧ x.at' ≤ t
  | [], t, _, h0, x, hx => by
    simp only [atL, List.mem_singleton] at hx
    subst hx
    exact ⟨h0, Int.le_refl _⟩
  | p :: r, t, h, h0, x, hx => by
    obtain ⟨o1, o2⟩ := wrQ_at (h p List.mem_cons_self) h0
    rw [atL] at hx
    rcases List.mem_append.mp hx with hx | hx
    · cases e : (wrQ p L t).2 with
      | none => rw [e] at hx; cases hx
      | some y =>
        rw [e] at hx
        obtain ⟨z, hz, rfl⟩ := List.mem_map.mp hx
        obtain ⟨a, b⟩ := o2 y e
        have := atL_at r y.1 (fun q hq => h q (List.mem_cons_of_mem _ hq)) a z hz
        exact ⟨this.1, by show z.at' ≤ t; omega⟩
    · cases e : (wrQ p L t).1 with
      | none => rw [e] at hx; cases hx
      | some y =>
        rw [e] at hx
        simp only [Option.map_some, Option.toList_some, List.mem_singleton] at hx
        subst hx
        exact o1 y e
theorem name8 {x : Str} (h : nameOk x = true) : x.length ≤ 8 := by
  unfold nameOk at h
  simp only [Bool.and_eq_true, decide_eq_true_eq] at h
  exact h.1.1.2
theorem atL_sh {L t : Int} {ps : List Ps} (h : PssOk L ps) (h0 : 0 ≤ t) (h1 : t ≤ 1000000000000) : ∀ x ∈ atL L ps t, TmSh x.tm := by
  intro x hx
  have hm := atL_mem hx
  have ha := atL_at ps t (fun p hp => (b_of_pass (h.ok p hp)).1) h0 x hx
  have hw := atL_wt ps t (fun p hp => (b_of_pass (h.ok p hp)).1.gl) x hx
  have hn : PyData.strOk x.name = true ∧ x.name.length ≤ 8 := by
    rcases List.mem_append.mp hm with hm | hm
    · obtain ⟨p, hp, e⟩ := List.mem_map.mp hm
      rw [← e]
      exact ⟨(h.sane p hp).name, name8 (b_of_pass (h.ok p hp)).2.1⟩
    · rw [List.mem_singleton.mp hm]
      exact ⟨by decide +kernel, by decide +kernel⟩
  have hle := (hw.mono (k := 9) (by have := h.len; omega))
  have b1 : (101 : Int) ^ 9 = 1093685272684360901 := by decide +kernel
  have w1 := hle.pos
  have w2 := hle.le
  have w3 := hle.num
  have w4 := hle.lt
  rw [b1] at w2
  have e19 : (10 : Nat) ^ 19 = 10000000000000000000 := by decide +kernel
  refine ⟨hn.1, hn.2, ?_, ?_, ?_⟩
  · show x.at'.natAbs < _
    rw [e19]; omega
  · show (ofQ x.q).1.natAbs < _
    rw [e19]; omega
  · show (ofQ x.q).2.natAbs < _
    rw [e19]; omega
theorem form_atL {L : Int} {ps : List Ps} (h : PssOk L ps) (t : Int) : sortT (formM L ps.reverse (t, (1, 1))) = sortT ((atL L ps.reverse t).map TQ.tm) := by
  rw [formM_atQ L ps.reverse t fun p hp => (b_of_pass (h.ok p (List.mem_reverse.mp hp))).1.gl.1]
  refine sortT_perm ((atL_perm L ps.reverse t).symm.map _) ?_
  rw [List.map_map]
  exact atQ_nodup h.rev t
theorem atL_len {L : Int} {ps : List Ps} (t : Int) : (atL L ps t).length ≤ ps.length + 1 := by
  have h1 := (atQ_names L ps t).length_le
  rw [List.length_map, List.length_append, List.length_map, List.length_singleton] at h1
  rw [(atL_perm L ps t).length_eq]
  exact h1
theorem form_sh {L t : Int} {ps : List Ps} (h : PssOk L ps) (h0 : 0 ≤ t) (h1 : t ≤ 1000000000000) : L2.Sh 2100 3 (toP (formD L ps t)) := by
  unfold formD
  rw [form_atL h]
  refine sh_sort (fun x hx => ?_) ?_
  · obtain ⟨y, hy, rfl⟩ := List.mem_map.mp hx
    exact atL_sh h.rev h0 h1 y hy
  · rw [List.length_map]
    have := atL_len (L := L) (ps := ps.reverse) t
    rw [List.length_reverse] at this
    have := h.len
    omega
theorem form_repr {L t : Int} {ps : List Ps} (h : PssOk L ps) (h0 : 0 ≤ t) (h1 : t ≤ 1000000000000) : dRepr [formD L ps t] = some (.str (toP (formD L ps t)).shown) := repr_tup (gd_form h) (form_sh h h0 h1) (by decide) (by decide)
theorem sorted_strs (ws : List Str) (hl : ws.length ≤ 1000) : dSorted [.lst (ws.map .str)] = some (.lst ((ws.map D.str).mergeSort leD)) := by
  refine if_pos ⟨plains_map _ (fun a => rfl) ws, ?_, ?_, ?_, by rw [List.length_map]; exact len_le hl⟩
  · rw [toPs_map, List.map_map]
    refine List.all_eq_true.mpr fun x hx => List.all_eq_true.mpr fun y hy => ?_
    obtain ⟨a, _, rfl⟩ := List.mem_map.mp hx
    obtain ⟨b, _, rfl⟩ := List.mem_map.mp hy
    simp [toP, PySem.W.alike]
  · rw [toPs_map, List.map_map]
    unfold sortable
    rw [Bool.or_eq_true]
    refine .inr (List.all_eq_true.mpr fun x hx => ?_)
    obtain ⟨a, _, rfl⟩ := List.mem_map.mp hx
    simp [toP, noTup]
  · rw [toPs_map, List.map_map]
    refine List.all_eq_true.mpr fun x hx => ?_
    obtain ⟨a, _, rfl⟩ := List.mem_map.mp hx
    simp [toP, PyData.depth]
theorem leD_str (x y : Str) : leD (.str x) (.str y) = !decide (y.cps.toList < x.cps.toList) := by
  show (!PySem.W.dataLt (toP (.str y)) (toP (.str x))) = _
  simp only [toP]
  rw [PySem.W.dataLt_str]
/-- terms in the order of their names -/
def byName (ts : List Tm) : List Tm := ts.mergeSort fun a b => leD (.str a.name) (.str b.name)
theorem byName_names (ts : List Tm) : (ts.map fun t => D.str t.name).mergeSort leD = (byName ts).map fun t => D.str t.name :=
  (List.map_mergeSort (r := fun a b : Tm => leD (.str a.name) (.str b.name)) (s := leD) (f := fun t : Tm => D.str t.name) fun a _ b _ => rfl).symm
theorem byName_perm (ts : List Tm) : (byName ts).Perm ts := List.mergeSort_perm _ _
theorem byName_sort {ts : List Tm} (nd : (ts.map Tm.name).Nodup) : (byName ts).map encTm = sortT ts := by
  have hp := byName_perm ts
  have nd2 : ((byName ts).map Tm.name).Nodup := (hp.map _).nodup_iff.mpr nd
  have hpw : ((byName ts).map encTm).Pairwise fun a b => leD a b = true := by
    have h1 : ((byName ts).map fun t => D.str t.name).Pairwise fun a b => leD a b = true := by
      rw [← byName_names]
      exact PySem.W.sort_pairwise leD_total _
    rw [List.pairwise_map] at h1 ⊢
    have h2 : (byName ts).Pairwise fun a b => a.name ≠ b.name := List.pairwise_map.mp nd2
    refine (h1.and h2).imp fun {a b} h => ?_
    rw [leD_tm h.2]
    rw [leD_str] at h
    exact h.1
  have e : sortT (byName ts) = sortT ts := sortT_perm hp nd2
  rw [← e]
  unfold sortT
  exact (List.mergeSort_of_pairwise hpw).symm
section
variable (C : Addr)
set_option maxHeartbeats 2000000 in
theorem v_law_form {L t : Int} {ps : List Ps} (h : PssOk L ps) : F_law_form C [.int L, .tup (ps.map encP), .int t] = some (formD L ps t) := by
  have hat := v_law_at C 10 ps t h (by have := h.len; omega)
  generalize hts : (atL L ps.reverse t).map TQ.tm = ts at hat
  have nd : (ts.map Tm.name).Nodup := by
    rw [← hts, List.map_map]
    exact atL_nodup h.rev t
  have hl : ts.length ≤ 1000 := by
    rw [← hts, List.length_map]
    have := atL_len (L := L) (ps := ps.reverse) t
    rw [List.length_reverse] at this
    have := h.len
    omega
  refine retF ?_
  unfold B_law_form
  refine_lift' st [hat]
  have e1 : dListD [encDc ts] = some (.lst (ts.map fun t => D.str t.name)) := by
    show some (D.lst ((ts.map fun t => Sum.inr t.name).map keyD)) = _
    rw [List.map_map]
    rfl
  have e2 : dSorted [.lst (ts.map fun t => D.str t.name)] = some (.lst ((byName ts).map fun t => D.str t.name)) := by
    rw [← byName_names]
    have := sorted_strs (ts.map Tm.name) (by rw [List.length_map]; exact hl)
    rw [List.map_map] at this
    exact this
  have hlc := e_lcm (α := Tm) (vs := [4]) (it := iSeq seqL (mFn dSorted (aCons (mFn dListD (aCons (mVar 3) aNil)) aNil))) (g := gNm 4) (e := mTup (aCons (mVar 4) (aCons (mOp dIx (mOp dGetD (mVar 3) (mVar 4)) (mC (.int 0))) (aCons (mOp dIx (mOp dGetD (mVar 3) (mVar 4)) (mC (.int 1))) aNil)))) (enc := fun t => D.str t.name) (f := encTm) (xs := byName ts)
    (ρ := [.dat (.int L), .dat (.tup (ps.map encP)), .dat (.int t), .dat (encDc ts), .no]) (ρ1 := [.dat (.int L), .dat (.tup (ps.map encP)), .dat (.int t), .dat (encDc ts), .no])
    (by
      refine e_bd (v := .lst ((byName ts).map fun t => D.str t.name)) (ρ1 := [.dat (.int L), .dat (.tup (ps.map encP)), .dat (.int t), .dat (encDc ts), .no]) ?_ rfl
      refine_lift' eva [e1, e2]) rfl (len_le (by rw [(byName_perm ts).length_eq]; exact hl))
    (by
      intro x hx
      have hg : dGetD (encDc ts) (.str x.name) = some (tmV x) := look_tm nd ((byName_perm ts).mem_iff.mp hx)
      have i0 : dIx (tmV x) (.int 0) = some (.int x.at') := rfl
      have i1 : dIx (tmV x) (.int 1) = some (encW x.wt) := rfl
      exact ⟨(), [.dat (.int L), .dat (.tup (ps.map encP)), .dat (.int t), .dat (encDc ts), .dat (.str x.name)], rfl, [.dat (.int L), .dat (.tup (ps.map encP)), .dat (.int t), .dat (encDc ts), .dat (.str x.name)], by unfold encTm; refine_lift' ev [hg, i0, i1], rfl⟩) rfl
  refine st_one ?_
  refine st_ret (e_fn (f := dTuple) (z := .tup ((byName ts).map encTm)) (e_acons hlc e_anil) rfl) ?_
  refine rq_rt ?_
  unfold formD
  rw [byName_sort nd, form_atL h, hts]
end
end My
set_option exponentiation.threshold 20000
namespace My
open PySem PySem.Spec PyProof.Rows L2 DL
theorem ix_tup {ds : List D} {k : Nat} {d : D} (h : ds[k]? = some d) : dIx (.tup ds) (.int k) = some d := atI_nat h
theorem PssOk.perm {L : Int} {ps qs : List Ps} (h : PssOk L ps) (p : qs.Perm ps) : PssOk L qs := ⟨fun q hq => h.sane q (p.mem_iff.mp hq), fun q hq => h.ok q (p.mem_iff.mp hq), (p.map _).nodup_iff.mpr h.nd, by rw [p.length_eq]; exact h.len⟩
end My
set_option exponentiation.threshold 20000
set_option exponentiation.threshold 20000
namespace My
open PySem PySem.Spec PyProof.Rows L2 DL
def gliding (m : Str) : Bool := decide (m = "touch") || decide (m = "trim")
def rngI (a b : Int) : List Int := (List.range (b - a).toNat).map fun k : Nat => a + (k : Int)
theorem mem_rngI {a b x : Int} : x ∈ rngI a b ↔ a ≤ x ∧ x < b := by
  unfold rngI
  simp only [List.mem_map, List.mem_range]
  constructor
  · rintro ⟨k, hk, rfl⟩
    omega
  · rintro ⟨h1, h2⟩
    exact ⟨(x - a).toNat, by omega, by omega⟩
def minI (a b : Int) : Int := if b < a then b else a
theorem minI_le (a b : Int) : minI a b ≤ a ∧ minI a b ≤ b ∧ (minI a b = a ∨ minI a b = b) := by
  unfold minI
  split <;> omega
/-- the ticks from which on a pass does something else -/
def edgesM (p : Ps) (L : Int) : List Int := [p.first, p.first + 1, endM p L] ++ p.touches.flatMap fun q => q.1 :: rngI q.2 (minI (q.2 + (if gliding p.mode then p.glide else 0)) (endM p L) + 1)
/-- no edge of a pass is within a stretch -/
def Free (p : Ps) (L a b : Int) : Prop := ∀ e ∈ edgesM p L, e ≤ a ∨ b ≤ e
/-- a term with the tick t in the place of z -/
def mvQ (z t : Int) (x : TQ) : TQ := if x.at' = z then ⟨x.name, t, x.q⟩ else x
theorem mvQ_sc (z t : Int) (q : Rat) (x : TQ) : (mvQ z t x).sc q = mvQ z t (x.sc q) := by
  unfold mvQ TQ.sc
  simp only
  split <;> rfl
theorem mvQ_self (z : Int) (x : TQ) : mvQ z z x = x := by
  unfold mvQ
  split
  · rename_i h
    obtain ⟨n, a, q⟩ := x
    simp only at h
    rw [h]
  · rfl
theorem mvQ_off {z t : Int} {x : TQ} (h : x.at' ≠ z) : mvQ z t x = x := if_neg h
theorem touches_in {hi : Int} : ∀ {ts : List (Int × Int)} {lo : Int}, touchesOk hi ts lo = true → ∀ q ∈ ts, lo ≤ q.1 ∧ q.1 + 1 ≤ q.2 ∧ q.2 ≤ hi
  | [], _, _, _, h => absurd h List.not_mem_nil
  | p :: r, lo, h, q, hq => by
    rw [touchesOk] at h
    simp only [Bool.and_eq_true, decide_eq_true_eq] at h
    rcases List.mem_cons.mp hq with e | hq
    · subst e
      omega
    · have := touches_in h.2 q hq
      omega
theorem lastT_early {hi t : Int} : ∀ {ts : List (Int × Int)} {lo : Int} (f : Option Int), touchesOk hi ts lo = true → t < lo → lastT t ts f = f
  | [], _, _, _, _ => rfl
  | p :: r, lo, f, h, ht => by
    rw [touchesOk] at h
    simp only [Bool.and_eq_true, decide_eq_true_eq] at h
    rw [lastT, if_neg (by omega)]
    exact lastT_early f h.2 (by omega)
/-- the last touch within a stretch that no touch begins or ends in -/
theorem lastT_free {a b hi : Int} : ∀ {ts : List (Int × Int)} {lo : Int} (f : Option Int), touchesOk hi ts lo = true → (∀ q ∈ ts, (q.1 ≤ a ∨ b ≤ q.1) ∧ (q.2 ≤ a ∨ b ≤ q.2)) → (∀ t, a ≤ t → t < b → lastT t ts f = f) ∨
    (∀ t, a ≤ t → t < b → lastT t ts f = some t) ∨ ∃ q ∈ ts, q.2 ≤ a ∧ ∀ t, a ≤ t → t < b → lastT t ts f = some (q.2 - 1)
  | [], _, f, _, _ => .inl fun _ _ _ => rfl
  | q :: ts, lo, f, ok, h => by
    obtain ⟨h1, h2⟩ := h q List.mem_cons_self
    have hr := fun r hr => h r (List.mem_cons_of_mem _ hr)
    rw [touchesOk] at ok
    simp only [Bool.and_eq_true, decide_eq_true_eq] at ok
    rcases h1 with h1 | h1
    · rcases h2 with h2 | h2
      · have hst : ∀ t, a ≤ t → t < b → lastT t (q :: ts) f = lastT t ts (some (q.2 - 1)) := fun t t1 t2 => by rw [lastT, if_pos (by omega), if_pos (by omega)]
        rcases lastT_free (some (q.2 - 1)) ok.2 hr with g | g | ⟨r, hr', g1, g2⟩
        · exact .inr (.inr ⟨q, List.mem_cons_self, h2, fun t t1 t2 => (hst t t1 t2).trans (g t t1 t2)⟩)
        · exact .inr (.inl fun t t1 t2 => (hst t t1 t2).trans (g t t1 t2))
        · exact .inr (.inr ⟨r, List.mem_cons_of_mem _ hr', g1, fun t t1 t2 => (hst t t1 t2).trans (g2 t t1 t2)⟩)
      · refine .inr (.inl fun t t1 t2 => ?_)
        rw [lastT, if_pos (by omega), if_neg (by omega)]
        exact lastT_early _ ok.2 (by omega)
    · have hst : ∀ t, a ≤ t → t < b → lastT t (q :: ts) f = lastT t ts f := fun t t1 t2 => by rw [lastT, if_neg (by omega)]
      rcases lastT_free f ok.2 hr with g | g | ⟨r, hr', g1, g2⟩
      · exact .inl fun t t1 t2 => (hst t t1 t2).trans (g t t1 t2)
      · exact .inr (.inl fun t t1 t2 => (hst t t1 t2).trans (g t t1 t2))
      · exact .inr (.inr ⟨r, List.mem_cons_of_mem _ hr', g1, fun t t1 t2 => (hst t t1 t2).trans (g2 t t1 t2)⟩)
/-- what a pass does at all ticks of a stretch of two and more without its edges -/
inductive SegW (p : Ps) (L a b : Int) : Prop
  | self (h : ∀ t, a ≤ t → t < b → wrQ p L t = (none, some (t, 1)))
  | held (f : Int) (h0 : 0 ≤ f ∧ f < a) (h : ∀ t, a ≤ t → t < b → wrQ p L t = (none, some (f, 1)))
  | old (u : Int) (h0 : u < a) (h : ∀ t, a ≤ t → t < b → wrQ p L t = (some (u, 1), none))
  | hand (h : ∀ t, a ≤ t → t < b → wrQ p L t = (some (t, 1), none))
  | both (h : ∀ t, a ≤ t → t < b → wrQ p L t = (some (t, 1), some (t, 1)))
theorem segW {p : Ps} {L a b : Int} (hb : BodyOk L p) (free : Free p L a b) (two : a + 1 < b) : SegW p L a b := by
  have f1 := free p.first (by simp [edgesM])
  have f2 := free (p.first + 1) (by simp [edgesM])
  have f3 := free (endM p L) (by simp [edgesM])
  have out : (b ≤ p.first ∨ endM p L ≤ a) → SegW p L a b := fun h => .self fun t t1 t2 => by
    unfold wrQ
    rw [if_neg (by omega)]
  by_cases c1 : b ≤ p.first
  · exact out (.inl c1)
  by_cases c2 : endM p L ≤ a
  · exact out (.inr c2)
  have fa : p.first < a := by omega
  have eb : b ≤ endM p L := by omega
  have inn : ∀ t, a ≤ t → t < b → p.first ≤ t ∧ t < endM p L := fun t _ _ => by omega
  have le_end : ∀ q ∈ p.touches, q.2 ≤ endM p L := fun q hq => by
    have := (touches_in hb.tok q hq).2.2
    have : p.last ≤ endM p L := by
      unfold endM
      split
      · exact hb.rng.2.2
      · exact Int.le_refl _
    omega
  have edge : ∀ q ∈ p.touches, ∀ e, (e = q.1 ∨ q.2 ≤ e ∧ e < minI (q.2 + (if gliding p.mode then p.glide else 0)) (endM p L) + 1) → e ≤ a ∨ b ≤ e := fun q hq e he => by
    refine free e ?_
    unfold edgesM
    refine List.mem_append_right _ (List.mem_flatMap.mpr ⟨q, hq, ?_⟩)
    rcases he with rfl | he
    · exact List.mem_cons_self
    · exact List.mem_cons_of_mem _ (mem_rngI.mpr he)
  have gl0 : 0 ≤ (if gliding p.mode then p.glide else 0) := by
    split
    · exact hb.gl.1
    · exact Int.le_refl _
  have ends : ∀ q ∈ p.touches, (q.1 ≤ a ∨ b ≤ q.1) ∧ (q.2 ≤ a ∨ b ≤ q.2) := fun q hq => by
    refine ⟨edge q hq q.1 (.inl rfl), edge q hq q.2 (.inr ⟨Int.le_refl _, ?_⟩)⟩
    have := le_end q hq
    have := minI_le (q.2 + (if gliding p.mode then p.glide else 0)) (endM p L)
    omega
  rcases lastT_free (a := a) (b := b) none hb.tok ends with g | g | ⟨q, hq, g1, g2⟩
  · by_cases hw : p.mode = "write"
    · refine .held p.first ⟨hb.rng.1, fa⟩ fun t t1 t2 => ?_
      unfold wrQ
      rw [if_pos (inn t t1 t2), g t t1 t2]
      simp only [hw, if_true]
    · refine .self fun t t1 t2 => ?_
      unfold wrQ
      rw [if_pos (inn t t1 t2), g t t1 t2]
      simp only [hw, if_false]
  · have one : ((p.glide + 1 - 0 : Int) : Rat) / ((p.glide + 1 : Int) : Rat) = 1 := by
      have := hb.gl.1
      rw [Int.sub_zero]
      exact div_self_q (by omega)
    by_cases hw : p.mode = "write" ∨ p.mode = "latch"
    · refine .hand fun t t1 t2 => ?_
      unfold wrQ
      rw [if_pos (inn t t1 t2), g t t1 t2]
      simp only [hw, if_true]
    · by_cases htr : p.mode = "trim"
      · refine .both fun t t1 t2 => ?_
        unfold wrQ
        rw [if_pos (inn t t1 t2), g t t1 t2]
        simp only [hw, if_false]
        rw [if_neg (by have := hb.gl.1; omega), Int.sub_self, one, if_pos htr]
      · refine .hand fun t t1 t2 => ?_
        unfold wrQ
        rw [if_pos (inn t t1 t2), g t t1 t2]
        simp only [hw, if_false]
        rw [if_neg (by have := hb.gl.1; omega), Int.sub_self, one, if_neg htr, if_pos trivial]
  · by_cases hw : p.mode = "write" ∨ p.mode = "latch"
    · refine .old (q.2 - 1) (by omega) fun t t1 t2 => ?_
      unfold wrQ
      rw [if_pos (inn t t1 t2), g2 t t1 t2]
      simp only [hw, if_true]
    · have hg : gliding p.mode = true := by
        have hm := List.contains_iff_mem.mp hb.mode
        simp only [modes, List.mem_cons, List.not_mem_nil, or_false] at hm
        unfold gliding
        rcases hm with e | e | e | e
        · exact absurd (.inl e) hw
        · exact absurd (.inr e) hw
        · simp [e]
        · simp [e]
      refine .self fun t t1 t2 => ?_
      have far : p.glide < t - (q.2 - 1) := by
        refine Int.not_le.mp fun c => ?_
        have e1 := edge q hq (a + 1) (.inr ⟨by omega, ?_⟩)
        · omega
        · rw [hg, if_pos rfl]
          have := minI_le (q.2 + p.glide) (endM p L)
          omega
      unfold wrQ
      rw [if_pos (inn t t1 t2), g2 t t1 t2]
      simp only [hw, if_false]
      rw [if_pos far]
/-- the terms of all ticks of a stretch by those of its last one -/
theorem seg_at {L a b : Int} : ∀ (ps : List Ps), (∀ p ∈ ps, BodyOk L p) → (∀ p ∈ ps, Free p L a b) → a + 1 < b → 0 ≤ a → (∀ t, a ≤ t → t < b → atQ L ps t = (atQ L ps (b - 1)).map (mvQ (b - 1) t)) ∧ ∀ x ∈ atQ L ps (b - 1), x.at' = b - 1 ∨ x.at' < a
  | [], _, _, two, h0 => ⟨fun t _ _ => by simp [atQ, mvQ], fun x hx => by
    simp only [atQ, List.mem_singleton] at hx
    subst hx
    exact .inl rfl⟩
  | p :: r, hb, hf, two, h0 => by
    have zb : a ≤ b - 1 ∧ b - 1 < b := by omega
    obtain ⟨i1, i2⟩ := seg_at r (fun q hq => hb q (List.mem_cons_of_mem _ hq)) (fun q hq => hf q (List.mem_cons_of_mem _ hq)) two h0
    have scs : ∀ (q : Rat) (t : Int) (xs : List TQ), (xs.map (mvQ (b - 1) t)).map (TQ.sc q) = (xs.map (TQ.sc q)).map (mvQ (b - 1) t) := fun q t xs => by
      rw [List.map_map, List.map_map]
      exact List.map_congr_left fun x _ => mvQ_sc _ _ _ _
    cases segW (hb p List.mem_cons_self) (hf p List.mem_cons_self) two with
    | self h =>
      constructor
      · intro t t1 t2
        rw [atQ, atQ, h t t1 t2, h _ zb.1 zb.2]
        simp only [Option.map_none, Option.toList_none, List.nil_append]
        rw [i1 t t1 t2, scs]
      · intro x hx
        rw [atQ, h _ zb.1 zb.2] at hx
        simp only [Option.map_none, Option.toList_none, List.nil_append, map_sc_one] at hx
        exact i2 x hx
    | held f hfa h =>
      have hlt : ∀ x ∈ atQ L r f, x.at' ≤ f := fun x hx => (atL_at r f (fun q hq => hb q (List.mem_cons_of_mem _ hq)) hfa.1 x ((atL_perm L r f).mem_iff.mpr hx)).2
      constructor
      · intro t t1 t2
        rw [atQ, atQ, h t t1 t2, h _ zb.1 zb.2]
        simp only [Option.map_none, Option.toList_none, List.nil_append, map_sc_one]
        refine ((List.map_congr_left fun x hx => ?_).trans (List.map_id _)).symm
        exact mvQ_off (by have := hlt x hx; omega)
      · intro x hx
        rw [atQ, h _ zb.1 zb.2] at hx
        simp only [Option.map_none, Option.toList_none, List.nil_append, map_sc_one] at hx
        have := hlt x hx
        exact .inr (by omega)
    | old u hu h =>
      constructor
      · intro t t1 t2
        rw [atQ, atQ, h t t1 t2, h _ zb.1 zb.2]
        simp only [Option.map_some, Option.toList_some, List.append_nil, List.map_cons, List.map_nil]
        rw [mvQ_off (by simp only; omega)]
      · intro x hx
        rw [atQ, h _ zb.1 zb.2] at hx
        simp only [Option.map_some, Option.toList_some, List.append_nil, List.mem_singleton] at hx
        subst hx
        exact .inr hu
    | hand h =>
      constructor
      · intro t t1 t2
        rw [atQ, atQ, h t t1 t2, h _ zb.1 zb.2]
        simp [mvQ]
      · intro x hx
        rw [atQ, h _ zb.1 zb.2] at hx
        simp only [Option.map_some, Option.toList_some, List.append_nil, List.mem_singleton] at hx
        subst hx
        exact .inl rfl
    | both h =>
      constructor
      · intro t t1 t2
        rw [atQ, atQ, h t t1 t2, h _ zb.1 zb.2]
        simp only [Option.map_some, Option.toList_some, List.map_append, List.map_cons, List.map_nil]
        rw [i1 t t1 t2, scs]
        simp [mvQ]
      · intro x hx
        rw [atQ, h _ zb.1 zb.2] at hx
        simp only [Option.map_some, Option.toList_some, map_sc_one, List.mem_append, List.mem_singleton] at hx
        rcases hx with rfl | hx
        · exact .inl rfl
        · exact i2 x hx
/-- the same with single ticks -/
theorem seg_any {L a b : Int} {ps : List Ps} (hb : ∀ p ∈ ps, BodyOk L p) (hf : ∀ p ∈ ps, Free p L a b) (h0 : 0 ≤ a) (hab : a < b) : (∀ t, a ≤ t → t < b → atQ L ps t = (atQ L ps (b - 1)).map (mvQ (b - 1) t)) ∧ ∀ x ∈ atQ L ps (b - 1), x.at' = b - 1 ∨ x.at' < a := by
  by_cases two : a + 1 < b
  · exact seg_at ps hb hf two h0
  · have e : a = b - 1 := by omega
    refine ⟨fun t t1 t2 => ?_, fun x hx => ?_⟩
    · have et : t = b - 1 := by omega
      rw [et]
      exact ((List.map_congr_left fun x _ => mvQ_self _ x).trans (List.map_id _)).symm
    · have := (atL_at ps (b - 1) hb (by omega) x ((atL_perm L ps (b - 1)).mem_iff.mpr hx)).2
      omega
/-- the terms of a tick, by name -/
def formT (L : Int) (ps : List Ps) (t : Int) : List Tm := byName ((atQ L ps.reverse t).map TQ.tm)
theorem formT_nd {L : Int} {ps : List Ps} (h : PssOk L ps) (t : Int) : (((atQ L ps.reverse t).map TQ.tm).map Tm.name).Nodup := by
  rw [List.map_map]
  exact atQ_nodup h.rev t
theorem formD_T {L : Int} {ps : List Ps} (h : PssOk L ps) (t : Int) : formD L ps t = .tup ((formT L ps t).map encTm) := by
  unfold formD formT
  rw [byName_sort (formT_nd h t), formM_atQ L ps.reverse t fun p hp => (b_of_pass (h.rev.ok p hp)).1.gl.1]
/-- a term with the tick t in the place of z -/
def mvT (z t : Int) (x : Tm) : Tm := if x.at' = z then ⟨x.name, t, x.wt⟩ else x
theorem mvT_tm (z t : Int) (x : TQ) : (mvQ z t x).tm = mvT z t x.tm := by
  unfold mvQ mvT TQ.tm
  simp only
  split <;> rfl
theorem mvT_name (z t : Int) (x : Tm) : (mvT z t x).name = x.name := by
  unfold mvT
  split <;> rfl
theorem byName_map {f : Tm → Tm} (hf : ∀ x, (f x).name = x.name) (ts : List Tm) : byName (ts.map f) = (byName ts).map f := by
  unfold byName
  refine (List.map_mergeSort (r := fun a b : Tm => leD (.str a.name) (.str b.name)) (s := fun a b : Tm => leD (.str a.name) (.str b.name)) (f := f) fun a _ b _ => ?_).symm
  rw [hf, hf]
structure Seg (L : Int) (ps : List Ps) (a b : Int) : Prop where
  mv : ∀ t, a ≤ t → t < b → formT L ps t = (formT L ps (b - 1)).map (mvT (b - 1) t)
  pl : ∀ x ∈ formT L ps (b - 1), x.at' = b - 1 ∨ x.at' < a
theorem seg_of {L a b : Int} {ps : List Ps} (h : PssOk L ps) (hf : ∀ p ∈ ps, Free p L a b) (h0 : 0 ≤ a) (hab : a < b) : Seg L ps a b := by
  have hb : ∀ p ∈ ps.reverse, BodyOk L p := fun p hp => (b_of_pass (h.rev.ok p hp)).1
  obtain ⟨s1, s2⟩ := seg_any hb (fun p hp => hf p (List.mem_reverse.mp hp)) h0 hab
  constructor
  · intro t t1 t2
    unfold formT
    rw [s1 t t1 t2, ← byName_map (mvT_name _ _), List.map_map, List.map_map]
    congr 1
    exact List.map_congr_left fun x _ => mvT_tm _ _ x
  · intro x hx
    obtain ⟨y, hy, rfl⟩ := List.mem_map.mp ((byName_perm _).mem_iff.mp hx)
    exact s2 y hy
end My
set_option exponentiation.threshold 20000
namespace My
open PySem PySem.Spec PyProof.Rows L2 DL
section
variable {ρ ρ1 : Cs} {a : Mo D} {i : Nat} {p q : Bool} {k : Mo Fl} {P : Option (Fl × Cs) → Prop}
theorem st_ext {ds es fs : List D} (h0 : ρ[i]? = some (.own p (.lst ds))) (h : a ρ = some (.lst es, ρ1)) (h1 : ρ1[i]? = some (.own q (.lst fs))) (hl : fs.length + es.length ≤ sizeLine) (hk : P (k (ρ1.set i (.own q (.lst (fs ++ es)))))) : P (sSeq (sExtV i a) k ρ) := by
  refine st_run ?_ hk
  unfold sExtV
  rw [if_pos (by unfold ownsL; rw [h0])]
  refine e_bd h ?_
  simp only [h1]
  exact if_pos hl
end
theorem rngI_len (a b : Int) : (rngI a b).length = (b - a).toNat := by
  unfold rngI
  rw [List.length_map, List.length_range]
theorem rngD_I (a b : Int) : rngD a (b - a).toNat = (rngI a b).map D.int := by
  unfold rngD rngI
  rw [List.map_map]
  rfl
theorem glide_in {p : Ps} (h : modes.contains p.mode = true) : dIn (.str p.mode) (.tup [.str "touch", .str "trim"]) = some (.bl (gliding p.mode)) := by
  refine (in_words (modes_strOk h) ["touch", "trim"] (by decide +kernel)).trans ?_
  unfold gliding
  simp [List.contains_cons, BEq.beq, Bool.or_comm]
theorem edge_many {p : Ps} {L : Int} (h : BodyOk L p) : (edgesM p L).length ≤ 700 := by
  have : ∀ ts : List (Int × Int), (ts.flatMap fun q => q.1 :: rngI q.2 (minI (q.2 + (if gliding p.mode then p.glide else 0)) (endM p L) + 1)).length ≤ 102 * ts.length := by
    intro ts
    induction ts with
    | nil => simp
    | cons q ts ih =>
      rw [List.flatMap_cons, List.length_append, List.length_cons, List.length_cons, rngI_len]
      have := minI_le (q.2 + (if gliding p.mode then p.glide else 0)) (endM p L)
      have : (if gliding p.mode then p.glide else 0) ≤ 100 := by
        split
        · exact h.gl.2
        · decide
      omega
  have h1 := this p.touches
  have h2 := h.tl
  unfold edgesM
  simp only [List.cons_append, List.nil_append, List.length_cons]
  omega
section
variable (C : Addr)
set_option maxHeartbeats 1000000 in
theorem v_edges_of {p : Ps} {L : Int} (h : BodyOk L p) (hL : L ≤ 1000000000000) : F_edges_of C [encP p, .int L] = some (.lst ((edgesM p L).map D.int)) := by
  have hend := v_end_of C p L
  have hg := glide_in h.mode
  have hst : 0 ≤ (if gliding p.mode then p.glide else 0) ∧ (if gliding p.mode then p.glide else 0) ≤ 100 := by
    split
    · exact h.gl
    · decide
  generalize hS : (if gliding p.mode then p.glide else 0) = S at hst
  have he : endM p L ≤ L := by
    unfold endM
    have := h.rng
    split <;> omega
  have he0 : p.last ≤ endM p L := by
    unfold endM
    have := h.rng
    split <;> omega
  have hE := edge_many h
  refine retF ?_
  unfold B_edges_of
  unfold encP at hend ⊢
  refine_lift' st
  refine_lift' st [hend]
  refine_lift' st
  refine st_for (α := Int × Int) (enc := encT) (xs := p.touches) (ρ1 := [.dat (.tup [.str p.name, .str p.mode, .int p.first, .int p.last, .tup (p.touches.map encT), .int p.glide, .str p.tail]), .dat (.int L), .dat (.str p.tail), .dat (.str p.mode), .dat (.int p.first), .dat (.tup (p.touches.map encT)), .dat (.int p.glide), .dat (.int (endM p L)), .own false (.lst [.int p.first, .int (p.first + 1), .int (endM p L)]), .no, .no, .no]) rfl
    (fun ys ρ => ∃ x y z, ρ = [.dat (.tup [.str p.name, .str p.mode, .int p.first, .int p.last, .tup (p.touches.map encT), .int p.glide, .str p.tail]), .dat (.int L), .dat (.str p.tail), .dat (.str p.mode), .dat (.int p.first), .dat (.tup (p.touches.map encT)), .dat (.int p.glide), .dat (.int (endM p L)), .own false (.lst (([p.first, p.first + 1, endM p L] ++ ys.flatMap fun q => q.1 :: rngI q.2 (minI (q.2 + S) (endM p L) + 1)).map D.int)), x, y, z]) ⟨_, _, _, rfl⟩ ?_ ?_
  · rintro ys q zs ρ e ⟨x, y, z, rfl⟩
    refine ⟨(), _, rfl, ?_⟩
    have hq := touches_in h.tok q (by rw [e]; exact List.mem_append_right _ List.mem_cons_self)
    have hfi := h.rng
    have hm := minI_le (q.2 + S) (endM p L)
    have hif : (if gliding p.mode = true then D.int p.glide else D.int 0) = D.int S := by
      rw [← hS]
      split <;> rfl
    have hmin : dMin [.int (q.2 + S), .int (endM p L)] = some (.int (minI (q.2 + S) (endM p L))) := rfl
    have hlr : dListR [.int q.2, .int (minI (q.2 + S) (endM p L) + 1)] = some (.lst ((rngI q.2 (minI (q.2 + S) (endM p L) + 1)).map D.int)) := by
      rw [← rngD_I]
      exact if_pos ⟨by omega, by omega, by omega, by omega, by omega⟩
    have hlen : ([p.first, p.first + 1, endM p L] ++ ys.flatMap fun q => q.1 :: rngI q.2 (minI (q.2 + S) (endM p L) + 1)).length + (q.1 :: rngI q.2 (minI (q.2 + S) (endM p L) + 1)).length ≤ 700 := by
      have e2 : (edgesM p L).length = ([p.first, p.first + 1, endM p L] ++ (ys ++ q :: zs).flatMap fun q => q.1 :: rngI q.2 (minI (q.2 + S) (endM p L) + 1)).length := by
        unfold edgesM
        rw [hS, e]
      rw [e2, List.flatMap_append, List.flatMap_cons] at hE
      simp only [List.length_append] at hE ⊢
      omega
    have hcat : dAdd (.lst [.int q.1]) (.lst ((rngI q.2 (minI (q.2 + S) (endM p L) + 1)).map D.int)) = some (.lst ((q.1 :: rngI q.2 (minI (q.2 + S) (endM p L) + 1)).map D.int)) := by
      refine if_pos (len_le ?_)
      rw [List.length_map]
      rw [List.length_cons] at hlen
      simp only [List.length_cons, List.length_nil]
      omega
    refine_lift' st [hg]
    rw [hif]
    generalize hR : q.1 :: rngI q.2 (minI (q.2 + S) (endM p L) + 1) = R at hlen hcat
    generalize hA : [p.first, p.first + 1, endM p L] ++ (ys.flatMap fun q => q.1 :: rngI q.2 (minI (q.2 + S) (endM p L) + 1)) = A at hlen
    refine st_one (st_ext (es := R.map D.int) (fs := A.map D.int) rfl (by refine_lift' ev [hmin, hlr, hcat]) rfl (len_le (by rw [List.length_map, List.length_map]; omega)) ?_)
    refine ⟨.dat (.int q.1), .dat (.int q.2), .dat (.int S), ?_⟩
    have e3 : [p.first, p.first + 1, endM p L] ++ ((ys ++ [q]).flatMap fun q => q.1 :: rngI q.2 (minI (q.2 + S) (endM p L) + 1)) = A ++ R := by
      rw [List.flatMap_append, List.flatMap_cons, List.flatMap_nil, List.append_nil, ← List.append_assoc, hA, hR]
    rw [e3, List.map_append]
    rfl
  · rintro ρ ⟨x, y, z, rfl⟩
    refine_lift' st
    refine rq_rt ?_
    unfold edgesM
    rw [hS]
end
end My
set_option exponentiation.threshold 20000
namespace My
open PySem PySem.Spec PyProof.Rows L2 DL
/-- the pairs of neighbours -/
def segsM : Int → List Int → List (Int × Int)
  | _, [] => []
  | a, b :: r => (a, b) :: segsM b r
def edgesAll (L : Int) (ps : List Ps) : List Int := [0, L] ++ ps.flatMap fun p => edgesM p L
theorem edges_in {p : Ps} {L e : Int} (h : BodyOk L p) (he : e ∈ edgesM p L) : 0 ≤ e ∧ e ≤ L := by
  have h1 := h.rng
  have h2 : p.last ≤ endM p L ∧ endM p L ≤ L := by
    unfold endM
    split <;> omega
  unfold edgesM at he
  rcases List.mem_append.mp he with he | he
  · simp only [List.mem_cons, List.not_mem_nil, or_false] at he
    omega
  · obtain ⟨q, hq, he⟩ := List.mem_flatMap.mp he
    have h3 := touches_in h.tok q hq
    rcases List.mem_cons.mp he with rfl | he
    · omega
    · have := mem_rngI.mp he
      have := minI_le (q.2 + (if gliding p.mode then p.glide else 0)) (endM p L)
      omega
theorem edgesAll_in {L e : Int} {ps : List Ps} (hL : 1 ≤ L) (h : ∀ p ∈ ps, BodyOk L p) (he : e ∈ edgesAll L ps) : 0 ≤ e ∧ e ≤ L := by
  unfold edgesAll at he
  rcases List.mem_append.mp he with he | he
  · simp only [List.mem_cons, List.not_mem_nil, or_false] at he
    omega
  · obtain ⟨p, hp, he⟩ := List.mem_flatMap.mp he
    exact edges_in (h p hp) he
/-- the segments of tracks of a length with passes -/
def segsOf (L : Int) (ps : List Ps) : List (Int × Int) := match sortU (edgesAll L ps) with
  | [] => []
  | a :: r => segsM a r
/-- stretches one behind the other, from a to b -/
inductive Run : Int → List (Int × Int) → Int → Prop
  | nil (a : Int) : Run a [] a
  | cons {a b c : Int} {r : List (Int × Int)} : a < b → Run b r c → Run a ((a, b) :: r) c
theorem segsM_run : ∀ (a : Int) (r : List Int), (a :: r).Pairwise (· < ·) → Run a (segsM a r) ((a :: r).getLast (by simp))
  | a, [], _ => .nil a
  | a, b :: r, h => by
    obtain ⟨h1, h2⟩ := List.pairwise_cons.mp h
    rw [segsM, List.getLast_cons (by simp)]
    exact .cons (h1 b List.mem_cons_self) (segsM_run b r h2)
theorem segsM_free {e : Int} : ∀ (a : Int) (r : List Int), (a :: r).Pairwise (· < ·) → e ∈ a :: r → ∀ s ∈ segsM a r, e ≤ s.1 ∨ s.2 ≤ e
  | a, [], _, _, s, hs => absurd hs List.not_mem_nil
  | a, b :: r, h, he, s, hs => by
    obtain ⟨h1, h2⟩ := List.pairwise_cons.mp h
    have lb := h1 b List.mem_cons_self
    rw [segsM] at hs
    rcases List.mem_cons.mp hs with rfl | hs2
    · rcases List.mem_cons.mp he with rfl | he
      · exact .inl (Int.le_refl _)
      · rcases List.mem_cons.mp he with rfl | he
        · exact .inr (Int.le_refl _)
        · exact .inr (Int.le_of_lt ((List.pairwise_cons.mp h2).1 e he))
    · rcases List.mem_cons.mp he with rfl | he
      · have : ∀ (c : Int) (l : List Int), (c :: l).Pairwise (· < ·) → ∀ s ∈ segsM c l, c ≤ s.1 := by
          intro c l
          induction l generalizing c with
          | nil => intro _ s hs; exact absurd hs List.not_mem_nil
          | cons d l ih =>
            intro hp s hs
            obtain ⟨p1, p2⟩ := List.pairwise_cons.mp hp
            rw [segsM] at hs
            rcases List.mem_cons.mp hs with rfl | hs
            · exact Int.le_refl _
            · exact Int.le_trans (Int.le_of_lt (p1 d List.mem_cons_self)) (ih d p2 s hs)
        have := this b r h2 s hs2
        exact .inl (by omega)
      · exact segsM_free b r h2 he s hs2
theorem Run.le {a c : Int} {r : List (Int × Int)} (h : Run a r c) : a ≤ c := by
  induction h with
  | nil => exact Int.le_refl _
  | cons h _ ih => omega
theorem Run.in {a c : Int} {r : List (Int × Int)} (h : Run a r c) : ∀ s ∈ r, a ≤ s.1 ∧ s.1 < s.2 ∧ s.2 ≤ c := by
  induction h with
  | nil => intro s hs; exact absurd hs List.not_mem_nil
  | @cons a b c r h1 h2 ih =>
    intro s hs
    have := h2.le
    rcases List.mem_cons.mp hs with rfl | hs
    · exact ⟨Int.le_refl _, h1, this⟩
    · have := ih s hs
      omega
theorem Run.cover {a c : Int} {r : List (Int × Int)} (h : Run a r c) : ∀ t, a ≤ t → t < c → ∃ s ∈ r, s.1 ≤ t ∧ t < s.2 := by
  induction h with
  | nil => intro t h1 h2; omega
  | @cons a b c r h1 h2 ih =>
    intro t t1 t2
    by_cases hc : t < b
    · exact ⟨(a, b), List.mem_cons_self, t1, hc⟩
    · obtain ⟨s, hs, hh⟩ := ih t (by omega) t2
      exact ⟨s, List.mem_cons_of_mem _ hs, hh⟩
theorem segs_run {L : Int} {ps : List Ps} (hL : 1 ≤ L) (h : ∀ p ∈ ps, BodyOk L p) : Run 0 (segsOf L ps) L := by
  have ris := sortU_ris (edgesAll L ps)
  have m0 : (0 : Int) ∈ sortU (edgesAll L ps) := mem_sortU.mpr (by simp [edgesAll])
  have mL : L ∈ sortU (edgesAll L ps) := mem_sortU.mpr (by simp [edgesAll])
  have hin : ∀ e ∈ sortU (edgesAll L ps), 0 ≤ e ∧ e ≤ L := fun e he => edgesAll_in hL h (mem_sortU.mp he)
  unfold segsOf
  cases hs : sortU (edgesAll L ps) with
  | nil => rw [hs] at m0; cases m0
  | cons a r =>
    rw [hs] at ris m0 mL hin
    have ha : a = 0 := by
      rcases List.mem_cons.mp m0 with e | e
      · exact e.symm
      · have := (List.pairwise_cons.mp ris).1 0 e
        have := (hin a List.mem_cons_self).1
        omega
    have hl : (a :: r).getLast (by simp) = L := by
      have lm := hin _ (List.getLast_mem (l := a :: r) (by simp))
      have : ∀ (l : List Int) (hn : l ≠ []), l.Pairwise (· < ·) → ∀ x ∈ l, x ≤ l.getLast hn := by
        intro l
        induction l with
        | nil => intro hn; exact absurd rfl hn
        | cons y l ih =>
          intro _ hp x hx
          obtain ⟨p1, p2⟩ := List.pairwise_cons.mp hp
          by_cases hl : l = []
          · subst hl
            rcases List.mem_cons.mp hx with rfl | hx
            · exact Int.le_refl _
            · cases hx
          · rw [List.getLast_cons hl]
            rcases List.mem_cons.mp hx with rfl | hx
            · exact Int.le_of_lt (p1 _ (List.getLast_mem hl))
            · exact ih hl p2 x hx
      have := this (a :: r) (by simp) ris L mL
      omega
    have := segsM_run a r ris
    rw [hl] at this
    subst ha
    exact this
theorem segs_free {L : Int} {ps : List Ps} {p : Ps} (hp : p ∈ ps) : ∀ s ∈ segsOf L ps, Free p L s.1 s.2 := by
  intro s hs e he
  have ris := sortU_ris (edgesAll L ps)
  have me : e ∈ sortU (edgesAll L ps) := mem_sortU.mpr (List.mem_append_right _ (List.mem_flatMap.mpr ⟨p, hp, he⟩))
  unfold segsOf at hs
  cases hx : sortU (edgesAll L ps) with
  | nil => rw [hx] at me; cases me
  | cons a r =>
    rw [hx] at ris me hs
    exact segsM_free a r ris me s hs
theorem zip_segs : ∀ (a : Int) (r : List Int), List.zipWith pairD ((a :: r).map D.int) (r.map D.int) = (segsM a r).map encT
  | a, [] => rfl
  | a, b :: r => by
    rw [List.map_cons, List.map_cons, List.zipWith_cons_cons, segsM, List.map_cons]
    have := zip_segs b r
    rw [List.map_cons] at this
    rw [this]
    rfl
theorem cut_tail {α : Type} (xs : List α) : DL.cutD xs (some 1) none = xs.tail := by
  unfold DL.cutD HT.sIx
  cases xs with
  | nil => simp
  | cons x r => simp
section
variable (C : Addr)
theorem v_segments {L : Int} {ps : List Ps} (hL : 1 ≤ L) (hL2 : L ≤ 1000000000000) (h : ∀ p ∈ ps, BodyOk L p) (few : (edgesAll L ps).length + 1 < 4096) : F_segments C [.int L, .tup (ps.map encP)] = some (.lst ((segsOf L ps).map encT)) := by
  have hss : dSortSet [.lst ((edgesAll L ps).map D.int)] = some (.lst ((sortU (edgesAll L ps)).map D.int)) := by
    unfold dSortSet
    simp only [ints_of_map]
    exact if_pos few
  have hsl : dSl (.lst ((sortU (edgesAll L ps)).map D.int)) (some 1) none = some (.lst ((sortU (edgesAll L ps)).tail.map D.int)) := by
    show some (D.lst (DL.cutD _ _ _)) = _
    rw [cut_tail, List.map_tail]
  have hzip : dListZ [.lst ((sortU (edgesAll L ps)).map D.int), .lst ((sortU (edgesAll L ps)).tail.map D.int)] = some (.lst ((segsOf L ps).map encT)) := by
    have hlen : (sortU (edgesAll L ps)).length ≤ (edgesAll L ps).length := by
      have : ∀ (x : Int) (l : List Int), (putU x l).length ≤ l.length + 1 := by
        intro x l
        induction l with
        | nil => simp [putU]
        | cons y r ih =>
          unfold putU
          split
          · simp
          · split
            · simp
            · simp only [List.length_cons]; omega
      have h2 : ∀ l : List Int, (sortU l).length ≤ l.length := by
        intro l
        induction l with
        | nil => simp [sortU]
        | cons y r ih =>
          have := this y (sortU r)
          show (putU y (sortU r)).length ≤ _
          simp only [List.length_cons]
          omega
      exact h2 _
    unfold dListZ
    simp only
    rw [if_pos (by rw [List.length_map, List.length_map]; have : (4096 : Nat) ≤ sizeLine := by decide
                   omega)]
    unfold segsOf
    cases sortU (edgesAll L ps) with
    | nil => rfl
    | cons a r =>
      rw [List.tail_cons, zip_segs]
  refine retF ?_
  unfold B_segments
  refine_lift' st
  refine st_for (α := Ps) (enc := encP) (xs := ps) (ρ1 := [.dat (.int L), .dat (.tup (ps.map encP)), .own false (.lst [.int 0, .int L]), .no, .no]) rfl
    (fun ys ρ => ∃ x, ρ = [.dat (.int L), .dat (.tup (ps.map encP)), .own false (.lst ((edgesAll L ys).map D.int)), x, .no]) ⟨_, rfl⟩ ?_ ?_
  · rintro ys p zs ρ e ⟨x, rfl⟩
    refine ⟨(), _, rfl, ?_⟩
    have he := v_edges_of C (h p (by rw [e]; exact List.mem_append_right _ List.mem_cons_self)) hL2
    have hlen : (edgesAll L ys).length + (edgesM p L).length ≤ (edgesAll L ps).length := by
      unfold edgesAll
      rw [e, List.flatMap_append, List.flatMap_cons]
      simp only [List.length_append]
      omega
    refine st_one (st_ext (es := (edgesM p L).map D.int) (fs := (edgesAll L ys).map D.int) rfl (by refine_lift' ev [he]) rfl ?_ ?_)
    · rw [List.length_map, List.length_map]
      have : (4096 : Nat) ≤ sizeLine := by decide
      omega
    · refine ⟨.dat (encP p), ?_⟩
      have e4 : edgesAll L (ys ++ [p]) = edgesAll L ys ++ edgesM p L := by
        unfold edgesAll
        rw [List.flatMap_append, List.flatMap_cons, List.flatMap_nil, List.append_nil, ← List.append_assoc]
      rw [e4, List.map_append]
      rfl
  · rintro ρ ⟨x, rfl⟩
    refine_lift' st [hss]
    refine_lift' st [hsl, hzip]
    exact rq_rt rfl
end
end My
set_option exponentiation.threshold 20000
namespace My
open PySem PySem.Spec PyProof.Rows L2 DL
def Norm : Int → List (Int × Int) → Prop
  | _, [] => True
  | lo, s :: r => lo < s.1 ∧ s.1 < s.2 ∧ Norm s.2 r
def Mem (t : Int) (l : List (Int × Int)) : Prop := ∃ s ∈ l, s.1 ≤ t ∧ t < s.2
theorem Norm.low : ∀ {lo : Int} {l : List (Int × Int)}, Norm lo l → ∀ s ∈ l, lo < s.1 ∧ s.1 < s.2
  | _, [], _, s, hs => absurd hs List.not_mem_nil
  | lo, x :: r, h, s, hs => by
    obtain ⟨h1, h2, h3⟩ := h
    rcases List.mem_cons.mp hs with rfl | hs
    · exact ⟨h1, h2⟩
    · have := Norm.low h3 s hs
      omega
theorem Norm.snoc {s : Int × Int} : ∀ {lo : Int} {l : List (Int × Int)}, Norm lo l → lo < s.1 → (∀ x ∈ l, x.2 < s.1) → s.1 < s.2 → Norm lo (l ++ [s])
  | _, [], _, h1, _, h3 => ⟨h1, h3, trivial⟩
  | _, x :: r, h, _, h2, h3 => ⟨h.1, h.2.1, Norm.snoc h.2.2 (h2 x List.mem_cons_self) (fun y hy => h2 y (List.mem_cons_of_mem _ hy)) h3⟩
theorem Norm.init {s : Int × Int} : ∀ {lo : Int} {l : List (Int × Int)}, Norm lo (l ++ [s]) → Norm lo l ∧ lo < s.1 ∧ (∀ x ∈ l, x.2 < s.1) ∧ s.1 < s.2
  | _, [], h => ⟨trivial, h.1, fun _ z => absurd z List.not_mem_nil, h.2.1⟩
  | lo, x :: r, h => by
    obtain ⟨a, b, c, d⟩ := Norm.init (l := r) h.2.2
    have h1 := h.1
    have h2 := h.2.1
    refine ⟨⟨h1, h2, a⟩, by omega, fun y hy => ?_, d⟩
    rcases List.mem_cons.mp hy with rfl | hy
    · exact b
    · exact c y hy
/-- what the loop makes of stretches whose beginnings ascend -/
def addS (l : List (Int × Int)) (s : Int × Int) : List (Int × Int) := match l.getLast? with
  | none => [s]
  | some x => if s.1 ≤ x.2 then l.dropLast ++ [(x.1, if x.2 < s.2 then s.2 else x.2)] else l ++ [s]
theorem addS_snoc (l : List (Int × Int)) (x s : Int × Int) : addS (l ++ [x]) s = if s.1 ≤ x.2 then l ++ [(x.1, if x.2 < s.2 then s.2 else x.2)] else l ++ [x] ++ [s] := by
  unfold addS
  rw [List.getLast?_concat, List.dropLast_concat]
theorem snoc_of {α : Type} : ∀ (l : List α), l = [] ∨ ∃ r x, l = r ++ [x] := fun l => by
  cases e : l.reverse with
  | nil => exact .inl (List.reverse_eq_nil_iff.mp e)
  | cons x r => exact .inr ⟨r.reverse, x, by rw [← List.reverse_reverse l, e, List.reverse_cons]⟩
theorem Mem.app {t : Int} {l m : List (Int × Int)} : Mem t (l ++ m) ↔ Mem t l ∨ Mem t m := by
  constructor
  · rintro ⟨s, hs, k⟩
    rcases List.mem_append.mp hs with hs | hs
    · exact .inl ⟨s, hs, k⟩
    · exact .inr ⟨s, hs, k⟩
  · rintro (⟨s, hs, k⟩ | ⟨s, hs, k⟩)
    · exact ⟨s, List.mem_append_left _ hs, k⟩
    · exact ⟨s, List.mem_append_right _ hs, k⟩
theorem Mem.one {t : Int} {s : Int × Int} : Mem t [s] ↔ s.1 ≤ t ∧ t < s.2 := by
  constructor
  · rintro ⟨x, hx, k⟩
    rw [List.mem_singleton.mp hx] at k
    exact k
  · exact fun k => ⟨s, List.mem_singleton.mpr rfl, k⟩
/-- the loop's promise -/
structure Joined (lo : Int) (ys l : List (Int × Int)) : Prop where
  nm : Norm lo l
  mem : ∀ t, Mem t l ↔ Mem t ys
  from' : ∀ s ∈ l, ∃ y ∈ ys, s.1 = y.1
  len : l.length ≤ ys.length
theorem Joined.add {lo : Int} {ys l : List (Int × Int)} {s : Int × Int} (h : Joined lo ys l) (h1 : lo < s.1) (h2 : s.1 < s.2) (h3 : ∀ y ∈ ys, y.1 ≤ s.1) : Joined lo (ys ++ [s]) (addS l s) := by
  have hl := h.len
  rcases snoc_of l with rfl | ⟨r, x, rfl⟩
  · refine ⟨⟨h1, h2, trivial⟩, fun t => ?_, fun z hz => ⟨s, List.mem_append_right _ (List.mem_singleton.mpr rfl), by rw [List.mem_singleton.mp hz]⟩, by simp [addS]⟩
    rw [show addS [] s = [s] from rfl, Mem.app, ← h.mem t]
    constructor
    · exact .inr
    · rintro (⟨_, z, _⟩ | z)
      · cases z
      · exact z
  · obtain ⟨n1, n2, n3, n4⟩ := h.nm.init
    obtain ⟨y, hy, ey⟩ := h.from' x (List.mem_append_right _ (List.mem_singleton.mpr rfl))
    have hx := h3 y hy
    rw [addS_snoc]
    by_cases c : s.1 ≤ x.2
    · rw [if_pos c]
      have big : (if x.2 < s.2 then s.2 else x.2) = s.2 ∧ x.2 < s.2 ∨ (if x.2 < s.2 then s.2 else x.2) = x.2 ∧ s.2 ≤ x.2 := by
        split <;> omega
      generalize (if x.2 < s.2 then s.2 else x.2) = m at big
      refine ⟨n1.snoc (s := (x.1, m)) n2 n3 (by show x.1 < m; omega), fun t => ?_, fun z hz => ?_, by simp only [List.length_append, List.length_cons, List.length_nil] at hl ⊢; omega⟩
      · rw [Mem.app, Mem.app, ← h.mem t, Mem.app, Mem.one, Mem.one, Mem.one]
        show Mem t r ∨ (x.1 ≤ t ∧ t < m) ↔ _
        constructor
        · rintro (k | k)
          · exact .inl (.inl k)
          · by_cases ct : t < x.2
            · exact .inl (.inr ⟨k.1, ct⟩)
            · exact .inr (by omega)
        · rintro ((k | k) | k)
          · exact .inl k
          · exact .inr (by omega)
          · exact .inr (by omega)
      · rcases List.mem_append.mp hz with hz | hz
        · obtain ⟨w, hw, ew⟩ := h.from' z (List.mem_append_left _ hz)
          exact ⟨w, List.mem_append_left _ hw, ew⟩
        · rw [List.mem_singleton.mp hz]
          exact ⟨y, List.mem_append_left _ hy, ey⟩
    · rw [if_neg c]
      refine ⟨h.nm.snoc h1 (fun z hz => ?_) h2, fun t => ?_, fun z hz => ?_, by simp only [List.length_append, List.length_cons, List.length_nil] at hl ⊢; omega⟩
      · rcases List.mem_append.mp hz with hz | hz
        · have := n3 z hz
          omega
        · rw [List.mem_singleton.mp hz]
          omega
      · rw [Mem.app (l := r ++ [x]), Mem.app (l := ys), h.mem t]
      · rcases List.mem_append.mp hz with hz | hz
        · obtain ⟨w, hw, ew⟩ := h.from' z hz
          exact ⟨w, List.mem_append_left _ hw, ew⟩
        · rw [List.mem_singleton.mp hz]
          exact ⟨s, List.mem_append_right _ (List.mem_singleton.mpr rfl), rfl⟩
theorem atI_last (xs : List D) (d : D) : atI (xs ++ [d]) (-1) = some d := ix_last xs d
theorem ixN_last (n : Nat) : ixN (n + 1) (-1) = some n := by
  unfold ixN
  rw [if_neg (by omega), if_pos (by omega)]
  congr 1
  omega
theorem e_andF {ρ ρ1 : Cs} {t t' : Mo Bool} (h : t ρ = some (false, ρ1)) : mAnd t t' ρ = some (false, ρ1) := by
  refine (e_andC (q := false) h fun z => by cases z)
theorem set_last {α : Type} (xs : List α) (x y : α) : (xs ++ [x]).set xs.length y = xs ++ [y] := by
  rw [List.set_append_right _ _ (Nat.le_refl _), Nat.sub_self]
  rfl
def leP (p q : Int × Int) : Bool := decide (p.1 < q.1 ∨ (p.1 = q.1 ∧ p.2 ≤ q.2))
theorem leD_T (p q : Int × Int) : leD (encT p) (encT q) = leP p q := by
  have := congrFun (congrFun (PySem.W.dataLe_ii (fun b : Int × Int => b.1) (fun b => b.2)) p) q
  exact this
theorem sorted_T {xs : List (Int × Int)} (hl : xs.length ≤ sizeLine) : dSorted [.lst (xs.map encT)] = some (.lst ((xs.mergeSort leP).map encT)) := by
  have al : alikes (toPs (xs.map encT)) = true := by
    rw [toPs_map, List.map_map]
    refine List.all_eq_true.mpr fun a ha => List.all_eq_true.mpr fun b hb => ?_
    obtain ⟨x, _, rfl⟩ := List.mem_map.mp ha
    obtain ⟨y, _, rfl⟩ := List.mem_map.mp hb
    simp [encT, toP, toPs, PySem.W.alike, PySem.W.alikeAll]
  have so : sortable (toPs (xs.map encT)) = true := by
    rw [toPs_map, List.map_map]
    unfold sortable
    rw [Bool.or_eq_true_iff]
    refine .inl (List.all_eq_true.mpr fun a ha => ?_)
    obtain ⟨x, _, rfl⟩ := List.mem_map.mp ha
    simp [encT, toP, toPs, hasHead]
  have lo : lowP (toPs (xs.map encT)) = true := by
    rw [toPs_map, List.map_map]
    refine List.all_eq_true.mpr fun a ha => ?_
    obtain ⟨x, _, rfl⟩ := List.mem_map.mp ha
    simp [encT, toP, toPs, PyData.depth, PyData.depthAll]
  unfold dSorted
  simp only
  rw [if_pos ⟨plains_map encT (fun _ => rfl) xs, al, so, lo, by rw [List.length_map]; exact hl⟩]
  congr 2
  exact (List.map_mergeSort (r := leP) (s := leD) (f := encT) fun a _ b _ => (leD_T a b).symm).symm
theorem sorted_firsts (xs : List (Int × Int)) : (xs.mergeSort leP).Pairwise fun p q => p.1 ≤ q.1 := by
  have h : (xs.mergeSort leP).Pairwise fun p q => leP p q = true := by
    refine List.pairwise_mergeSort (fun a b c h1 h2 => ?_) (fun a b => ?_) xs
    · unfold leP at *
      simp only [decide_eq_true_eq] at *
      omega
    · unfold leP
      rw [Bool.or_eq_true_iff]
      simp only [decide_eq_true_eq]
      omega
  refine h.imp fun {p q} hh => ?_
  unfold leP at hh
  simp only [decide_eq_true_eq] at hh
  omega
theorem enc_snoc (r : List (Int × Int)) (x : Int × Int) : (r ++ [x]).map encT = r.map encT ++ [encT x] := by rw [List.map_append]; rfl
section
variable (C : Addr)
set_option maxHeartbeats 1000000 in
theorem v_longest {xs : List (Int × Int)} {lo : Int} (hx : ∀ s ∈ xs, lo < s.1 ∧ s.1 < s.2) (hl : xs.length ≤ 100000) : ∃ l, F_longest C [.lst (xs.map encT)] = some (.tup (l.map encT)) ∧ Joined lo xs l := by
  have hs := sorted_T (xs := xs) (Nat.le_trans hl (by decide))
  have hp := List.mergeSort_perm xs leP
  have hlen : (xs.mergeSort leP).length = xs.length := hp.length_eq
  have hpw := sorted_firsts xs
  generalize hm : xs.mergeSort leP = ms at hs hp hlen hpw
  refine (?_ : ∃ d, F_longest C [.lst (xs.map encT)] = some d ∧ ∃ l, d = .tup (l.map encT) ∧ Joined lo xs l).elim fun d z => z.2.elim fun l y => ⟨l, by rw [z.1, y.1], y.2⟩
  refine retFE ?_
  unfold B_longest
  refine_lift' st
  refine st_for (α := Int × Int) (enc := encT) (xs := ms) (ρ1 := [.dat (.lst (xs.map encT)), .own false (.lst []), .no, .no]) (by unfold iSeq; refine e_bd (e_fn (e_acons (e_var rfl) e_anil) hs) (e_l rfl))
    (fun ys ρ => ∃ l x y, ρ = [.dat (.lst (xs.map encT)), .own false (.lst (l.map encT)), x, y] ∧ Joined lo ys l) ⟨[], _, _, rfl, ⟨trivial, fun t => Iff.rfl, fun _ z => absurd z List.not_mem_nil, Nat.le_refl _⟩⟩ ?_ ?_
  · rintro ys s zs ρ e ⟨l, x, y, rfl, J⟩
    refine ⟨(), [.dat (.lst (xs.map encT)), .own false (.lst (l.map encT)), .dat (.int s.1), .dat (.int s.2)], rfl, ?_⟩
    have hsx := hx s (hp.mem_iff.mp (by rw [e]; exact List.mem_append_right _ List.mem_cons_self))
    have J2 := J.add hsx.1 hsx.2 fun y hy => by
      rw [e] at hpw
      exact (List.pairwise_append.mp hpw).2.2 y hy s List.mem_cons_self
    have hlz : l.length < sizeLine := by
      have h1 := J.len
      have h2 : ys.length ≤ ms.length := by rw [e, List.length_append]; omega
      have : (100000 : Nat) < sizeLine := by decide
      omega
    have app : mTup (aCons (mVar 2) (aCons (mVar 3) aNil)) [.dat (.lst (xs.map encT)), .own false (.lst (l.map encT)), .dat (.int s.1), .dat (.int s.2)] = some (encT s, [.dat (.lst (xs.map encT)), .own false (.lst (l.map encT)), .dat (.int s.1), .dat (.int s.2)]) := by
      unfold encT
      refine_lift' ev
    rcases snoc_of l with rfl | ⟨r, z, rfl⟩
    · refine sw_if (st_if (p := false) (e_andF (e_truO (p := false) (d := .lst []) rfl rfl)) (fun z => by cases z) fun _ => ?_)
      refine st_app rfl app rfl (by rw [List.length_map]; exact hlz) ?_
      exact ⟨[s], .dat (.int s.1), .dat (.int s.2), rfl, J2⟩
    · rw [addS_snoc] at J2
      have ez : (r ++ [z]).map encT = r.map encT ++ [encT z] := enc_snoc r z
      rw [ez] at app ⊢
      have hat : atI (r.map encT ++ [encT z]) (-1) = some (encT z) := atI_last _ _
      have htru : mTruV 1 [.dat (.lst (xs.map encT)), .own false (.lst (r.map encT ++ [encT z])), .dat (.int s.1), .dat (.int s.2)] = some (true, [.dat (.lst (xs.map encT)), .own false (.lst (r.map encT ++ [encT z])), .dat (.int s.1), .dat (.int s.2)]) := e_truO (p := false) (d := .lst (r.map encT ++ [encT z])) rfl (by show some (!(r.map encT ++ [encT z]).isEmpty) = _; cases r <;> rfl)
      have i0 : dIx (encT z) (.int 0) = some (.int z.1) := rfl
      have i1 : dIx (encT z) (.int 1) = some (.int z.2) := rfl
      have hmx : dMax [.int z.2, .int s.2] = some (.int (if z.2 < s.2 then s.2 else z.2)) := rfl
      have htest : mAnd (mTruV 1) (mTst (mOp dLe (mVar 2) (mOp dIx (mIxV 1 (mUn dNeg (mC (.int 1)))) (mC (.int 1))))) [.dat (.lst (xs.map encT)), .own false (.lst (r.map encT ++ [encT z])), .dat (.int s.1), .dat (.int s.2)] = some (true && decide (s.1 ≤ z.2), [.dat (.lst (xs.map encT)), .own false (.lst (r.map encT ++ [encT z])), .dat (.int s.1), .dat (.int s.2)]) :=
        e_and htru (by refine_lift' ev [hat, i1])
      rw [Bool.true_and] at htest
      refine sw_if (st_if htest (fun hc => ?_) fun hc => ?_)
      · have hc := of_decide_eq_true hc
        rw [if_pos hc] at J2
        have hv : mTup (aCons (mOp dIx (mIxV 1 (mUn dNeg (mC (.int 1)))) (mC (.int 0))) (aCons (mFn dMax (aCons (mOp dIx (mIxV 1 (mUn dNeg (mC (.int 1)))) (mC (.int 1))) (aCons (mVar 3) aNil))) aNil)) [.dat (.lst (xs.map encT)), .own false (.lst (r.map encT ++ [encT z])), .dat (.int s.1), .dat (.int s.2)] = some (encT (z.1, if z.2 < s.2 then s.2 else z.2), [.dat (.lst (xs.map encT)), .own false (.lst (r.map encT ++ [encT z])), .dat (.int s.1), .dat (.int s.2)]) := by
          unfold encT
          refine_lift' ev [hat, i0, i1, hmx]
        refine st_asg hv (g_putE (i := 1) (p := false) (q := false) (ds := r.map encT ++ [encT z]) (es := r.map encT ++ [encT z]) (n := -1) (j := (r.map encT).length) rfl (by refine_lift' ev) rfl (by rw [List.length_append, List.length_singleton]; exact ixN_last _)) ?_
        rw [set_last]
        refine ⟨r ++ [(z.1, if z.2 < s.2 then s.2 else z.2)], .dat (.int s.1), .dat (.int s.2), ?_, J2⟩
        rw [enc_snoc]
        rfl
      · have hc := of_decide_eq_false hc
        rw [if_neg hc] at J2
        refine st_app rfl app rfl (by rw [← ez, List.length_map]; exact hlz) ?_
        refine ⟨r ++ [z] ++ [s], .dat (.int s.1), .dat (.int s.2), ?_, J2⟩
        rw [enc_snoc, ez]
        rfl
  · rintro ρ ⟨l, x, y, rfl, J⟩
    refine_lift' st
    refine rq_rt ⟨l, rfl, ?_⟩
    have hmem : ∀ t, Mem t ms ↔ Mem t xs := fun t => ⟨fun ⟨s, hs, k⟩ => ⟨s, hp.mem_iff.mp hs, k⟩, fun ⟨s, hs, k⟩ => ⟨s, hp.mem_iff.mpr hs, k⟩⟩
    exact ⟨J.nm, fun t => (J.mem t).trans (hmem t), fun s hs => (J.from' s hs).imp fun y hy => ⟨hp.mem_iff.mp hy.1, hy.2⟩, by rw [← hlen]; exact J.len⟩
end
end My
set_option exponentiation.threshold 20000
namespace My
open PySem PySem.Spec PyProof.Rows L2 DL
theorem eqv_tm (a b : Tm) : PyData.eqv (toP (encTm a)) (toP (encTm b)) = true ↔ a = b := by
  obtain ⟨n, s, w1, w2⟩ := a
  obtain ⟨n', s', w1', w2'⟩ := b
  simp only [encTm, encW, toP, toPs, PyData.eqv, PyData.eqvAll, Bool.and_eq_true, Bool.and_true, beq_iff_eq, Tm.mk.injEq, Prod.mk.injEq]
theorem eqvAll_tm : ∀ ts us : List Tm, PyData.eqvAll (toPs (ts.map encTm)) (toPs (us.map encTm)) = true ↔ ts = us
  | [], [] => by simp [toPs, PyData.eqvAll]
  | [], u :: us => by simp [toPs, PyData.eqvAll]
  | t :: ts, [] => by simp [toPs, PyData.eqvAll]
  | t :: ts, u :: us => by
    simp only [List.map_cons, toPs, PyData.eqvAll, Bool.and_eq_true, eqv_tm, eqvAll_tm ts us, List.cons.injEq]
/-- whether the forms of a tick are unlike -/
def differB (L : Int) (ps qs : List Ps) (t : Int) : Bool := !PyData.eqv (toP (formD L ps t)) (toP (formD L qs t))
theorem differB_iff {L : Int} {ps qs : List Ps} (h : PssOk L ps) (h' : PssOk L qs) (t : Int) : differB L ps qs t = false ↔ formT L ps t = formT L qs t := by
  unfold differB
  rw [formD_T h, formD_T h']
  simp only [toP, PyData.eqv, Bool.not_eq_false']
  exact eqvAll_tm _ _
theorem mvT_back {z t a : Int} {x : Tm} (hz : x.at' = z ∨ x.at' < a) (ht : a ≤ t) : mvT t z (mvT z t x) = x := by
  unfold mvT
  by_cases c : x.at' = z
  · rw [if_pos c, if_pos rfl, ← c]
  · rw [if_neg c, if_neg (by omega)]
theorem seg_differ {L a b : Int} {ps qs : List Ps} (h : PssOk L ps) (h' : PssOk L qs) (s : Seg L ps a b) (s' : Seg L qs a b) (hab : a < b) : ∀ t, a ≤ t → t < b → differB L ps qs t = differB L ps qs (b - 1) := by
  intro t t1 t2
  have key : formT L ps t = formT L qs t ↔ formT L ps (b - 1) = formT L qs (b - 1) := by
    rw [s.mv t t1 t2, s'.mv t t1 t2]
    constructor
    · intro e
      have e2 := congrArg (List.map (mvT t (b - 1))) e
      rw [List.map_map, List.map_map] at e2
      have bk : ∀ l : List Tm, (∀ x ∈ l, x.at' = b - 1 ∨ x.at' < a) → l.map (mvT t (b - 1) ∘ mvT (b - 1) t) = l := fun l hl => (List.map_congr_left fun x hx => mvT_back (hl x hx) t1).trans (List.map_id _)
      rw [bk _ s.pl, bk _ s'.pl] at e2
      exact e2
    · exact fun e => by rw [e]
  have i1 := differB_iff h h' t
  have i2 := differB_iff h h' (b - 1)
  cases e1 : differB L ps qs t with
  | false => exact (i2.mpr (key.mp (i1.mp e1))).symm
  | true =>
    cases e2 : differB L ps qs (b - 1) with
    | true => rfl
    | false => rw [i1.mpr (key.mpr (i2.mp e2))] at e1; cases e1
/-- what two tracks have in common for what follows -/
structure Two (L : Int) (ps qs : List Ps) : Prop where
  p : PssOk L ps
  q : PssOk L qs
  l1 : 1 ≤ L
  l2 : L ≤ 1000000000000
  few : (edgesAll L (ps ++ qs)).length + 1 < 4096
theorem Two.body {L : Int} {ps qs : List Ps} (h : Two L ps qs) : ∀ p ∈ ps ++ qs, BodyOk L p := fun p hp => by
  rcases List.mem_append.mp hp with hp | hp
  · exact (b_of_pass (h.p.ok p hp)).1
  · exact (b_of_pass (h.q.ok p hp)).1
theorem Two.run {L : Int} {ps qs : List Ps} (h : Two L ps qs) : Run 0 (segsOf L (ps ++ qs)) L := segs_run h.l1 h.body
theorem Two.seg {L : Int} {ps qs : List Ps} (h : Two L ps qs) : ∀ s ∈ segsOf L (ps ++ qs), ∀ t, s.1 ≤ t → t < s.2 → differB L ps qs t = differB L ps qs (s.2 - 1) := fun s hs t t1 t2 => by
  have hr := h.run.in s hs
  exact seg_differ h.p h.q (seg_of h.p (fun p hp => segs_free (List.mem_append_left _ hp) s hs) hr.1 hr.2.1) (seg_of h.q (fun p hp => segs_free (List.mem_append_right _ hp) s hs) hr.1 hr.2.1) hr.2.1 t t1 t2
theorem segs_few {L : Int} {ps : List Ps} : (segsOf L ps).length ≤ (edgesAll L ps).length := by
  have h1 : ∀ (x : Int) (l : List Int), (putU x l).length ≤ l.length + 1 := by
    intro x l
    induction l with
    | nil => simp [putU]
    | cons y r ih =>
      unfold putU
      split
      · simp
      · split
        · simp
        · simp only [List.length_cons]; omega
  have h2 : ∀ l : List Int, (sortU l).length ≤ l.length := by
    intro l
    induction l with
    | nil => simp [sortU]
    | cons y r ih =>
      have := h1 y (sortU r)
      show (putU y (sortU r)).length ≤ _
      simp only [List.length_cons]
      omega
  have h3 : ∀ (r : List Int) (a : Int), (segsM a r).length = r.length := by
    intro r
    induction r with
    | nil => intro a; rfl
    | cons b r ih => intro a; rw [segsM, List.length_cons, ih b, List.length_cons]
  have := h2 (edgesAll L ps)
  unfold segsOf
  cases e : sortU (edgesAll L ps) with
  | nil => exact Nat.zero_le _
  | cons a r =>
    rw [e] at this
    simp only [h3]
    simp only [List.length_cons] at this
    omega
section
variable (C : Addr)
/-- the first unlike tick -/
structure Least (L : Int) (ps qs : List Ps) (o : Option Int) : Prop where
  no : o = none → ∀ t, 0 ≤ t → t < L → differB L ps qs t = false
  yes : ∀ m, o = some m → (0 ≤ m ∧ m < L ∧ differB L ps qs m = true) ∧ ∀ t, 0 ≤ t → t < m → differB L ps qs t = false
end
end My
set_option exponentiation.threshold 20000
set_option exponentiation.threshold 20000
set_option exponentiation.threshold 20000
namespace My
open PySem PySem.Spec PyProof.Rows L2 DL
theorem differ_comm {L : Int} {ps qs : List Ps} (h : PssOk L ps) (h' : PssOk L qs) (t : Int) : differB L qs ps t = differB L ps qs t := by
  have i1 := differB_iff h h' t
  have i2 := differB_iff h' h t
  cases e1 : differB L ps qs t with
  | false => exact i2.mpr (i1.mp e1).symm
  | true =>
    cases e2 : differB L qs ps t with
    | true => rfl
    | false => rw [i1.mpr (i2.mp e2).symm] at e1; cases e1
theorem Least.comm {L : Int} {ps qs : List Ps} {o : Option Int} (h : PssOk L ps) (h' : PssOk L qs) (l : Least L qs ps o) : Least L ps qs o := ⟨fun e t t1 t2 => (differ_comm h h' t).symm.trans (l.no e t t1 t2), fun m e => ⟨⟨(l.yes m e).1.1, (l.yes m e).1.2.1, (differ_comm h h' m).symm.trans (l.yes m e).1.2.2⟩, fun t t1 t2 => (differ_comm h h' t).symm.trans ((l.yes m e).2 t t1 t2)⟩⟩
end My
set_option exponentiation.threshold 20000
namespace My
open PySem PySem.Spec PyProof.Rows L2 DL
def gsum (ps : List Ps) : Nat := (ps.map fun p => p.glide.toNat).sum
theorem gsum_app (a b : List Ps) : gsum (a ++ b) = gsum a + gsum b := by unfold gsum; rw [List.map_append, List.sum_append]
theorem gsum_cons (p : Ps) (b : List Ps) : gsum (p :: b) = p.glide.toNat + gsum b := by unfold gsum; rw [List.map_cons, List.sum_cons]
theorem edges_len {p : Ps} {L : Int} (h : BodyOk L p) (s : p.touches.length ≤ 3) : (edgesM p L).length ≤ 9 + 3 * p.glide.toNat := by
  have g0 := h.gl.1
  have : ∀ ts : List (Int × Int), (ts.flatMap fun q => q.1 :: rngI q.2 (minI (q.2 + (if gliding p.mode then p.glide else 0)) (endM p L) + 1)).length ≤ (2 + p.glide.toNat) * ts.length := by
    intro ts
    induction ts with
    | nil => simp
    | cons q ts ih =>
      rw [List.flatMap_cons, List.length_append, List.length_cons, List.length_cons, rngI_len, Nat.mul_succ]
      have := minI_le (q.2 + (if gliding p.mode then p.glide else 0)) (endM p L)
      have : (if gliding p.mode then p.glide else 0) ≤ p.glide := by
        split
        · exact Int.le_refl _
        · exact g0
      omega
  have h1 := this p.touches
  have h2 : (2 + p.glide.toNat) * p.touches.length ≤ (2 + p.glide.toNat) * 3 := Nat.mul_le_mul_left _ s
  unfold edgesM
  simp only [List.cons_append, List.nil_append, List.length_cons]
  omega
theorem far_few {L : Int} : ∀ {ps : List Ps}, (∀ p ∈ ps, BodyOk L p ∧ p.touches.length ≤ 3) → (edgesAll L ps).length ≤ 2 + 9 * ps.length + 3 * gsum ps
  | [], _ => by simp [edgesAll]
  | p :: r, h => by
    have := far_few (ps := r) fun q hq => h q (List.mem_cons_of_mem _ hq)
    have := edges_len (h p List.mem_cons_self).1 (h p List.mem_cons_self).2
    rw [gsum_cons]
    unfold edgesAll at *
    rw [List.flatMap_cons]
    simp only [List.length_append, List.length_cons, List.length_nil] at *
    omega
section
variable (C : Addr)
set_option maxHeartbeats 4000000 in
theorem v_law_far_rowN {m : Nat} {u : Pur} (hu : PurOk (m + 180) u) : ∃ (L : Int) (ps : List Ps) (u' : Pur), F_law_far_row C (encPu u) [] = some (.tup [.int L, .tup (ps.map encP)], encPu u') ∧ 5000 ≤ L ∧ L ≤ 1000000000000 ∧ PssOk L ps ∧ (∀ p ∈ ps, p.touches.length ≤ 3) ∧ gsum ps ≤ 140 ∧ (∀ p ∈ ps, p.name ∈ rowNames) ∧ PurOk m u' := by
  have : ∃ r e, runO 1 6 (B_law_far_row C) (encPu u) [] = some (r, e) ∧ ∃ (L : Int) (ps : List Ps) (u' : Pur), r = .tup [.int L, .tup (ps.map encP)] ∧ e = encPu u' ∧ 5000 ≤ L ∧ L ≤ 1000000000000 ∧ PssOk L ps ∧ (∀ p ∈ ps, p.touches.length ≤ 3) ∧ gsum ps ≤ 140 ∧ (∀ p ∈ ps, p.name ∈ rowNames) ∧ PurOk m u' := by
    refine retOE ?_
    unfold B_law_far_row
    have hu : PurOk (m + 8 + 20 * 8 + 2 + 1 + 1 + 1) u := hu.mono (by omega)
    obtain ⟨L, u1, e1, hL, hu1⟩ := v_law_pickI C hu [1000000000000, 1000000000000, 1000000 + 7, 5000]
    have hL : 5000 ≤ L ∧ L ≤ 1000000000000 := by simp at hL; omega
    refine_lift' st [pow12, pow6, e1]
    have d1 := div_s (i := L) (j := 40) (by omega) (by omega)
    have d2 := div_s (i := L) (j := 7) (by omega) (by omega)
    obtain ⟨w, u2, e2, hw, hu2⟩ := v_law_pickI C hu1 [1, 3, L / 40, L / 7]
    have hw : 1 ≤ w ∧ w ≤ 1000000000000 := by simp at hw; omega
    obtain ⟨a, u3, e3, ha0, ha1, hu3⟩ := v_law_draw C hu2 (n := 8) (by omega) (by omega)
    refine_lift' st [d1, d2, e2]
    refine_lift' st [e3]
    obtain ⟨ps, u4, e4, ⟨n, hrow⟩, hpl, hsm, hu4⟩ := v_law_row C (m := m + 8) (many := 8) (wide := w) (hu3.mono (by omega)) (by decide) (by omega : 1 ≤ L) hL.2 hw.1 hw.2
    refine st_for (α := Ps) (enc := encP) (xs := ps) (ρ1 := [.own true (encPu u4), .dat (.int L), .dat (.int w), .own false (.lst []), .dat (.int a), .no, .no]) ?_
      (fun ys ρ => ∃ (u5 : Pur) (qs : List Ps) (x y : Cell), ρ = [.own true (encPu u5), .dat (.int L), .dat (.int w), .own false (.lst (qs.map encP)), .dat (.int a), x, y] ∧ qs.length = ys.length ∧ RowOk L (rot rowNames n) qs ∧ (∀ p ∈ qs, p.touches.length ≤ 3) ∧ gsum qs ≤ 5 * qs.length + (if a < qs.length then 100 else 0) ∧ PurOk (m + (8 - ys.length)) u5)
      ⟨u4, [], _, _, rfl, rfl, ⟨rfl, fun p h => by cases h⟩, (fun p h => by cases h), Nat.zero_le _, by simpa using hu4⟩ ?_ ?_
    · have it : mCallO (F_law_row C) 0 (aCons (mVar 1) (aCons (mC (.int 8)) (aCons (mVar 2) aNil))) [.own true (encPu u3), .dat (.int L), .dat (.int w), .own false (.lst []), .dat (.int a), .no, .no] = some (.tup (ps.map encP), [.own true (encPu u4), .dat (.int L), .dat (.int w), .own false (.lst []), .dat (.int a), .no, .no]) := by refine_lift' eva [e4]
      exact e_bd it rfl
    · rintro ys p zs ρ e ⟨u5, qs, x, y, rfl, hql, hq, hqt, hqg, hu5⟩
      have hyl : ys.length < ps.length := by rw [e]; simp
      have hp : p ∈ ps := by rw [e]; simp
      have hu5 : PurOk (m + (8 - (ys.length + 1)) + 1) u5 := hu5.mono (by omega)
      refine ⟨(), [.own true (encPu u5), .dat (.int L), .dat (.int w), .own false (.lst (qs.map encP)), .dat (.int a), .dat (encP p), y], rfl, ?_⟩
      have hlen : dLen [.lst (qs.map encP)] = some (.int qs.length) := by
        show some (D.int ((qs.map encP).length : Nat)) = _
        rw [List.length_map]
      have m9 : ∃ (g : Int) (u6 : Pur), mIf (mTst (mOp dEq (mFnP dLen 3) (mVar 4))) (mCallO (F_law_pick C) 0 (aCons (mLst (aCons (mOp dIx (mVar 5) (mC (.int 5))) (aCons (mC (.int 20)) (aCons (mC (.int 100)) aNil)))) aNil)) (mOp dIx (mVar 5) (mC (.int 5))) [.own true (encPu u5), .dat (.int L), .dat (.int w), .own false (.lst (qs.map encP)), .dat (.int a), .dat (encP p), y]
          = some (.int g, [.own true (encPu u6), .dat (.int L), .dat (.int w), .own false (.lst (qs.map encP)), .dat (.int a), .dat (encP p), y]) ∧ 0 ≤ g ∧ g ≤ 100 ∧ (g ≤ 5 ∨ (qs.length : Int) = a) ∧ PurOk (m + (8 - (ys.length + 1))) u6 := by
        have gl := (hrow.body p hp).gl
        have i5 := ix5 p
        by_cases hc : (qs.length : Int) = a
        · obtain ⟨g, u6, e6, hg, hu6⟩ := v_law_pickI C hu5 [p.glide, 20, 100]
          have hg : 0 ≤ g ∧ g ≤ 100 := by simp at hg; omega
          have hd : dEq (.int qs.length) (.int a) = some (.bl true) := by rw [eq_int, beq_iff_eq.mpr hc]
          exact ⟨g, u6, e_if1 (ρ1 := [.own true (encPu u5), .dat (.int L), .dat (.int w), .own false (.lst (qs.map encP)), .dat (.int a), .dat (encP p), y]) (by refine_lift' eva [hlen, hd]) (by refine_lift' eva [i5, e6]), hg.1, hg.2, .inr hc, hu6⟩
        · have hd : dEq (.int qs.length) (.int a) = some (.bl false) := by rw [eq_int, beq_eq_false_iff_ne.mpr hc]
          exact ⟨p.glide, u5, e_if0 (ρ1 := [.own true (encPu u5), .dat (.int L), .dat (.int w), .own false (.lst (qs.map encP)), .dat (.int a), .dat (encP p), y]) (by refine_lift' eva [hlen, hd]) (by refine_lift' eva [i5]), gl.1, gl.2, .inl (hsm p hp).2, hu5.mono (by omega)⟩
      obtain ⟨g, u6, e6, hg0, hg1, hg5, hu6⟩ := m9
      have hl1 : (qs.map encP).length < sizeLine := by rw [List.length_map]; exact Nat.lt_of_lt_of_le (by omega : qs.length < 200) (len_le (by omega))
      have s5 := sl5 p
      have s6 := sl6 p
      have g1 := glided p g
      have g2 := glided2 p g
      refine_lift' st [e6]
      refine st_one ?_
      refine_lift' st [s5, s6, g1, g2, hl1]
      have hnm : p.name = (rot rowNames n)[qs.length]'(by rw [rot_len]; have : rowNames.length = 8 := rfl; omega) := by
        have h1 := congrArg (fun l => l[ys.length]?) hrow.names
        simp only [List.getElem?_map, List.getElem?_take] at h1
        rw [if_pos hyl] at h1
        have h2 : ps[ys.length]? = some p := by rw [e, List.getElem?_append_right (Nat.le_refl _), Nat.sub_self]; rfl
        rw [h2, List.getElem?_eq_getElem (by rw [rot_len]; have : rowNames.length = 8 := rfl; omega)] at h1
        simp only [hql]
        exact Option.some.inj h1
      refine ⟨u6, qs ++ [{ p with glide := g }], .dat (encP p), .dat (.int g), by rw [List.map_append]; rfl, by rw [List.length_append, List.length_append, hql]; rfl, hq.snoc ((hrow.body p hp).glide hg0 hg1) (by rw [rot_len]; have : rowNames.length = 8 := rfl; omega) hnm, fun q hq' => ?_, ?_, by rw [List.length_append]; exact hu6⟩
      · rcases List.mem_append.mp hq' with hq' | hq'
        · exact hqt q hq'
        · rw [List.mem_singleton.mp hq']
          exact (hsm p hp).1
      · rw [gsum_app, gsum_cons, List.length_append, List.length_singleton]
        have : gsum [] = 0 := rfl
        show gsum qs + (g.toNat + gsum []) ≤ _
        split at hqg <;> split <;> omega
    · rintro ρ ⟨u5, qs, x, y, rfl, hql, hq, hqt, hqg, hu5⟩
      have hl1 : dTuple [.lst (qs.map encP)] = some (.tup (qs.map encP)) := rfl
      refine_lift' st [hl1]
      refine ro_rt ⟨L, qs, u5, rfl, rfl, hL.1, hL.2, hq.pss (rowNames_ok.perm (rot_perm _ _)) (by omega), hqt, ?_, fun p hp => ?_, hu5.mono (by omega)⟩
      · split at hqg <;> omega
      · exact (rot_perm _ _).mem_iff.mp (List.mem_of_mem_take (by rw [← hq.names]; exact List.mem_map.mpr ⟨p, hp, rfl⟩))
  obtain ⟨r, e, h1, L, ps, u', rfl, rfl, h2⟩ := this
  exact ⟨L, ps, u', h1, h2⟩
theorem v_law_far_row {m : Nat} {u : Pur} (hu : PurOk (m + 180) u) : ∃ (L : Int) (ps : List Ps) (u' : Pur), F_law_far_row C (encPu u) [] = some (.tup [.int L, .tup (ps.map encP)], encPu u') ∧ 5000 ≤ L ∧ L ≤ 1000000000000 ∧ PssOk L ps ∧ (∀ p ∈ ps, p.touches.length ≤ 3) ∧ gsum ps ≤ 140 ∧ PurOk m u' := by
  obtain ⟨L, ps, u', a, b, c, d, e, f, _, g⟩ := v_law_far_rowN C hu
  exact ⟨L, ps, u', a, b, c, d, e, f, g⟩
end
end My
set_option exponentiation.threshold 20000
namespace My
open PySem PySem.Spec PyProof.Rows L2 DL
theorem atQ_low {L : Int} : ∀ (ps : List Ps), (∀ p ∈ ps, BodyOk L p) → ∀ t : Int, 0 ≤ t → ∀ x ∈ atQ L ps t, 0 ≤ x.at' ∧ x.at' ≤ t
  | [], _, t, h0, x, hx => by
    simp only [atQ, List.mem_singleton] at hx
    subst hx
    exact ⟨h0, Int.le_refl _⟩
  | p :: r, hb, t, h0, x, hx => by
    have hp := hb p List.mem_cons_self
    have ge := fun h => lastT_ge (t := t) p.touches none p.first p.last hp.tok hp.rng.1 (fun _ z => by cases z) h
    have le := fun h => lastT_le t p.touches none (fun _ z => by cases z) h
    have w1 : ∀ y, (wrQ p L t).1 = some y → 0 ≤ y.1 ∧ y.1 ≤ t := by
      intro y hy
      unfold wrQ at hy
      split at hy
      · split at hy
        · cases hy
        · rename_i h e
          have a := ge h e
          have b := le h e
          split at hy
          · cases hy; exact ⟨a, b⟩
          · split at hy
            · cases hy
            · cases hy; exact ⟨a, b⟩
      · cases hy
    have w2 : ∀ y, (wrQ p L t).2 = some y → 0 ≤ y.1 ∧ y.1 ≤ t := by
      intro y hy
      unfold wrQ at hy
      split at hy
      · rename_i hin
        split at hy
        · cases hy
          have := hp.rng.1
          show 0 ≤ (if p.mode = "write" then p.first else t) ∧ (if p.mode = "write" then p.first else t) ≤ t
          split <;> omega
        · split at hy
          · cases hy
          · split at hy
            · cases hy; exact ⟨h0, Int.le_refl _⟩
            · split at hy
              · cases hy; exact ⟨h0, Int.le_refl _⟩
              · split at hy
                · cases hy
                · cases hy; exact ⟨h0, Int.le_refl _⟩
      · cases hy; exact ⟨h0, Int.le_refl _⟩
    rw [atQ] at hx
    rcases List.mem_append.mp hx with hx | hx
    · cases e : (wrQ p L t).1 with
      | none => rw [e] at hx; cases hx
      | some y =>
        rw [e] at hx
        simp only [Option.map_some, Option.toList_some, List.mem_singleton] at hx
        subst hx
        exact w1 y e
    · cases e : (wrQ p L t).2 with
      | none => rw [e] at hx; cases hx
      | some y =>
        rw [e] at hx
        obtain ⟨z, hz, rfl⟩ := List.mem_map.mp hx
        have wy := w2 y e
        have := atQ_low r (fun q hq => hb q (List.mem_cons_of_mem _ hq)) y.1 wy.1 z hz
        exact ⟨this.1, Int.le_trans this.2 wy.2⟩
theorem formT_low {L t : Int} {ps : List Ps} (h : PssOk L ps) (h0 : 0 ≤ t) : ∀ x ∈ formT L ps t, 0 ≤ x.at' ∧ x.at' ≤ t := by
  intro x hx
  have hx := (byName_perm _).mem_iff.mp hx
  obtain ⟨y, hy, rfl⟩ := List.mem_map.mp hx
  exact atQ_low ps.reverse (fun p hp => (b_of_pass (h.rev.ok p hp)).1) t h0 y hy
theorem atQ_len {L : Int} : ∀ (ps : List Ps) (t : Int), (atQ L ps t).length ≤ ps.length + 1
  | [], t => by simp [atQ]
  | p :: r, t => by
    rw [atQ, List.length_append, List.length_cons]
    have a : ((wrQ p L t).1.map fun x => TQ.mk p.name x.1 x.2).toList.length ≤ 1 := by cases (wrQ p L t).1 <;> simp
    cases e : (wrQ p L t).2 with
    | none => simp only [List.length_nil]; omega
    | some y =>
      simp only [List.length_map]
      have := atQ_len (L := L) r y.1
      omega
theorem formT_len {L t : Int} {ps : List Ps} : (formT L ps t).length ≤ ps.length + 1 := by
  unfold formT
  rw [(byName_perm _).length_eq, List.length_map]
  have := atQ_len (L := L) ps.reverse t
  rwa [List.length_reverse] at this
/-- one track whose ends are few -/
structure One (L : Int) (ps : List Ps) : Prop where
  p : PssOk L ps
  l1 : 1 ≤ L
  l2 : L ≤ 1000000000000
  few : (edgesAll L ps).length + 1 < 4096
theorem One.body {L : Int} {ps : List Ps} (h : One L ps) : ∀ p ∈ ps, BodyOk L p := fun p hp => (b_of_pass (h.p.ok p hp)).1
theorem One.run {L : Int} {ps : List Ps} (h : One L ps) : Run 0 (segsOf L ps) L := segs_run h.l1 h.body
theorem One.seg {L : Int} {ps : List Ps} (h : One L ps) {s : Int × Int} (hs : s ∈ segsOf L ps) : Seg L ps s.1 s.2 := by
  have := h.run.in s hs
  exact seg_of h.p (fun p hp => segs_free hp s hs) this.1 this.2.1
def rowD (L : Int) (ps : List Ps) (s : Int × Int) : D := .tup [.int s.1, .int s.2, formD L ps (s.2 - 1)]
/-- the stretch that a term tells of -/
def hearS (s : Int × Int) (x : Tm) : Int × Int := if x.at' = s.2 - 1 then s else (x.at', x.at' + 1)
def hearX (n : Str) (s : Int × Int) (xs : List Tm) : List (Int × Int) := (xs.filter fun x => decide (x.name = n)).map (hearS s)
def hearM (L : Int) (ps : List Ps) (n : Str) (ss : List (Int × Int)) : List (Int × Int) := ss.flatMap fun s => hearX n s (formT L ps (s.2 - 1))
theorem hearX_len (n : Str) (s : Int × Int) (xs : List Tm) : (hearX n s xs).length ≤ xs.length := by
  unfold hearX
  rw [List.length_map]
  exact List.length_filter_le _ _
/-- a name is heard at tick t of a form -/
def Heard (L : Int) (ps : List Ps) (n : Str) (t : Int) : Prop := ∃ k, 0 ≤ k ∧ k < L ∧ ∃ x ∈ formT L ps k, x.name = n ∧ x.at' = t
theorem mem_hear {L t : Int} {ps : List Ps} {n : Str} (h : One L ps) : Mem t (hearM L ps n (segsOf L ps)) ↔ Heard L ps n t := by
  constructor
  · rintro ⟨y, hy, k1, k2⟩
    obtain ⟨s, hs, hy⟩ := List.mem_flatMap.mp hy
    obtain ⟨x, hx, rfl⟩ := List.mem_map.mp hy
    obtain ⟨hx, hn⟩ := List.mem_filter.mp hx
    have hn := of_decide_eq_true hn
    have sr := h.run.in s hs
    have sg := h.seg hs
    unfold hearS at k1 k2
    split at k1
    · rename_i e
      rw [if_pos e] at k2
      refine ⟨t, by omega, by omega, mvT (s.2 - 1) t x, ?_, (mvT_name _ _ _).trans hn, ?_⟩
      · rw [sg.mv t k1 k2]
        exact List.mem_map.mpr ⟨x, hx, rfl⟩
      · unfold mvT
        rw [if_pos e]
    · rename_i e
      rw [if_neg e] at k2
      simp only at k1 k2
      exact ⟨s.2 - 1, by omega, by omega, x, hx, hn, by omega⟩
  · rintro ⟨k, k0, k1, x, hx, hn, rfl⟩
    obtain ⟨s, hs, s1, s2⟩ := h.run.cover k k0 k1
    have sg := h.seg hs
    rw [sg.mv k s1 s2] at hx
    obtain ⟨y, hy, rfl⟩ := List.mem_map.mp hx
    have hn : y.name = n := (mvT_name _ _ _).symm.trans hn
    refine ⟨hearS s y, List.mem_flatMap.mpr ⟨s, hs, List.mem_map.mpr ⟨y, List.mem_filter.mpr ⟨hy, decide_eq_true hn⟩, rfl⟩⟩, ?_⟩
    unfold hearS mvT
    by_cases e : y.at' = s.2 - 1
    · rw [if_pos e, if_pos e]
      exact ⟨s1, s2⟩
    · rw [if_neg e, if_neg e]
      exact ⟨Int.le_refl _, by show y.at' < y.at' + 1; omega⟩
theorem hear_low {L : Int} {ps : List Ps} {n : Str} (h : One L ps) : ∀ y ∈ hearM L ps n (segsOf L ps), -1 < y.1 ∧ y.1 < y.2 := by
  intro y hy
  obtain ⟨s, hs, hy⟩ := List.mem_flatMap.mp hy
  obtain ⟨x, hx, rfl⟩ := List.mem_map.mp hy
  obtain ⟨hx, _⟩ := List.mem_filter.mp hx
  have sr := h.run.in s hs
  have := formT_low h.p (t := s.2 - 1) (by omega) x hx
  unfold hearS
  split
  · omega
  · show -1 < x.at' ∧ x.at' < x.at' + 1
    omega
theorem hear_len {L : Int} {ps : List Ps} {n : Str} (h8 : ps.length ≤ 8) : ∀ ss : List (Int × Int), (hearM L ps n ss).length ≤ 9 * ss.length
  | [] => by simp [hearM]
  | s :: r => by
    have a := hear_len (L := L) (n := n) h8 r
    have b := hearX_len n s (formT L ps (s.2 - 1))
    have c := formT_len (L := L) (t := s.2 - 1) (ps := ps)
    unfold hearM at *
    rw [List.flatMap_cons, List.length_append, List.length_cons]
    omega
section
variable (C : Addr)
set_option maxHeartbeats 1000000 in
theorem v_formed_segments {L : Int} {ps : List Ps} (h : One L ps) : F_formed_segments C [encTr C L ps] = some (.lst ((segsOf L ps).map (rowD L ps))) := by
  have a2 := v_Track_passes C L ps
  have a3 := v_Track_length C L ps
  have hsg := v_segments C h.l1 h.l2 h.body h.few
  have hf := fun t => v_form_of C (L := L) (t := t) h.p
  have hfew := segs_few (L := L) (ps := ps)
  have h4 := h.few
  unfold encTr at a2 a3 ⊢
  refine retF ?_
  unfold B_formed_segments
  refine_lift' st [a2, a3]
  have hlc := e_lcm (α := Int × Int) (vs := [3, 4]) (it := iSeq seqL (mFn (F_segments C) (aCons (mVar 1) (aCons (mVar 2) aNil)))) (g := gTp 2 (gsCons (gNm 3) (gsCons (gNm 4) gsNil))) (e := mTup (aCons (mVar 3) (aCons (mVar 4) (aCons (mFn (F_form_of C) (aCons (mVar 2) (aCons (mVar 1) (aCons (mOp dSub (mVar 4) (mC (.int 1))) aNil)))) aNil)))) (enc := encT) (f := rowD L ps) (xs := segsOf L ps)
    (ρ := [.dat (.ins C ["_length", "_passes"] [.int L, .tup (ps.map encP)]), .dat (.int L), .dat (.tup (ps.map encP)), .no, .no]) (ρ1 := [.dat (.ins C ["_length", "_passes"] [.int L, .tup (ps.map encP)]), .dat (.int L), .dat (.tup (ps.map encP)), .no, .no])
    (e_bd (v := .lst ((segsOf L ps).map encT)) (e_fn (e_acons (e_var rfl) (e_acons (e_var rfl) e_anil)) hsg) rfl) rfl (Nat.le_trans (by omega : (segsOf L ps).length ≤ 4096) (by decide))
    (fun s _ => ⟨(), [.dat (.ins C ["_length", "_passes"] [.int L, .tup (ps.map encP)]), .dat (.int L), .dat (.tup (ps.map encP)), .dat (.int s.1), .dat (.int s.2)], rfl, [.dat (.ins C ["_length", "_passes"] [.int L, .tup (ps.map encP)]), .dat (.int L), .dat (.tup (ps.map encP)), .dat (.int s.1), .dat (.int s.2)], by
      have := hf (s.2 - 1)
      unfold rowD formD
      refine_lift' ev [this], rfl⟩) rfl
  refine st_one (st_ret hlc (rq_rt rfl))
set_option maxHeartbeats 1000000 in
theorem v_heard_in {L : Int} {ps : List Ps} {n : Str} (h : One L ps) : ∃ l, F_heard_in C [.lst ((segsOf L ps).map (rowD L ps)), .str n] = some (.tup (l.map encT)) ∧ Norm (-1) l ∧ (∀ t, Mem t l ↔ Heard L ps n t) ∧ l.length ≤ 36900 := by
  have hfew := segs_few (L := L) (ps := ps)
  have h4 := h.few
  have h8 := h.p.len
  have hlen := hear_len (L := L) (n := n) h8 (segsOf L ps)
  obtain ⟨l, hl, J⟩ := v_longest C (xs := hearM L ps n (segsOf L ps)) (lo := -1) (hear_low h) (by omega)
  refine ⟨l, ?_, J.nm, fun t => (J.mem t).trans (mem_hear h), by have := J.len; omega⟩
  refine retF ?_
  unfold B_heard_in
  refine_lift' st
  refine st_for (α := Int × Int) (enc := rowD L ps) (xs := segsOf L ps) (ρ1 := [.dat (.lst ((segsOf L ps).map (rowD L ps))), .dat (.str n), .own false (.lst []), .no, .no, .no, .no, .no, .no]) rfl
    (fun ys ρ => ∃ a b c d e f, ρ = [.dat (.lst ((segsOf L ps).map (rowD L ps))), .dat (.str n), .own false (.lst ((hearM L ps n ys).map encT)), a, b, c, d, e, f]) ⟨_, _, _, _, _, _, rfl⟩ ?_ ?_
  · rintro ys s zs ρ e ⟨a, b, c, d, e', f, rfl⟩
    have hys : ys.length < (segsOf L ps).length := by rw [e]; simp
    have hyl := hear_len (L := L) (n := n) h8 ys
    refine ⟨(), [.dat (.lst ((segsOf L ps).map (rowD L ps))), .dat (.str n), .own false (.lst ((hearM L ps n ys).map encT)), .dat (.int s.1), .dat (.int s.2), .dat (formD L ps (s.2 - 1)), d, e', f], rfl, ?_⟩
    have hT := formD_T h.p (s.2 - 1)
    have hTl := formT_len (L := L) (t := s.2 - 1) (ps := ps)
    have hM : hearM L ps n (ys ++ [s]) = hearM L ps n ys ++ hearX n s (formT L ps (s.2 - 1)) := by
      unfold hearM
      rw [List.flatMap_append]
      simp
    rw [hM, hT]
    generalize formT L ps (s.2 - 1) = xs at hTl ⊢
    generalize hR : (.lst ((segsOf L ps).map (rowD L ps)) : D) = RR
    generalize hearM L ps n ys = fs at hyl ⊢
    refine st_one ?_
    refine st_for (α := Tm) (enc := encTm) (xs := xs) (ρ1 := [.dat RR, .dat (.str n), .own false (.lst (fs.map encT)), .dat (.int s.1), .dat (.int s.2), .dat (.tup (xs.map encTm)), d, e', f]) rfl
      (fun us ρ => ∃ d e f, ρ = [.dat RR, .dat (.str n), .own false (.lst ((fs ++ hearX n s us).map encT)), .dat (.int s.1), .dat (.int s.2), .dat (.tup (xs.map encTm)), d, e, f]) ⟨d, e', f, by rw [show fs ++ hearX n s [] = fs from List.append_nil _]⟩ ?_ ?_
    · rintro us x vs ρ ex ⟨d, e', f, rfl⟩
      have hus : us.length < xs.length := by rw [ex]; simp
      have hul := hearX_len n s us
      refine ⟨(), [.dat RR, .dat (.str n), .own false (.lst ((fs ++ hearX n s us).map encT)), .dat (.int s.1), .dat (.int s.2), .dat (.tup (xs.map encTm)), .dat (.str x.name), .dat (.int x.at'), .dat (encW x.wt)], rfl, ?_⟩
      have eqn : dEq (.str x.name) (.str n) = some (.bl (decide (x.name = n))) := rfl
      have hX : hearX n s (us ++ [x]) = hearX n s us ++ (if x.name = n then [hearS s x] else []) := by
        unfold hearX
        rw [List.filter_append, List.map_append]
        by_cases q : x.name = n
        · simp [q]
        · simp [q]
      rw [hX]
      have hsz : ((fs ++ hearX n s us).map encT).length < sizeLine := by
        have : (40000 : Nat) < sizeLine := by decide
        rw [List.length_map, List.length_append]
        omega
      generalize hearX n s us = gs at hsz ⊢
      refine st_one ?_
      refine st_if (p := decide (x.name = n)) (ρ1 := [.dat RR, .dat (.str n), .own false (.lst ((fs ++ gs).map encT)), .dat (.int s.1), .dat (.int s.2), .dat (.tup (xs.map encTm)), .dat (.str x.name), .dat (.int x.at'), .dat (encW x.wt)]) (e_tst (e_op (e_var rfl) (e_var rfl) eqn)) (fun q => ?_) (fun q => ?_)
      · have q := of_decide_eq_true q
        rw [if_pos q]
        have hv : mIf (mTst (mOp dEq (mVar 7) (mOp dSub (mVar 4) (mC (.int 1))))) (mTup (aCons (mVar 3) (aCons (mVar 4) aNil))) (mTup (aCons (mVar 7) (aCons (mOp dAdd (mVar 7) (mC (.int 1))) aNil))) [.dat RR, .dat (.str n), .own false (.lst ((fs ++ gs).map encT)), .dat (.int s.1), .dat (.int s.2), .dat (.tup (xs.map encTm)), .dat (.str x.name), .dat (.int x.at'), .dat (encW x.wt)] = some (encT (hearS s x), [.dat RR, .dat (.str n), .own false (.lst ((fs ++ gs).map encT)), .dat (.int s.1), .dat (.int s.2), .dat (.tup (xs.map encTm)), .dat (.str x.name), .dat (.int x.at'), .dat (encW x.wt)]) := by
          have e1 := eq_int x.at' (s.2 - 1)
          unfold hearS
          by_cases c : x.at' = s.2 - 1
          · rw [if_pos c]
            rw [beq_iff_eq.mpr c] at e1
            exact e_if1 (by refine_lift' ev [e1]) (by unfold encT; refine_lift' ev)
          · rw [if_neg c]
            rw [beq_eq_false_iff_ne.mpr c] at e1
            exact e_if0 (by refine_lift' ev [e1]) (by unfold encT; refine_lift' ev)
        refine st_app rfl hv rfl hsz ?_
        exact ⟨_, _, _, by rw [← List.append_assoc, List.map_append (l₁ := fs ++ gs)]; rfl⟩
      · have q := of_decide_eq_false q
        rw [if_neg q, List.append_nil]
        refine_lift' st
        exact ⟨_, _, _, rfl⟩
    · rintro ρ ⟨d, e', f, rfl⟩
      refine_lift' st
      exact ⟨_, _, _, _, _, _, rfl⟩
  · rintro ρ ⟨a, b, c, d, e, f, rfl⟩
    generalize hearM L ps n (segsOf L ps) = fs at hl
    refine_lift' st [hl]
    exact rq_rt rfl
end
end My
set_option exponentiation.threshold 20000
namespace My
open PySem PySem.Spec PyProof.Rows L2 DL
theorem place_at {ps : List Ps} {a : Nat} {p : Ps} (nd : (ps.map Ps.name).Nodup) (h : ps[a]? = some p) : placeM ps p.name = some a := by
  unfold placeM
  obtain ⟨ha, e⟩ := List.getElem?_eq_some_iff.mp h
  rw [List.findIdx?_eq_some_iff_getElem]
  refine ⟨ha, by rw [e]; exact decide_eq_true rfl, fun j hj => ?_⟩
  have hjl : j < ps.length := by omega
  intro q
  have q := of_decide_eq_true q
  rw [← e] at q
  have h1 : (ps.map Ps.name)[j]'(by rw [List.length_map]; exact hjl) = (ps.map Ps.name)[a]'(by rw [List.length_map]; exact ha) := by
    rw [List.getElem_map, List.getElem_map]; exact q
  have := (List.getElem_inj nd).mp h1
  omega
section
variable (C : Addr)
theorem v_Track_contains (L : Int) (ps : List Ps) (n : Str) : F_Track_contains C [encTr C L ps, .str n] = some (.bl (placeM ps n).isSome) := by
  have hp := v_place_of C ps n
  have hn : dIsNot (encON (placeM ps n)) .non = some (.bl (placeM ps n).isSome) := by cases placeM ps n <;> rfl
  refine retF ?_
  unfold B_Track_contains encTr
  refine_lift' st [hp, hn]
  exact rq_rt rfl
theorem v_check_name {L : Int} {ps : List Ps} {n : Str} (h : (placeM ps n).isSome = true) : F_check_name C [encTr C L ps, .str n] = some .non := by
  have hc := v_Track_contains C L ps n
  rw [h] at hc
  have hi : dNotInI C (F_Track_contains C) (.str n) (encTr C L ps) = some (.bl false) := by
    unfold dNotInI hasI encTr at *
    simp only [if_true, hc]
    rfl
  refine retF ?_
  unfold B_check_name
  refine st_one ?_
  refine st_if (p := false) (ρ1 := [.dat (encTr C L ps), .dat (.str n)]) (e_tst (e_op (e_var rfl) (e_var rfl) hi)) (fun z => by cases z) fun _ => ?_
  refine_lift' st
  exact rq_nx rfl
theorem v_heard {L : Int} {ps : List Ps} {n : Str} (h : One L ps) (hn : (placeM ps n).isSome = true) : ∃ l, F_heard C [encTr C L ps, .str n] = some (.tup (l.map encT)) ∧ Norm (-1) l ∧ (∀ t, Mem t l ↔ Heard L ps n t) ∧ l.length ≤ 36900 := by
  obtain ⟨l, hl, r⟩ := v_heard_in C (n := n) h
  refine ⟨l, ?_, r⟩
  have h1 := v_check_track C L ps
  have h2 := v_check_name C (L := L) hn
  have h3 := v_formed_segments C h
  generalize (.lst ((segsOf L ps).map (rowD L ps)) : D) = RR at hl h3
  generalize encTr C L ps = TT at h1 h2 h3 ⊢
  refine retF ?_
  unfold B_heard
  refine_lift' st [h1]
  refine_lift' st [h2]
  refine_lift' st [h3, hl]
  exact rq_rt rfl
end
end My
set_option exponentiation.threshold 20000
namespace My
open PySem PySem.Spec PyProof.Rows L2 DL
theorem cut1 {c : Nat} : ∀ {u u' v v' : List Nat}, c ∉ u → c ∉ u' → u ++ c :: v = u' ++ c :: v' → u = u' ∧ v = v'
  | [], [], _, _, _, _, e => ⟨rfl, by simpa using e⟩
  | [], b :: u', _, _, _, h', e => by
    rw [List.nil_append, List.cons_append] at e
    injection e with e1 _
    exact absurd (e1 ▸ List.mem_cons_self) h'
  | a :: u, [], _, _, h, _, e => by
    rw [List.nil_append, List.cons_append] at e
    injection e with e1 _
    exact absurd (e1 ▸ List.mem_cons_self) h
  | a :: u, b :: u', v, v', h, h', e => by
    rw [List.cons_append, List.cons_append] at e
    injection e with e1 e2
    obtain ⟨q1, q2⟩ := cut1 (fun z => h (List.mem_cons_of_mem _ z)) (fun z => h' (List.mem_cons_of_mem _ z)) e2
    exact ⟨by rw [e1, q1], q2⟩
theorem alnum_plain : ∀ c ∈ alnums.cps.toList, 48 ≤ c ∧ c ≤ 122 ∧ Builtin.Str.reprChar 39 c = [c] := by decide +kernel
theorem name_chars {n : Str} (h : nameOk n = true) : ∀ c ∈ n.cps.toList, 48 ≤ c ∧ c ≤ 122 ∧ Builtin.Str.reprChar 39 c = [c] := by
  unfold nameOk at h
  simp only [Bool.and_eq_true] at h
  intro c hc
  exact alnum_plain c (of_decide_eq_true (List.all_eq_true.mp h.2 c hc))
theorem fold_plain : ∀ (l : List Nat) (acc : Array Nat), (∀ c ∈ l, Builtin.Str.reprChar 39 c = [c]) → (l.foldl (fun out c => out ++ (Builtin.Str.reprChar 39 c).toArray) acc).toList = acc.toList ++ l
  | [], acc, _ => by simp
  | c :: l, acc, h => by
    rw [List.foldl_cons, fold_plain l _ fun d hd => h d (List.mem_cons_of_mem _ hd), h c List.mem_cons_self]
    simp
theorem repr_plain {n : Str} (h : nameOk n = true) : (reprText n).cps.toList = 39 :: n.cps.toList ++ [39] := by
  have hc := name_chars h
  have h39 : n.cps.contains 39 = false := by
    rw [Bool.eq_false_iff]
    intro z
    have := hc 39 (by simpa using z)
    omega
  have hq : reprQuote n = 39 := by
    unfold reprQuote
    rw [h39]
    rfl
  unfold reprText
  rw [hq]
  simp only [Array.toList_push]
  rw [← Array.foldl_toList, fold_plain n.cps.toList #[39] fun c z => (hc c z).2.2]
  simp
theorem name_no {n : Str} (h : nameOk n = true) {c : Nat} (hc : c < 39 ∨ c = 44 ∨ c = 41) : c ∉ (reprText n).cps.toList := by
  rw [repr_plain h]
  intro z
  simp only [List.cons_append, List.mem_cons, List.mem_append, List.not_mem_nil, or_false] at z
  rcases z with z | z | z
  · omega
  · have := name_chars h c z; omega
  · omega
theorem repr_inj {n m : Str} (h : nameOk n = true) (h' : nameOk m = true) (e : (reprText n).cps.toList = (reprText m).cps.toList) : n = m := by
  rw [repr_plain h, repr_plain h', List.cons_append, List.cons_append] at e
  injection e with _ e
  exact PySem.W.str_of_cps (List.append_cancel_right e)
theorem int_no (n : Nat) {c : Nat} (hc : c < 48) : c ∉ (Str.ofString ((n : Int).repr)).cps.toList := L2.num_free (n := n) (.inl hc)
theorem int_inj {n m : Nat} (e : (Str.ofString ((n : Int).repr)).cps.toList = (Str.ofString ((m : Int).repr)).cps.toList) : n = m := by
  have h1 := L2.numT_tl n
  have h2 := L2.numT_tl m
  have e2 : TL.numL n = TL.numL m := h1.symm.trans (Eq.trans e h2)
  exact TL.numL_inj e2
def sTm (x : Tm) : Str := tupleText [reprText x.name, Str.ofString x.at'.repr, tupleText [Str.ofString x.wt.1.repr, Str.ofString x.wt.2.repr]]
theorem shown_tms (xs : List Tm) : (toP (.tup (xs.map encTm))).shown = tupleText (xs.map sTm) := by
  have : ∀ ys : List Tm, PyData.shownAll (toPs (ys.map encTm)) = ys.map sTm := by
    intro ys
    induction ys with
    | nil => simp [toPs, PyData.shownAll]
    | cons y r ih =>
      rw [List.map_cons, List.map_cons, toPs, PyData.shownAll, ih]
      congr 1
  rw [toP, PyData.shown, this]
/-- a term that is shown plainly -/
structure Plain (x : Tm) : Prop where
  nm : nameOk x.name = true
  a0 : 0 ≤ x.at'
  w1 : 0 ≤ x.wt.1
  w2 : 0 ≤ x.wt.2
theorem cps_app (a b : Str) : (a ++ b).cps.toList = a.cps.toList ++ b.cps.toList := TL.tl_append a b
theorem sTm_cps {x : Tm} : (sTm x).cps.toList = 40 :: ((reprText x.name).cps.toList ++ 44 :: 32 :: ((Str.ofString x.at'.repr).cps.toList ++ 44 :: 32 :: 40 :: ((Str.ofString x.wt.1.repr).cps.toList ++ 44 :: 32 :: ((Str.ofString x.wt.2.repr).cps.toList ++ [41, 41])))) := by
  have c1 : (Str.ofString "(").cps.toList = [40] := by decide +kernel
  have c2 : (Str.ofString ", ").cps.toList = [44, 32] := by decide +kernel
  have c3 : (Str.ofString ")").cps.toList = [41] := by decide +kernel
  unfold sTm tupleText
  simp [Str.join, cps_app, c1, c2, c3]
theorem tt_one (s : Str) : (tupleText [s]).cps.toList = 40 :: (s.cps.toList ++ [44, 41]) := by
  have c1 : (Str.ofString "(").cps.toList = [40] := by decide +kernel
  have c3 : (Str.ofString ",)").cps.toList = [44, 41] := by decide +kernel
  unfold tupleText
  simp [Str.join, cps_app, c1, c3]
theorem tt_two (s t : Str) (r : List Str) : ∃ w, (tupleText (s :: t :: r)).cps.toList = 40 :: (s.cps.toList ++ 44 :: 32 :: w) := by
  have c1 : (Str.ofString "(").cps.toList = [40] := by decide +kernel
  have c2 : (Str.ofString ", ").cps.toList = [44, 32] := by decide +kernel
  refine ⟨((Str.ofString ", ").join (t :: r)).cps.toList ++ (Str.ofString (if ((s :: t :: r).length == 1) = true then ",)" else ")")).cps.toList, ?_⟩
  unfold tupleText
  rw [Str.join]
  · simp [cps_app, c1, c2]
  · simp
theorem tm_cut {x y : Tm} {u v : List Nat} (hx : Plain x) (hy : Plain y) (e : (sTm x).cps.toList ++ u = (sTm y).cps.toList ++ v) : x = y ∧ u = v := by
  rw [sTm_cps, sTm_cps] at e
  obtain ⟨n, i, w1, w2⟩ := x
  obtain ⟨m, j, v1, v2⟩ := y
  obtain ⟨hx1, hx2, hx3, hx4⟩ := hx
  obtain ⟨hy1, hy2, hy3, hy4⟩ := hy
  simp only at hx1 hx2 hx3 hx4 hy1 hy2 hy3 hy4 e
  obtain ⟨i, rfl⟩ : ∃ k : Nat, i = k := ⟨i.toNat, by omega⟩
  obtain ⟨j, rfl⟩ : ∃ k : Nat, j = k := ⟨j.toNat, by omega⟩
  obtain ⟨w1, rfl⟩ : ∃ k : Nat, w1 = k := ⟨w1.toNat, by omega⟩
  obtain ⟨w2, rfl⟩ : ∃ k : Nat, w2 = k := ⟨w2.toNat, by omega⟩
  obtain ⟨v1, rfl⟩ : ∃ k : Nat, v1 = k := ⟨v1.toNat, by omega⟩
  obtain ⟨v2, rfl⟩ : ∃ k : Nat, v2 = k := ⟨v2.toNat, by omega⟩
  simp only [List.cons_append, List.append_assoc] at e
  injection e with _ e
  obtain ⟨q1, e⟩ := cut1 (name_no hx1 (.inr (.inl rfl))) (name_no hy1 (.inr (.inl rfl))) e
  injection e with _ e
  obtain ⟨q2, e⟩ := cut1 (int_no i (by decide)) (int_no j (by decide)) e
  injection e with _ e
  injection e with _ e
  obtain ⟨q3, e⟩ := cut1 (int_no w1 (by decide)) (int_no v1 (by decide)) e
  injection e with _ e
  obtain ⟨q4, e⟩ := cut1 (int_no w2 (by decide)) (int_no v2 (by decide)) e
  injection e with _ e
  rw [repr_inj hx1 hy1 q1, int_inj q2, int_inj q3, int_inj q4]
  exact ⟨rfl, by simpa using e⟩
/-- one term alone is shown as no other row of terms is -/
theorem shown_one {xs : List Tm} {y : Tm} (h : ∀ x ∈ xs, Plain x) (hy : Plain y) (e : (toP (.tup (xs.map encTm))).shown = (toP (.tup [encTm y])).shown) : xs = [y] := by
  have e2 := shown_tms [y]
  rw [List.map_cons, List.map_nil] at e2
  rw [shown_tms, e2] at e
  have e := congrArg (fun s : Str => s.cps.toList) e
  simp only [List.map_cons, List.map_nil, tt_one] at e
  cases xs with
  | nil =>
    have h0 : (tupleText (([] : List Tm).map sTm)).cps.toList = [40, 41] := by decide +kernel
    rw [h0, sTm_cps] at e
    have e := (List.cons.inj e).2
    rw [List.cons_append] at e
    exact absurd (List.cons.inj e).1 (by decide)
  | cons x r =>
    cases r with
    | nil =>
      rw [List.map_cons, List.map_nil, tt_one] at e
      rw [(tm_cut (h x List.mem_cons_self) hy (List.cons.inj e).2).1]
    | cons z r =>
      obtain ⟨w, hw⟩ := tt_two (sTm x) (sTm z) (r.map sTm)
      rw [List.map_cons, List.map_cons, hw] at e
      have := (tm_cut (h x List.mem_cons_self) hy (List.cons.inj e).2).2
      exact absurd (List.cons.inj (List.cons.inj this).2).1 (by decide)
end My
set_option exponentiation.threshold 20000
namespace My
open PySem PySem.Spec PyProof.Rows L2 DL
def sumQ : List Rat → Rat
  | [] => 0
  | a :: r => a + sumQ r
theorem sumQ_perm {l l' : List Rat} (h : l.Perm l') : sumQ l = sumQ l' := by
  induction h with
  | nil => rfl
  | cons a _ ih => simp only [sumQ, ih]
  | swap a b l => simp only [sumQ]; grind
  | trans _ _ h1 h2 => rw [h1, h2]
theorem sumQ_app (l l' : List Rat) : sumQ (l ++ l') = sumQ l + sumQ l' := by
  induction l with
  | nil => simp only [List.nil_append, sumQ]; grind
  | cons a l ih => simp only [List.cons_append, sumQ, ih]; grind
theorem sumQ_mul (q : Rat) (l : List Rat) : sumQ (l.map fun x => q * x) = q * sumQ l := by
  induction l with
  | nil => simp only [List.map_nil, sumQ]; grind
  | cons a l ih => simp only [List.map_cons, sumQ, ih]; grind
theorem frac_add {a b g : Int} (hg : 0 < g) (h : a + b = g) : ((a : Int) : Rat) / ((g : Int) : Rat) + ((b : Int) : Rat) / ((g : Int) : Rat) = 1 := by
  have hne : ((g : Int) : Rat) ≠ 0 := by exact_mod_cast Int.ne_of_gt hg
  have : ((a : Int) : Rat) + ((b : Int) : Rat) = ((g : Int) : Rat) := by rw [← h, Rat.intCast_add]
  grind
theorem frac_pos {a g : Int} (hg : 0 < g) (h : 0 < a) : 0 < ((a : Int) : Rat) / ((g : Int) : Rat) := by
  have h1 : (0 : Rat) < ((a : Int) : Rat) := by exact_mod_cast h
  have h2 : (0 : Rat) < ((g : Int) : Rat) := by exact_mod_cast hg
  rw [Rat.div_def]
  exact Rat.mul_pos h1 (Rat.inv_pos.mpr h2)
theorem lastT_in {t : Int} : ∀ (ts : List (Int × Int)) (f : Option Int) (lo hi : Int), touchesOk hi ts lo = true → ∀ h, lastT t ts f = some h → (∃ p ∈ ts, p.1 ≤ h ∧ h < p.2) ∨ f = some h
  | [], f, _, _, _, h, e => .inr e
  | p :: r, f, lo, hi, ok, h, e => by
    rw [touchesOk] at ok
    simp only [Bool.and_eq_true, decide_eq_true_eq] at ok
    obtain ⟨⟨⟨a, _⟩, b, _⟩, ok⟩ := ok
    rcases lastT_in r _ _ _ ok h e with ⟨q, hq, h1⟩ | e2
    · exact .inl ⟨q, List.mem_cons_of_mem _ hq, h1⟩
    · split at e2
      · rename_i c
        cases e2
        refine .inl ⟨p, List.mem_cons_self, ?_⟩
        split <;> omega
      · exact .inr e2
/-- what wrQ tells, all at once -/
structure WrFacts (p : Ps) (L t : Int) : Prop where
  p1 : ∀ x, (wrQ p L t).1 = some x → 0 < x.2
  p2 : ∀ x, (wrQ p L t).2 = some x → 0 < x.2
  tc : ∀ x, (wrQ p L t).1 = some x → ∃ q ∈ p.touches, q.1 ≤ x.1 ∧ x.1 < q.2
  sm : (if p.mode = "trim" then 0 else match (wrQ p L t).1 with
    | none => 0
    | some x => x.2) + (match (wrQ p L t).2 with
    | none => 0
    | some x => x.2) = (1 : Rat)
theorem wr_facts {p : Ps} {L : Int} (hb : BodyOk L p) (t : Int) : WrFacts p L t := by
  have g := hb.gl
  have one : (0 : Rat) < 1 := by decide
  have z1 : (0 : Rat) + 1 = 1 := by grind
  have o0 : (1 : Rat) + 0 = 1 := by grind
  have nw : ¬ (("write" : Str) = "trim") := by decide +kernel
  have nl : ¬ (("latch" : Str) = "trim") := by decide +kernel
  by_cases h1 : p.first ≤ t ∧ t < endM p L
  · cases e : lastT t p.touches none with
    | none =>
      have w : wrQ p L t = (none, some (if p.mode = "write" then p.first else t, 1)) := by
        unfold wrQ; rw [if_pos h1, e]
      refine ⟨fun x h => ?_, fun x h => ?_, fun x h => ?_, ?_⟩ <;> rw [w] at *
      · cases h
      · cases h; exact one
      · cases h
      · simp only; split <;> exact z1
    | some h =>
      have hle := lastT_le t p.touches none (fun _ q => by cases q) h e
      have hin : ∃ q ∈ p.touches, q.1 ≤ h ∧ h < q.2 := by
        rcases lastT_in p.touches none p.first p.last hb.tok h e with x | x
        · exact x
        · cases x
      by_cases hw : p.mode = "write" ∨ p.mode = "latch"
      · have w : wrQ p L t = (some (h, 1), none) := by
          unfold wrQ; rw [if_pos h1, e]; simp only; rw [if_pos hw]
        have nt : ¬ p.mode = "trim" := by rcases hw with q | q <;> rw [q] <;> assumption
        refine ⟨fun x q => ?_, fun x q => ?_, fun x q => ?_, ?_⟩ <;> rw [w] at *
        · cases q; exact one
        · cases q
        · cases q; exact hin
        · simp only; rw [if_neg nt]; exact o0
      · by_cases hgl : p.glide < t - h
        · have w : wrQ p L t = (none, some (t, 1)) := by
            unfold wrQ; rw [if_pos h1, e]; simp only; rw [if_neg hw, if_pos hgl]
          refine ⟨fun x q => ?_, fun x q => ?_, fun x q => ?_, ?_⟩ <;> rw [w] at *
          · cases q
          · cases q; exact one
          · cases q
          · simp only; split <;> exact z1
        · have hpos : 0 < p.glide + 1 := by omega
          by_cases htr : p.mode = "trim"
          · have w : wrQ p L t = (some (h, ((p.glide + 1 - (t - h) : Int) : Rat) / ((p.glide + 1 : Int) : Rat)), some (t, 1)) := by
              unfold wrQ; rw [if_pos h1, e]; simp only; rw [if_neg hw, if_neg hgl, if_pos htr]
            refine ⟨fun x q => ?_, fun x q => ?_, fun x q => ?_, ?_⟩ <;> rw [w] at *
            · cases q; exact frac_pos hpos (by omega)
            · cases q; exact one
            · cases q; exact hin
            · simp only; rw [if_pos htr]; exact z1
          · by_cases hth : t = h
            · have w : wrQ p L t = (some (h, ((p.glide + 1 - (t - h) : Int) : Rat) / ((p.glide + 1 : Int) : Rat)), none) := by
                unfold wrQ; rw [if_pos h1, e]; simp only; rw [if_neg hw, if_neg hgl, if_neg htr, if_pos hth]
              refine ⟨fun x q => ?_, fun x q => ?_, fun x q => ?_, ?_⟩ <;> rw [w] at *
              · cases q; exact frac_pos hpos (by omega)
              · cases q
              · cases q; exact hin
              · simp only; rw [if_neg htr, show p.glide + 1 - (t - h) = p.glide + 1 by omega, div_self_q hpos]; exact o0
            · have w : wrQ p L t = (some (h, ((p.glide + 1 - (t - h) : Int) : Rat) / ((p.glide + 1 : Int) : Rat)), some (t, ((t - h : Int) : Rat) / ((p.glide + 1 : Int) : Rat))) := by
                unfold wrQ; rw [if_pos h1, e]; simp only; rw [if_neg hw, if_neg hgl, if_neg htr, if_neg hth]
              refine ⟨fun x q => ?_, fun x q => ?_, fun x q => ?_, ?_⟩ <;> rw [w] at *
              · cases q; exact frac_pos hpos (by omega)
              · cases q; exact frac_pos hpos (by omega)
              · cases q; exact hin
              · simp only; rw [if_neg htr]; exact frac_add hpos (by omega)
  · have w : wrQ p L t = (none, some (t, 1)) := by unfold wrQ; rw [if_neg h1]
    refine ⟨fun x q => ?_, fun x q => ?_, fun x q => ?_, ?_⟩ <;> rw [w] at *
    · cases q
    · cases q; exact one
    · cases q
    · simp only; split <;> exact z1
theorem atQ_pos {L : Int} : ∀ (ps : List Ps) (t : Int), (∀ p ∈ ps, BodyOk L p) → ∀ x ∈ atQ L ps t, 0 < x.q
  | [], t, _, x, hx => by
    simp only [atQ, List.mem_singleton] at hx
    subst hx
    show (0 : Rat) < 1
    decide
  | p :: r, t, h, x, hx => by
    have f := wr_facts (h p List.mem_cons_self) t
    rw [atQ] at hx
    rcases List.mem_append.mp hx with hx | hx
    · cases e : (wrQ p L t).1 with
      | none => rw [e] at hx; cases hx
      | some y =>
        rw [e] at hx
        simp only [Option.map_some, Option.toList_some, List.mem_singleton] at hx
        subst hx
        exact f.p1 y e
    · cases e : (wrQ p L t).2 with
      | none => rw [e] at hx; cases hx
      | some y =>
        rw [e] at hx
        obtain ⟨z, hz, rfl⟩ := List.mem_map.mp hx
        exact Rat.mul_pos (f.p2 y e) (atQ_pos r y.1 (fun q hq => h q (List.mem_cons_of_mem _ hq)) z hz)
theorem atQ_touched {L : Int} : ∀ (ps : List Ps) (t : Int), (∀ p ∈ ps, BodyOk L p) → ∀ x ∈ atQ L ps t, x.name = "old" ∨ ∃ p ∈ ps, p.name = x.name ∧ ∃ q ∈ p.touches, q.1 ≤ x.at' ∧ x.at' < q.2
  | [], t, _, x, hx => by
    simp only [atQ, List.mem_singleton] at hx
    subst hx
    exact .inl rfl
  | p :: r, t, h, x, hx => by
    have f := wr_facts (h p List.mem_cons_self) t
    rw [atQ] at hx
    rcases List.mem_append.mp hx with hx | hx
    · cases e : (wrQ p L t).1 with
      | none => rw [e] at hx; cases hx
      | some y =>
        rw [e] at hx
        simp only [Option.map_some, Option.toList_some, List.mem_singleton] at hx
        subst hx
        exact .inr ⟨p, List.mem_cons_self, rfl, f.tc y e⟩
    · cases e : (wrQ p L t).2 with
      | none => rw [e] at hx; cases hx
      | some y =>
        rw [e] at hx
        obtain ⟨z, hz, rfl⟩ := List.mem_map.mp hx
        rcases atQ_touched r y.1 (fun q hq => h q (List.mem_cons_of_mem _ hq)) z hz with q | ⟨q, hq, h2⟩
        · exact .inl q
        · exact .inr ⟨q, List.mem_cons_of_mem _ hq, h2⟩
/-- the weights of what is no trim -/
def plainSum (T : List Str) (xs : List TQ) : Rat := sumQ ((xs.filter fun x => !T.contains x.name).map TQ.q)
theorem plain_app (T : List Str) (xs ys : List TQ) : plainSum T (xs ++ ys) = plainSum T xs + plainSum T ys := by
  unfold plainSum
  rw [List.filter_append, List.map_append, sumQ_app]
theorem plain_sc (T : List Str) (q : Rat) (xs : List TQ) : plainSum T (xs.map (TQ.sc q)) = q * plainSum T xs := by
  unfold plainSum
  rw [← sumQ_mul, List.filter_map, List.map_map, List.map_map]
  rfl
theorem plain_perm (T : List Str) {xs ys : List TQ} (h : xs.Perm ys) : plainSum T xs = plainSum T ys := sumQ_perm ((h.filter _).map _)
theorem plain_one {L : Int} {T : List Str} (ho : T.contains "old" = false) : ∀ (ps : List Ps) (t : Int), (∀ p ∈ ps, BodyOk L p) → (∀ p ∈ ps, T.contains p.name = decide (p.mode = "trim")) → plainSum T (atQ L ps t) = 1
  | [], t, _, _ => by
    unfold plainSum
    rw [atQ, List.filter_cons_of_pos (by rw [ho]; rfl)]
    simp only [List.filter_nil, List.map_cons, List.map_nil, sumQ]
    grind
  | p :: r, t, h, hT => by
    have f := (wr_facts (h p List.mem_cons_self) t).sm
    have ih := fun t' => plain_one (T := T) ho r t' (fun q hq => h q (List.mem_cons_of_mem _ hq)) (fun q hq => hT q (List.mem_cons_of_mem _ hq))
    have hp := hT p List.mem_cons_self
    rw [atQ, plain_app]
    have e2 : plainSum T (match (wrQ p L t).2 with
    | none => []
    | some y => (atQ L r y.1).map (TQ.sc y.2)) = match (wrQ p L t).2 with
    | none => 0
    | some x => x.2 := by
      cases (wrQ p L t).2 with
      | none => rfl
      | some y =>
        simp only [plain_sc, ih y.1]
        grind
    have e1 : plainSum T ((wrQ p L t).1.map fun x => TQ.mk p.name x.1 x.2).toList = if p.mode = "trim" then 0 else match (wrQ p L t).1 with
    | none => 0
    | some x => x.2 := by
      cases (wrQ p L t).1 with
      | none => simp only [Option.map_none, Option.toList_none]; split <;> rfl
      | some y =>
        simp only [Option.map_some, Option.toList_some]
        unfold plainSum
        by_cases q : p.mode = "trim"
        · rw [if_pos q, List.filter_cons_of_neg (by show ¬ (!T.contains p.name) = true; rw [hp, decide_eq_true q]; decide)]
          rfl
        · rw [if_neg q, List.filter_cons_of_pos (by show (!T.contains p.name) = true; rw [hp, decide_eq_false q]; rfl)]
          simp only [List.filter_nil, List.map_cons, List.map_nil, sumQ]
          grind
    exact (congr (congrArg HAdd.hAdd e1) e2).trans f
end My
set_option exponentiation.threshold 20000
namespace My
open PySem PySem.Spec PyProof.Rows L2 DL
/-- what is known of each term of a form -/
structure TF (ps : List Ps) (k : Int) (t : Tm) : Prop where
  q : ∃ q : Rat, t.wt = ofQ q ∧ 0 < q
  sh : TmSh t
  wk : WtOk 9 t.wt
  a0 : 0 ≤ t.at'
  a1 : t.at' ≤ k
  src : t.name = "old" ∨ ∃ p ∈ ps, p.name = t.name ∧ ∃ q ∈ p.touches, q.1 ≤ t.at' ∧ t.at' < q.2
structure FF (L : Int) (ps : List Ps) (k : Int) (ts : List Tm) : Prop where
  f : formD L ps k = .tup (ts.map encTm)
  l : ts.length ≤ 9
  t : ∀ t ∈ ts, TF ps k t
  pw : ts.Pairwise fun a b => a.name.cps.toList < b.name.cps.toList
  sm : ∀ T : List Str, T.contains "old" = false → (∀ p ∈ ps, T.contains p.name = decide (p.mode = "trim")) → sumQ ((ts.filter fun t => !T.contains t.name).map fun t => toQ t.wt) = 1
theorem form_facts {L k : Int} {ps : List Ps} (h : PssOk L ps) (h0 : 0 ≤ k) (h1 : k ≤ 1000000000000) : ∃ ts : List Tm, FF L ps k ts := by
  have hb : ∀ p ∈ ps.reverse, BodyOk L p := fun p hp => (b_of_pass (h.rev.ok p hp)).1
  have nd : (((atL L ps.reverse k).map TQ.tm).map Tm.name).Nodup := by
    rw [List.map_map]
    exact atL_nodup h.rev k
  have hp := byName_perm ((atL L ps.reverse k).map TQ.tm)
  have mem : ∀ t ∈ byName ((atL L ps.reverse k).map TQ.tm), ∃ x ∈ atQ L ps.reverse k, t = x.tm := fun t ht => by
    obtain ⟨x, hx, rfl⟩ := List.mem_map.mp (hp.mem_iff.mp ht)
    exact ⟨x, (atL_perm L ps.reverse k).mem_iff.mp hx, rfl⟩
  refine ⟨byName ((atL L ps.reverse k).map TQ.tm), ⟨?_, ?_, fun t ht => ?_, ?_, fun T ho hT => ?_⟩⟩
  · unfold formD
    rw [form_atL h, byName_sort nd]
  · rw [hp.length_eq, List.length_map]
    have := atL_len (L := L) (ps := ps.reverse) k
    rw [List.length_reverse] at this
    have := h.len
    omega
  · obtain ⟨x, hx, rfl⟩ := mem t ht
    have hxl := (atL_perm L ps.reverse k).mem_iff.mpr hx
    have ha := atL_at ps.reverse k hb h0 x hxl
    refine ⟨⟨x.q, rfl, atQ_pos ps.reverse k hb x hx⟩, atL_sh h.rev h0 h1 x hxl, (atL_wt ps.reverse k (fun p hp => (hb p hp).gl) x hxl).mono (by rw [List.length_reverse]; have := h.len; omega), ha.1, ha.2, ?_⟩
    rcases atQ_touched ps.reverse k hb x hx with q | ⟨p, hp, h2⟩
    · exact .inl q
    · exact .inr ⟨p, List.mem_reverse.mp hp, h2⟩
  · have nd2 : ((byName ((atL L ps.reverse k).map TQ.tm)).map Tm.name).Nodup := (hp.map _).nodup_iff.mpr nd
    have h1 : ((byName ((atL L ps.reverse k).map TQ.tm)).map fun t => D.str t.name).Pairwise fun a b => leD a b = true := by
      rw [← byName_names]
      exact PySem.W.sort_pairwise leD_total _
    rw [List.pairwise_map] at h1
    have h2 : (byName ((atL L ps.reverse k).map TQ.tm)).Pairwise fun a b => a.name ≠ b.name := List.pairwise_map.mp nd2
    refine (h1.and h2).imp fun {a b} h => ?_
    have h3 := h.1
    rw [leD_str] at h3
    have h3 : ¬ b.name.cps.toList < a.name.cps.toList := by simpa using h3
    have h4 := List.not_lt.mp h3
    rcases List.le_iff_lt_or_eq.mp h4 with h5 | h5
    · exact h5
    · exact (h.2 (PySem.W.str_of_cps h5)).elim
  · have e : ∀ xs : List TQ, ((xs.map TQ.tm).filter fun t => !T.contains t.name).map (fun t => toQ t.wt) = (xs.filter fun x => !T.contains x.name).map TQ.q := fun xs => by
      rw [List.filter_map, List.map_map]
      refine List.map_congr_left fun x _ => ?_
      exact toQ_ofQ x.q
    have p1 := ((hp.filter fun t => !T.contains t.name).map fun t => toQ t.wt)
    rw [sumQ_perm p1, e]
    have := plain_one ho ps.reverse k hb (fun p hp => hT p (List.mem_reverse.mp hp))
    rw [← plain_perm T (atL_perm L ps.reverse k)] at this
    exact this
theorem TF.le {ps : List Ps} {k : Int} {t : Tm} (h : TF ps k t) : 1 ≤ t.wt.1 ∧ t.wt.1 ≤ t.wt.2 ∧ t.wt.2 ≤ 1093685272684360901 := by
  obtain ⟨q, e, hq⟩ := h.q
  have := ofQ_num_pos hq
  rw [← e] at this
  have b1 : (101 : Int) ^ 9 = 1093685272684360901 := by decide +kernel
  have := h.wk.le
  rw [b1] at this
  exact ⟨by omega, h.wk.lt, this⟩
end My
set_option exponentiation.threshold 20000
namespace My
open PySem PySem.Spec PyProof.Rows L2 DL
def oldT (t : Int) : Tm := ⟨"old", t, (1, 1)⟩
theorem form_plain {L t : Int} {ps : List Ps} (h : PssOk L ps) (h0 : 0 ≤ t) : ∀ x ∈ formT L ps t, Plain x := by
  intro x hx
  have lo := formT_low h h0 x hx
  have hx := (byName_perm _).mem_iff.mp hx
  obtain ⟨y, hy, rfl⟩ := List.mem_map.mp hx
  have hb : ∀ p ∈ ps.reverse, BodyOk L p := fun p hp => (b_of_pass (h.rev.ok p hp)).1
  have hq := ofQ_num_pos (atQ_pos ps.reverse t hb y hy)
  have hn := (atQ_names L ps.reverse t).subset (List.mem_map.mpr ⟨y, hy, rfl⟩)
  refine ⟨?_, lo.1, Int.le_of_lt hq, Int.natCast_nonneg _⟩
  rcases List.mem_append.mp hn with hn | hn
  · obtain ⟨p, hp, e⟩ := List.mem_map.mp hn
    show nameOk y.name = true
    rw [← e]
    exact (b_of_pass (h.rev.ok p hp)).2.1
  · show nameOk y.name = true
    rw [List.mem_singleton.mp hn]
    decide +kernel
theorem old_plain {t : Int} (h0 : 0 ≤ t) : Plain (oldT t) := ⟨by show nameOk "old" = true; decide +kernel, h0, by show (0 : Int) ≤ 1; decide, by show (0 : Int) ≤ 1; decide⟩
theorem gd_old (t : Int) : Gd 3 (.tup [encTm (oldT t)]) := gd_tup (n := 2) fun d hd => by
  rw [List.mem_singleton.mp hd]
  exact gd_tm (by show PyData.strOk "old" = true; decide +kernel)
/-- the form at t is the old one, as == tells -/
def oldB (L : Int) (ps : List Ps) (t : Int) : Bool := PyData.eqv (toP (formD L ps t)) (toP (.tup [encTm (oldT t)]))
theorem oldB_iff {L t : Int} {ps : List Ps} (h : PssOk L ps) : oldB L ps t = true ↔ formT L ps t = [oldT t] := by
  unfold oldB
  rw [formD_T h]
  have := eqvAll_tm (formT L ps t) [oldT t]
  rw [toP, toP, PyData.eqv]
  exact this
theorem eq_old {L t : Int} {ps : List Ps} (h : PssOk L ps) : dEq (formD L ps t) (.tup [encTm (oldT t)]) = some (.bl (oldB L ps t)) := by
  have := eqs_of (gd_form (t := t) h) (gd_old t) (by decide)
  unfold oldB
  rw [formD_T h] at *
  show (eqs _ _).map _ = _
  rw [this]
  rfl
def oldSegs (L : Int) (ps : List Ps) : List (Int × Int) := (segsOf L ps).filter fun s => oldB L ps (s.2 - 1)
theorem mem_old {L t : Int} {ps : List Ps} (h : One L ps) : Mem t (oldSegs L ps) ↔ 0 ≤ t ∧ t < L ∧ oldB L ps t = true := by
  constructor
  · rintro ⟨s, hs, k1, k2⟩
    obtain ⟨hs, ho⟩ := List.mem_filter.mp hs
    have sr := h.run.in s hs
    have hf := (oldB_iff h.p).mp ho
    refine ⟨by omega, by omega, (oldB_iff h.p).mpr ?_⟩
    rw [(h.seg hs).mv t k1 k2, hf]
    show [mvT (s.2 - 1) t (oldT (s.2 - 1))] = _
    exact congrArg (fun y : Tm => [y]) (if_pos rfl)
  · rintro ⟨k0, k1, ho⟩
    obtain ⟨s, hs, s1, s2⟩ := h.run.cover t k0 k1
    have sg := h.seg hs
    have hf := (oldB_iff h.p).mp ho
    rw [sg.mv t s1 s2] at hf
    refine ⟨s, List.mem_filter.mpr ⟨hs, (oldB_iff h.p).mpr ?_⟩, s1, s2⟩
    have pl := sg.pl
    generalize formT L ps (s.2 - 1) = xs at hf pl ⊢
    match xs, hf, pl with
    | [], hf, _ => cases hf
    | [y], hf, pl =>
      have e := (List.cons.inj hf).1
      have hp := pl y List.mem_cons_self
      unfold mvT at e
      by_cases c : y.at' = s.2 - 1
      · rw [if_pos c] at e
        obtain ⟨n, a, w⟩ := y
        have e1 : n = "old" := congrArg Tm.name e
        have e3 : w = (1, 1) := congrArg Tm.wt e
        have c : a = s.2 - 1 := c
        rw [e1, e3, c]
        rfl
      · rw [if_neg c] at e
        have : y.at' = t := by rw [e]; rfl
        omega
    | y :: z :: r, hf, _ => cases (List.cons.inj hf).2
section
variable (C : Addr)
theorem v_kept_in {L : Int} {ps : List Ps} (h : One L ps) : ∃ l, F_kept_in C [.lst ((segsOf L ps).map (rowD L ps))] = some (.tup (l.map encT)) ∧ Norm (-1) l ∧ (∀ t, Mem t l ↔ 0 ≤ t ∧ t < L ∧ oldB L ps t = true) ∧ l.length ≤ 4096 := by
  have hfew := segs_few (L := L) (ps := ps)
  have h4 := h.few
  have hfl := List.length_filter_le (fun s : Int × Int => oldB L ps (s.2 - 1)) (segsOf L ps)
  obtain ⟨l, hl, J⟩ := v_longest C (xs := oldSegs L ps) (lo := -1) (fun s hs => by
    have := h.run.in s (List.mem_filter.mp hs).1
    omega) (by unfold oldSegs; omega)
  refine ⟨l, ?_, J.nm, fun t => (J.mem t).trans (mem_old h), by have := J.len; unfold oldSegs at this; omega⟩
  refine retF ?_
  unfold B_kept_in
  have hlc := e_lcf (α := Int × Int) (vs := [1, 2, 3]) (it := iSeq seqL (mVar 0)) (g := gTp 3 (gsCons (gNm 1) (gsCons (gNm 2) (gsCons (gNm 3) gsNil)))) (t := mTst (mOp dEq (mVar 3) (mTup (aCons (mTup (aCons (mC (.str "old")) (aCons (mOp dSub (mVar 2) (mC (.int 1))) (aCons (mC (.tup [(.int 1), (.int 1)])) aNil)))) aNil)))) (e := mTup (aCons (mVar 1) (aCons (mVar 2) aNil))) (enc := rowD L ps) (f := encT) (xs := segsOf L ps) (p := fun s => oldB L ps (s.2 - 1))
    (ρ := [.dat (.lst ((segsOf L ps).map (rowD L ps))), .no, .no, .no]) (ρ1 := [.dat (.lst ((segsOf L ps).map (rowD L ps))), .no, .no, .no]) rfl rfl (Nat.le_trans (by omega : (segsOf L ps).length ≤ 4096) (by decide))
    (fun s _ => ⟨(), [.dat (.lst ((segsOf L ps).map (rowD L ps))), .dat (.int s.1), .dat (.int s.2), .dat (formD L ps (s.2 - 1))], rfl, [.dat (.lst ((segsOf L ps).map (rowD L ps))), .dat (.int s.1), .dat (.int s.2), .dat (formD L ps (s.2 - 1))], by
      have eo := eq_old (t := s.2 - 1) h.p
      have hs : dSub (.int s.2) (.int 1) = some (.int (s.2 - 1)) := rfl
      exact e_tst (e_op (e_var rfl) (e_tup (e_acons (e_tup (e_acons e_c (e_acons (e_op (e_var rfl) e_c hs) (e_acons e_c e_anil))) (len_le (by simp))) e_anil) (len_le (by simp))) eo), fun _ => rfl, fun _ => ⟨[.dat (.lst ((segsOf L ps).map (rowD L ps))), .dat (.int s.1), .dat (.int s.2), .dat (formD L ps (s.2 - 1))], by unfold encT; refine_lift' ev, rfl⟩⟩) rfl
  refine st_one (st_ret (e_fn (e_acons hlc e_anil) hl) (rq_rt rfl))
theorem v_kept {L : Int} {ps : List Ps} (h : One L ps) : ∃ l, F_kept C [encTr C L ps] = some (.tup (l.map encT)) ∧ Norm (-1) l ∧ (∀ t, Mem t l ↔ 0 ≤ t ∧ t < L ∧ oldB L ps t = true) ∧ l.length ≤ 4096 := by
  obtain ⟨l, hl, r⟩ := v_kept_in C h
  refine ⟨l, ?_, r⟩
  have h1 := v_check_track C L ps
  have h3 := v_formed_segments C h
  generalize (.lst ((segsOf L ps).map (rowD L ps)) : D) = RR at hl h3
  generalize encTr C L ps = TT at h1 h3 ⊢
  refine retF ?_
  unfold B_kept
  refine_lift' st [h1]
  refine_lift' st [h3, hl]
  exact rq_rt rfl
theorem v_old_heard {L : Int} {ps : List Ps} (h : One L ps) : ∃ l, F_old_heard C [encTr C L ps] = some (.tup (l.map encT)) ∧ Norm (-1) l ∧ (∀ t, Mem t l ↔ Heard L ps "old" t) ∧ l.length ≤ 36900 := by
  obtain ⟨l, hl, r⟩ := v_heard_in C (n := "old") h
  refine ⟨l, ?_, r⟩
  have h1 := v_check_track C L ps
  have h3 := v_formed_segments C h
  generalize (.lst ((segsOf L ps).map (rowD L ps)) : D) = RR at hl h3
  generalize encTr C L ps = TT at h1 h3 ⊢
  refine retF ?_
  unfold B_old_heard
  refine_lift' st [h1]
  refine_lift' st [h3, hl]
  exact rq_rt rfl
end
end My
set_option exponentiation.threshold 20000
namespace My
open PySem PySem.Spec PyProof.Rows L2 DL
theorem Norm.step : ∀ {lo : Int} {l : List (Int × Int)} {i : Nat} {r s : Int × Int}, Norm lo l → l[i]? = some r → l[i + 1]? = some s → r.2 < s.1
  | _, [], _, _, _, _, h, _ => by simp at h
  | _, [x], 0, _, _, _, _, h => by simp at h
  | _, x :: y :: t, 0, r, s, hn, h, h' => by
    simp at h h'
    subst h h'
    exact hn.2.2.1
  | lo, x :: t, i + 1, r, s, hn, h, h' => Norm.step hn.2.2 (by simpa using h) (by simpa using h')
theorem gd_up {n m : Nat} {d : D} (h : Gd n d) (hm : n ≤ m) : Gd m d := ⟨h.p, h.l, Nat.le_trans h.dp hm, h.e⟩
theorem eq_nilB {n : Nat} {ds : List D} (h : Gd n (.lst ds)) (h1 : 1 ≤ n) (hn : n ≤ 64) : dEq (.lst ds) (.lst []) = some (.bl ds.isEmpty) := by
  have h0 : Gd n (.lst []) := gd_up (gd_lst (n := 0) (ds := []) fun d hd => by cases hd) h1
  show (eqs _ _).map _ = _
  rw [eqs_of h h0 hn]
  cases ds <;> simp [toP, toPs, PyData.eqv, PyData.eqvAll]
theorem ne_nilB {n : Nat} {ds : List D} (h : Gd n (.lst ds)) (h1 : 1 ≤ n) (hn : n ≤ 64) : dNe (.lst ds) (.lst []) = some (.bl (!ds.isEmpty)) := by
  have h0 : Gd n (.lst []) := gd_up (gd_lst (n := 0) (ds := []) fun d hd => by cases hd) h1
  show (eqs _ _).map _ = _
  rw [eqs_of h h0 hn]
  cases ds <;> simp [toP, toPs, PyData.eqv, PyData.eqvAll]
theorem old_repr {t : Int} (h0 : 0 ≤ t) (h1 : t ≤ 1000000000000) : dRepr [.tup [encTm (oldT t)]] = some (.str (toP (.tup [encTm (oldT t)])).shown) := by
  have hs : TmSh (oldT t) := ⟨by show PyData.strOk "old" = true; decide +kernel, by show ("old" : Str).length ≤ 8; decide +kernel, by show t.natAbs < 10 ^ 19; rw [show (10 : Nat) ^ 19 = 10000000000000000000 by decide +kernel]; omega, by show (1 : Int).natAbs < 10 ^ 19; decide +kernel, by show (1 : Int).natAbs < 10 ^ 19; decide +kernel⟩
  have s : L2.Sh 21 3 (toP (.tup [encTm (oldT t)])) := by
    have := (L2.ShA.cons (sh_tm hs) L2.ShA.nil).tup
    exact this.mono (by decide) (by decide)
  exact repr_tup (gd_old t) s (by decide) (by decide)
theorem repr_old {n : Int} {ps : List Ps} {t : Int} (h : PssOk n ps) (h0 : 0 ≤ t) : decide ((toP (formD n ps t)).shown = (toP (.tup [encTm (oldT t)])).shown) = oldB n ps t := by
  rw [formD_T h]
  cases e : oldB n ps t with
  | true =>
    rw [(oldB_iff h).mp e]
    exact decide_eq_true rfl
  | false =>
    refine decide_eq_false fun q => ?_
    rw [(oldB_iff h).mpr (shown_one (form_plain h h0) (old_plain h0) q)] at e
    cases e
theorem putKs_new {ks : List Key} {k : Key} (h : k ∉ ks) : putKs ks k = ks ++ [k] := by
  unfold putKs
  rw [if_neg]
  intro z
  unfold hasK at z
  obtain ⟨x, hx, e⟩ := List.any_eq_true.mp z
  exact h (by rw [← of_decide_eq_true e]; exact hx)
theorem putDs_new {ks : List Key} {ds : List D} {k : Key} {e : D} (h : k ∉ ks) : putDs ks ds k e = ds ++ [e] := by
  unfold putDs
  rw [if_neg]
  intro z
  unfold hasK at z
  obtain ⟨x, hx, e⟩ := List.any_eq_true.mp z
  exact h (by rw [← of_decide_eq_true e]; exact hx)
def memB (t : Int) (l : List (Int × Int)) : Bool := l.any fun s => decide (s.1 ≤ t) && decide (t < s.2)
theorem memB_iff {t : Int} {l : List (Int × Int)} : memB t l = true ↔ Mem t l := by
  unfold memB Mem
  rw [List.any_eq_true]
  constructor
  · rintro ⟨s, hs, e⟩
    rw [Bool.and_eq_true, decide_eq_true_iff, decide_eq_true_iff] at e
    exact ⟨s, hs, e.1, e.2⟩
  · rintro ⟨s, hs, e1, e2⟩
    exact ⟨s, hs, by rw [decide_eq_true e1, decide_eq_true e2]; rfl⟩
theorem memB_fil (k : Int) : ∀ l : List (Int × Int), (!(l.filter fun s => decide (s.1 ≤ k) && decide (k < s.2)).isEmpty) = memB k l
  | [] => rfl
  | s :: r => by
    have ih := memB_fil k r
    unfold memB at *
    rw [List.filter_cons, List.any_cons]
    cases c : (decide (s.1 ≤ k) && decide (k < s.2)) with
    | true => rfl
    | false => rw [Bool.false_or, ← ih]; rfl
theorem touches_apart {hi : Int} : ∀ {ts : List (Int × Int)} {lo : Int}, touchesOk hi ts lo = true → ∀ q ∈ ts, ∀ r ∈ ts, q = r ∨ q.2 < r.1 ∨ r.2 < q.1
  | [], _, _, q, hq => by cases hq
  | p :: r, lo, h, q, hq => by
    rw [touchesOk, Bool.and_eq_true] at h
    intro x hx
    have hin := fun y hy => touches_in h.2 y hy
    rcases List.mem_cons.mp hq with e1 | hq1 <;> rcases List.mem_cons.mp hx with e2 | hx1
    · exact .inl (e1.trans e2.symm)
    · have := hin x hx1
      rw [e1]
      exact .inr (.inl (by omega))
    · have := hin q hq1
      rw [e2]
      exact .inr (.inr (by omega))
    · exact touches_apart h.2 q hq1 x hx1
theorem heard_in_touch {L : Int} {ps : List Ps} {p : Ps} {l : List (Int × Int)} (one : One L ps) (hp : p ∈ ps) (nm : Norm (-1) l) (mm : ∀ t, Mem t l ↔ Heard L ps p.name t) : ∀ s ∈ l, ∃ q ∈ p.touches, q.1 ≤ s.1 ∧ s.2 ≤ q.2 := fun s hs => by
  have hb := b_of_pass (one.p.ok p hp)
  have touched : ∀ t, Mem t l → ∃ q ∈ p.touches, q.1 ≤ t ∧ t < q.2 := fun t ht => by
    obtain ⟨k, k0, k1, x, hx, hn, e⟩ := (mm t).mp ht
    obtain ⟨ts, hf⟩ := form_facts one.p k0 (by have := one.l2; omega)
    have ef : formT L ps k = ts := by
      have e2 := hf.f
      rw [formD_T one.p] at e2
      injection e2 with e2
      refine (List.map_inj_right (fun x y z => ?_)).mp e2
      obtain ⟨n, a, w1, w2⟩ := x
      obtain ⟨m, b, v1, v2⟩ := y
      unfold encTm encW at z
      simp only [D.tup.injEq, List.cons.injEq, D.str.injEq, D.int.injEq, and_true] at z
      obtain ⟨h1, h2, h3, h4⟩ := z
      rw [h1, h2, h3, h4]
    rw [ef] at hx
    rcases (hf.t x hx).src with z | ⟨p', hp', en, q, hq, q1, q2⟩
    · exact absurd (hn ▸ z : p.name = "old") hb.2.2
    · have : p' = p := by
        obtain ⟨i, hi⟩ := List.getElem?_of_mem hp'
        obtain ⟨j, hj⟩ := List.getElem?_of_mem hp
        have e1 := place_at one.p.nd hi
        have e2 := place_at one.p.nd hj
        rw [en, hn] at e1
        rw [e1] at e2
        cases e2
        rw [hi] at hj
        exact Option.some.inj hj
      rw [this] at hq
      exact ⟨q, hq, by omega, by omega⟩
  have hlw := nm.low s hs
  obtain ⟨q, hq, q1, q2⟩ := touched s.1 ⟨s, hs, Int.le_refl _, by omega⟩
  refine ⟨q, hq, q1, ?_⟩
  rcases Int.lt_or_le q.2 s.2 with c | c
  · obtain ⟨r, hr, r1, r2⟩ := touched q.2 ⟨s, hs, by omega, c⟩
    rcases touches_apart hb.1.tok q hq r hr with z | z | z
    · rw [← z] at r2; omega
    · omega
    · omega
  · exact c
theorem heard_high {L : Int} {ps : List Ps} {z : Str} {l : List (Int × Int)} (one : One L ps) (nm : Norm (-1) l) (mm : ∀ t, Mem t l ↔ Heard L ps z t) : ∀ s ∈ l, s.2 ≤ L := fun s hs => by
  have a := nm.low s hs
  obtain ⟨k, k0, k1, x, hx, _, e⟩ := (mm (s.2 - 1)).mp ⟨s, hs, by omega, by omega⟩
  have := formT_low one.p k0 x hx
  omega
/-- what is heard, under the names -/
def kD (H : Str → List (Int × Int)) (ns : List Str) : D := .dic (ns.map fun n => Sum.inr n) (ns.map fun n => .tup ((H n).map encT))
theorem get_kD (H : Str → List (Int × Int)) {s : Str} : ∀ {ns : List Str}, s ∈ ns → dGetD (kD H ns) (.str s) = some (.tup ((H s).map encT))
  | [], h => by cases h
  | q :: r, h => by
    by_cases z : q = s
    · unfold kD dGetD
      simp [key?, lookK, z]
    · have hk : ¬ ((Sum.inr q : Key) = Sum.inr s) := fun y => z (by injection y)
      have h2 : s ∈ r := by
        rcases List.mem_cons.mp h with y | y
        · exact absurd y.symm z
        · exact y
      rw [← get_kD H h2]
      unfold kD dGetD
      simp [key?, lookK, hk]
theorem put_kD (H : Str → List (Int × Int)) {ns : List Str} {n : Str} (h : n ∉ ns) : D.dic (putKs (ns.map fun n => Sum.inr n) (Sum.inr n)) (putDs (ns.map fun n => Sum.inr n) (ns.map fun n => .tup ((H n).map encT)) (Sum.inr n) (.tup ((H n).map encT))) = kD H (ns ++ [n]) := by
  have h2 : (Sum.inr n : Key) ∉ ns.map fun n => (Sum.inr n : Key) := fun z => by
    obtain ⟨c, hc, e⟩ := List.mem_map.mp z
    injection e with e
    rw [e] at hc
    exact h hc
  rw [putKs_new h2, putDs_new h2]
  unfold kD
  rw [List.map_append, List.map_append]
  rfl
theorem e_dgetV {i : Nat} {mk : Mo D} {ρ : Cs} {p : Bool} {d k z : D} {ks : List Key} {ds : List D} (h0 : ρ[i]? = some (.own p d)) (hd : d = .dic ks ds) (hk : mk ρ = some (k, ρ)) (hg : dGetD d k = some z) : mDGetV i mk ρ = some (z, ρ) := by
  subst hd
  unfold mDGetV
  rw [if_pos (by unfold isDc; rw [h0])]
  refine e_bd hk ?_
  simp only [h0, hg]
  rfl
theorem e_dgetW {i : Nat} {mk : Mo D} {ρ : Cs} {d k z : D} {ks : List Key} {ds : List D} (h0 : ρ[i]? = some (.dat d)) (hd : d = .dic ks ds) (hk : mk ρ = some (k, ρ)) (hg : dGetD d k = some z) : mDGetV i mk ρ = some (z, ρ) := by
  subst hd
  unfold mDGetV
  rw [if_pos (by unfold isDc; rw [h0])]
  refine e_bd hk ?_
  simp only [h0, hg]
  rfl
section
variable (C : Addr)
theorem v_law_is_apart {L : Int} {l : List (Int × Int)} (hn : Norm (-1) l) (hl : l.length ≤ 40000) (hL : ∀ s ∈ l, s.2 ≤ L) : F_law_is_apart C [.int L, .tup (l.map encT)] = some (.bl true) := by
  have big : (60000 : Nat) ≤ sizeLine := by decide
  refine retF ?_
  unfold B_law_is_apart
  have hlc : mLc [3, 4] (iSeq seqT (mVar 1)) (gTp 2 (gsCons (gNm 3) (gsCons (gNm 4) gsNil))) (mC true) (mVar 4) [.dat (.int L), .dat (.tup (l.map encT)), .no, .no, .no, .no] = some (.lst (l.map fun s => D.int s.2), [.dat (.int L), .dat (.tup (l.map encT)), .no, .no, .no, .no]) :=
    e_lcm (α := Int × Int) (vs := [3, 4]) (enc := encT) (f := fun s => D.int s.2) (xs := l) (ρ1 := [.dat (.int L), .dat (.tup (l.map encT)), .no, .no, .no, .no]) rfl rfl (by omega)
      (fun s _ => ⟨(), [.dat (.int L), .dat (.tup (l.map encT)), .no, .dat (.int s.1), .dat (.int s.2), .no], rfl, [.dat (.int L), .dat (.tup (l.map encT)), .no, .dat (.int s.1), .dat (.int s.2), .no], by refine_lift' ev, rfl⟩) rfl
  have hng : mUn dNeg (mC (.int 1)) [.dat (.int L), .dat (.tup (l.map encT)), .no, .no, .no, .no] = some (.int (-1), [.dat (.int L), .dat (.tup (l.map encT)), .no, .no, .no, .no]) := e_un e_c rfl
  have hadd : dAdd (.lst [.int (-1)]) (.lst (l.map fun s => D.int s.2)) = some (.lst (((-1) :: l.map Prod.snd).map D.int)) := by
    show (if _ then _ else _) = _
    rw [if_pos (by simp only [List.length_cons, List.length_nil, List.length_map]; omega), List.map_cons, List.map_map]
    rfl
  refine st_set (e_op (e_lst (e_acons hng e_anil) (len_le (by simp))) hlc hadd) ?_
  refine st_forN (n := l.length) (ρ1 := [.dat (.int L), .dat (.tup (l.map encT)), .dat (.lst (((-1) :: l.map Prod.snd).map D.int)), .no, .no, .no]) ?_
    (fun j ρ => ∃ x y z, ρ = [.dat (.int L), .dat (.tup (l.map encT)), .dat (.lst (((-1) :: l.map Prod.snd).map D.int)), x, y, z]) ⟨_, _, _, rfl⟩ ?_ ?_
  · refine it_rng1 ?_ (by omega)
    have : dLen [.tup (l.map encT)] = some (.int l.length) := by
      show some (D.int ((l.map encT).length : Nat)) = _
      rw [List.length_map]
    exact e_acons (e_fn (e_acons (e_var rfl) e_anil) this) e_anil
  · rintro j ρ hj ⟨x, y, z, rfl⟩
    refine ⟨(), [.dat (.int L), .dat (.tup (l.map encT)), .dat (.lst (((-1) :: l.map Prod.snd).map D.int)), x, y, .dat (.int (0 + (j : Int)))], rfl, ?_⟩
    have ej : (0 : Int) + (j : Int) = j := by omega
    rw [ej]
    obtain ⟨s, hs⟩ : ∃ s, l[j]? = some s := ⟨_, List.getElem?_eq_getElem hj⟩
    have hsm : s ∈ l := List.mem_of_getElem? hs
    have i1 : dIx (.tup (l.map encT)) (.int j) = some (encT s) := ix_tup (by rw [List.getElem?_map, hs]; rfl)
    obtain ⟨v, hv, hvl⟩ : ∃ v, ((-1) :: l.map Prod.snd)[j]? = some v ∧ v < s.1 := by
      cases j with
      | zero => exact ⟨-1, rfl, (hn.low s hsm).1⟩
      | succ i =>
        obtain ⟨r, hr⟩ : ∃ r, l[i]? = some r := ⟨_, List.getElem?_eq_getElem (by omega)⟩
        refine ⟨r.2, by rw [List.getElem?_cons_succ, List.getElem?_map, hr]; rfl, hn.step hr hs⟩
    have i2 : dIx (.lst (((-1) :: l.map Prod.snd).map D.int)) (.int j) = some (.int v) := atI_nat (by rw [List.getElem?_map, hv]; rfl)
    generalize hE : ((-1) :: l.map Prod.snd).map D.int = E at i2 ⊢
    have hlw := hn.low s hsm
    have hsL := hL s hsm
    unfold encT at i1
    have j0 : dIx (.tup [.int s.1, .int s.2]) (.int 0) = some (.int s.1) := rfl
    have j1 : dIx (.tup [.int s.1, .int s.2]) (.int 1) = some (.int s.2) := rfl
    have ht : mTst (mChain3 dLt dLt dLe (mOp dIx (mVar 2) (mVar 5)) (mOp dIx (mOp dIx (mVar 1) (mVar 5)) (mC (.int 0))) (mOp dIx (mOp dIx (mVar 1) (mVar 5)) (mC (.int 1))) (mVar 0)) [.dat (.int L), .dat (.tup (l.map encT)), .dat (.lst E), x, y, .dat (.int j)] = some (true, [.dat (.int L), .dat (.tup (l.map encT)), .dat (.lst E), x, y, .dat (.int j)]) := by
      have c1 : dLt (.int v) (.int s.1) = some (.bl true) := by
        show some (D.bl (decide _)) = _
        rw [decide_eq_true hvl]
      have c2 : dLt (.int s.1) (.int s.2) = some (.bl true) := by
        show some (D.bl (decide _)) = _
        rw [decide_eq_true hlw.2]
      have c3 : dLe (.int s.2) (.int L) = some (.bl true) := by
        show some (D.bl (decide _)) = _
        rw [decide_eq_true hsL]
      exact e_tst (p := true && true && true) (e_chain3 (e_op (e_var rfl) (e_var rfl) i2) (e_op (e_op (e_var rfl) (e_var rfl) i1) e_c j0) c1 (fun _ => e_op (e_op (e_var rfl) (e_var rfl) i1) e_c j1) (fun _ => c2) (fun _ _ => e_var rfl) (fun _ _ => c3))
    refine st_one ?_
    refine st_if (p := false) (e_not ht) (fun z => by cases z) fun _ => ?_
    refine_lift' st
    exact ⟨_, _, _, rfl⟩
  · rintro ρ ⟨x, y, z, rfl⟩
    refine st_one (st_ret (d := .bl true) (e_fn (e_acons (e_var rfl) (e_acons e_c e_anil)) rfl) (rq_rt rfl))
theorem v_law_is_in {k : Int} {l : List (Int × Int)} (hl : l.length ≤ 40000) : F_law_is_in C [.int k, .tup (l.map encT)] = some (.bl (memB k l)) := by
  have big : (60000 : Nat) ≤ sizeLine := by decide
  have hlc := e_lcf (α := Int × Int) (vs := [2, 3]) (it := iSeq seqT (mVar 1)) (g := gTp 2 (gsCons (gNm 2) (gsCons (gNm 3) gsNil))) (t := mTst (mChain dLe dLt (mVar 2) (mVar 0) (mVar 3))) (e := mVar 2) (enc := encT) (f := fun s => D.int s.1) (xs := l) (p := fun s => decide (s.1 ≤ k) && decide (k < s.2)) (ρ := [.dat (.int k), .dat (.tup (l.map encT)), .no, .no]) (ρ1 := [.dat (.int k), .dat (.tup (l.map encT)), .no, .no])
    rfl rfl (by omega) (fun s _ => ⟨(), [.dat (.int k), .dat (.tup (l.map encT)), .dat (.int s.1), .dat (.int s.2)], rfl, [.dat (.int k), .dat (.tup (l.map encT)), .dat (.int s.1), .dat (.int s.2)], e_tst (e_chain (e_var rfl) (e_var rfl) rfl (e_var rfl) rfl), fun _ => rfl, fun _ => ⟨[.dat (.int k), .dat (.tup (l.map encT)), .dat (.int s.1), .dat (.int s.2)], e_var rfl, rfl⟩⟩) rfl
  have hne := ne_nilB (n := 1) (gd_lst (n := 0) (ds := (l.filter fun s => decide (s.1 ≤ k) && decide (k < s.2)).map fun s => D.int s.1) fun d hd => by
    obtain ⟨x, _, rfl⟩ := List.mem_map.mp hd
    exact gd_int 0 _) (by decide) (by decide)
  have e : (!((l.filter fun s => decide (s.1 ≤ k) && decide (k < s.2)).map fun s => D.int s.1).isEmpty) = memB k l := by
    rw [List.isEmpty_map]
    exact memB_fil k l
  rw [e] at hne
  refine retF ?_
  unfold B_law_is_in
  refine sw_ret ?_
  refine st_ret (ρ1 := [.dat (.int k), .dat (.tup (l.map encT)), .no, .no]) (e_op hlc (e_lst e_anil (by decide)) hne) ?_
  exact rq_rt rfl
theorem v_law_is_touched {p : Ps} {l : List (Int × Int)} (h6 : p.touches.length ≤ 6) (hl : l.length ≤ 40000) (h : ∀ s ∈ l, ∃ q ∈ p.touches, q.1 ≤ s.1 ∧ s.2 ≤ q.2) : F_law_is_touched C [encP p, .tup (l.map encT)] = some (.bl true) := by
  have i4 : dIx (encP p) (.int 4) = some (.tup (p.touches.map encT)) := rfl
  generalize hA : encP p = A at i4
  generalize hT : D.tup (l.map encT) = T
  refine retF ?_
  unfold B_law_is_touched
  refine st_for (α := Int × Int) (enc := encT) (xs := l) (ρ1 := [.dat A, .dat T, .no, .no, .no, .no]) (e_bd (v := T) (ρ1 := [.dat A, .dat T, .no, .no, .no, .no]) (e_var rfl) (e_l (by rw [← hT]; rfl))) (fun _ ρ => ∃ x y, ρ = [.dat A, .dat T, x, y, .no, .no]) ⟨_, _, rfl⟩ ?_ ?_
  · rintro ys s zs ρ e ⟨x, y, rfl⟩
    have hs : s ∈ l := by rw [e]; exact List.mem_append_right _ List.mem_cons_self
    obtain ⟨q, hq, q1, q2⟩ := h s hs
    have hlc := e_lcf (α := Int × Int) (vs := [4, 5]) (it := iSeq seqT (mOp dIx (mVar 0) (mC (.int 4)))) (g := gTp 2 (gsCons (gNm 4) (gsCons (gNm 5) gsNil))) (t := mAnd (mTst (mOp dLe (mVar 4) (mVar 2))) (mTst (mOp dLe (mVar 3) (mVar 5)))) (e := mVar 4) (enc := encT) (f := fun q => D.int q.1) (xs := p.touches) (p := fun q => decide (q.1 ≤ s.1) && decide (s.2 ≤ q.2)) (ρ := [.dat A, .dat T, .dat (.int s.1), .dat (.int s.2), .no, .no]) (ρ1 := [.dat A, .dat T, .dat (.int s.1), .dat (.int s.2), .no, .no])
      (e_bd (v := .tup (p.touches.map encT)) (ρ1 := [.dat A, .dat T, .dat (.int s.1), .dat (.int s.2), .no, .no]) (e_op (e_var rfl) e_c i4) (e_l rfl)) rfl (len_le (by omega)) (fun q _ => ⟨(), [.dat A, .dat T, .dat (.int s.1), .dat (.int s.2), .dat (.int q.1), .dat (.int q.2)], rfl, [.dat A, .dat T, .dat (.int s.1), .dat (.int s.2), .dat (.int q.1), .dat (.int q.2)], e_and (e_tst (e_op (e_var rfl) (e_var rfl) rfl)) (e_tst (e_op (e_var rfl) (e_var rfl) rfl)), fun _ => rfl, fun _ => ⟨[.dat A, .dat T, .dat (.int s.1), .dat (.int s.2), .dat (.int q.1), .dat (.int q.2)], e_var rfl, rfl⟩⟩) rfl
    have hqe := eq_nilB (n := 1) (gd_lst (n := 0) (ds := (p.touches.filter fun q => decide (q.1 ≤ s.1) && decide (s.2 ≤ q.2)).map fun q => D.int q.1) fun d hd => by
      obtain ⟨x, _, rfl⟩ := List.mem_map.mp hd
      exact gd_int 0 _) (by decide) (by decide)
    have em : ((p.touches.filter fun q => decide (q.1 ≤ s.1) && decide (s.2 ≤ q.2)).map fun q => D.int q.1).isEmpty = false := by
      rw [List.isEmpty_map]
      have hm : q ∈ p.touches.filter fun q => decide (q.1 ≤ s.1) && decide (s.2 ≤ q.2) := List.mem_filter.mpr ⟨hq, by rw [decide_eq_true q1, decide_eq_true q2]; rfl⟩
      cases hz : p.touches.filter fun q => decide (q.1 ≤ s.1) && decide (s.2 ≤ q.2) with
      | nil => rw [hz] at hm; cases hm
      | cons => rfl
    rw [em] at hqe
    refine ⟨(), [.dat A, .dat T, .dat (.int s.1), .dat (.int s.2), .no, .no], rfl, ?_⟩
    refine sw_if (st_if (p := false) (ρ1 := [.dat A, .dat T, .dat (.int s.1), .dat (.int s.2), .no, .no]) (e_tst (e_op hlc (e_lst e_anil (by decide)) hqe)) (fun z => by cases z) fun _ => ?_)
    refine st_nx ?_
    exact ⟨_, _, rfl⟩
  · rintro ρ ⟨x, y, rfl⟩
    refine_lift' st
    exact rq_rt rfl
end
end My
set_option exponentiation.threshold 20000
namespace My
open PySem PySem.Spec PyProof.Rows L2 DL
theorem encTm_injC {x y : Tm} (h : encTm x = encTm y) : x = y := by
  obtain ⟨n, a, w1, w2⟩ := x
  obtain ⟨m, b, v1, v2⟩ := y
  unfold encTm encW at h
  simp only [D.tup.injEq, List.cons.injEq, D.str.injEq, D.int.injEq, and_true] at h
  obtain ⟨h1, h2, h3, h4⟩ := h
  rw [h1, h2, h3, h4]
section
variable (C : Addr)
set_option maxHeartbeats 8000000 in
theorem v_law_right {m : Nat} {u : Pur} (hu : PurOk (m + 400) u) : ∃ u' : Pur, F_law_right C (encPu u) [] = some (.bl true, encPu u') ∧ PurOk m u' := by
  have : ∃ r e, runO 1 11 (B_law_right C) (encPu u) [] = some (r, e) ∧ ∃ u' : Pur, r = .bl true ∧ e = encPu u' ∧ PurOk m u' := by
    refine retOE ?_
    unfold B_law_right
    obtain ⟨L, ps, u0, e0, l1, l2, hps, ht3, hgs, hu0⟩ := v_law_far_row C (m := m + 80) (hu.mono (by omega))
    have hb : ∀ p ∈ ps, BodyOk L p := fun p hp => (b_of_pass (hps.ok p hp)).1
    have h8 := hps.len
    have few : (edgesAll L ps).length + 1 < 4096 := by
      have := far_few (L := L) (ps := ps) fun p hp => ⟨hb p hp, ht3 p hp⟩
      omega
    have hL : 1 ≤ L := by omega
    have one : One L ps := ⟨hps, hL, l2, few⟩
    have mk := v_Track_init C L ps hps (by omega) l2
    obtain ⟨ks, u1, e2, hk0, hk1, hk2, hu1⟩ := v_law_spots C (m := m) hu0 (ps := ps) (by omega) l2 h8 (fun p hp => by have := ht3 p hp; omega)
    have ndn : (ps.map Ps.name ++ [("old" : Str)]).Nodup := by
      refine List.nodup_append.mpr ⟨hps.nd, by simp, fun a ha b hb' => ?_⟩
      rw [List.mem_singleton.mp hb']
      obtain ⟨p, hp, rfl⟩ := List.mem_map.mp ha
      exact (b_of_pass (hps.ok p hp)).2.2
    have pick : ∀ n : Str, ∃ l : List (Int × Int), (n ∈ ps.map Ps.name → F_heard C [encTr C L ps, .str n] = some (.tup (l.map encT))) ∧ (n = "old" → F_old_heard C [encTr C L ps] = some (.tup (l.map encT))) ∧ (n ∈ ps.map Ps.name ++ [("old" : Str)] → Norm (-1) l ∧ (∀ t, Mem t l ↔ Heard L ps n t) ∧ l.length ≤ 36900) := fun n => by
      by_cases hn : n ∈ ps.map Ps.name
      · obtain ⟨p, hp, rfl⟩ := List.mem_map.mp hn
        obtain ⟨a, hpa⟩ := List.getElem?_of_mem hp
        obtain ⟨l, h1, h2⟩ := v_heard C one (n := p.name) (by rw [place_at hps.nd hpa]; rfl)
        exact ⟨l, fun _ => h1, fun e => absurd e (b_of_pass (hps.ok p hp)).2.2, fun _ => h2⟩
      · by_cases ho : n = "old"
        · obtain ⟨l, h1, h2⟩ := v_old_heard C one
          rw [ho]
          exact ⟨l, fun z => absurd (ho ▸ z) hn, fun _ => h1, fun _ => h2⟩
        · refine ⟨[], fun z => absurd z hn, fun z => absurd z ho, fun z => ?_⟩
          rcases List.mem_append.mp z with z | z
          · exact absurd z hn
          · exact absurd (List.mem_singleton.mp z) ho
    obtain ⟨H, hH⟩ : ∃ H : Str → List (Int × Int), ∀ n, (n ∈ ps.map Ps.name → F_heard C [encTr C L ps, .str n] = some (.tup ((H n).map encT))) ∧ (n = "old" → F_old_heard C [encTr C L ps] = some (.tup ((H n).map encT))) ∧ (n ∈ ps.map Ps.name ++ [("old" : Str)] → Norm (-1) (H n) ∧ (∀ t, Mem t (H n) ↔ Heard L ps n t) ∧ (H n).length ≤ 36900) := ⟨fun n => Classical.choose (pick n), fun n => Classical.choose_spec (pick n)⟩
    have oh := (hH "old").2.1 rfl
    obtain ⟨lk, kp, kn, km, kl⟩ := v_kept C one
    have hhr : ∀ p ∈ ps, F_heard C [encTr C L ps, .str p.name] = some (.tup ((H p.name).map encT)) := fun p hp => (hH p.name).1 (List.mem_map.mpr ⟨p, hp, rfl⟩)
    have tch : ∀ p ∈ ps, F_law_is_touched C [encP p, .tup ((H p.name).map encT)] = some (.bl true) := fun p hp => by
      have hm : p.name ∈ ps.map Ps.name ++ [("old" : Str)] := List.mem_append_left _ (List.mem_map.mpr ⟨p, hp, rfl⟩)
      obtain ⟨n1, n2, n3⟩ := (hH p.name).2.2 hm
      exact v_law_is_touched C (by have := ht3 p hp; omega) (by omega) (heard_in_touch one hp n1 n2)
    have apt : ∀ n ∈ ps.map Ps.name ++ [("old" : Str)], F_law_is_apart C [.int L, .tup ((H n).map encT)] = some (.bl true) := fun n hn => by
      obtain ⟨n1, n2, n3⟩ := (hH n).2.2 hn
      exact v_law_is_apart C n1 (by omega) (heard_high one n1 n2)
    have aptK : F_law_is_apart C [.int L, .tup (lk.map encT)] = some (.bl true) := v_law_is_apart C kn (by omega) fun s hs => by
      have a := kn.low s hs
      have := (km (s.2 - 1)).mp ⟨s, hs, by omega, by omega⟩
      omega
    have isin := fun k (l : List (Int × Int)) (h : l.length ≤ 40000) => v_law_is_in C (k := k) h
    have inK : ∀ k, 0 ≤ k → k < L → memB k lk = oldB L ps k := fun k k0 k1 => by
      rw [Bool.eq_iff_iff, memB_iff, km]
      exact ⟨fun z => z.2.2, fun z => ⟨k0, k1, z⟩⟩
    have inH : ∀ k, 0 ≤ k → k < L → ∀ t ∈ formT L ps k, t.name ∈ ps.map Ps.name ++ [("old" : Str)] ∧ memB t.at' (H t.name) = true ∧ (H t.name).length ≤ 40000 := fun k k0 k1 t ht => by
      have hm : t.name ∈ ps.map Ps.name ++ [("old" : Str)] := by
        obtain ⟨ts, hf⟩ := form_facts hps k0 (by omega)
        have ef : formT L ps k = ts := by
          have e2 := hf.f
          rw [formD_T hps] at e2
          injection e2 with e2
          exact (List.map_inj_right (fun x y z => encTm_injC z)).mp e2
        rw [ef] at ht
        rcases (hf.t t ht).src with z | ⟨p, hp, en, _⟩
        · rw [z]; exact List.mem_append_right _ List.mem_cons_self
        · rw [← en]; exact List.mem_append_left _ (List.mem_map.mpr ⟨p, hp, rfl⟩)
      obtain ⟨n1, n2, n3⟩ := (hH t.name).2.2 hm
      exact ⟨hm, memB_iff.mpr ((n2 t.at').mpr ⟨k, k0, k1, t, ht, rfl, rfl⟩), by omega⟩
    have f1 := fun t => v_law_form C (t := t) hps
    have rp : ∀ k, 0 ≤ k → k < L → dRepr [formD L ps k] = some (.str (toP (formD L ps k)).shown) := fun k k0 k1 => form_repr hps k0 (by omega)
    have rpo : ∀ k, 0 ≤ k → k < L → dRepr [.tup [encTm (oldT k)]] = some (.str (toP (.tup [encTm (oldT k)])).shown) := fun k k0 k1 => old_repr k0 (by omega)
    have req : ∀ k, 0 ≤ k → dEq (.str (toP (formD L ps k)).shown) (.str (toP (.tup [encTm (oldT k)])).shown) = some (.bl (oldB L ps k)) := fun k k0 => by
      show some (D.bl (decide _)) = _
      rw [repr_old hps k0]
    have fT := fun k => formD_T hps k
    have flen : ∀ k, (formT L ps k).length ≤ 9 := fun k => by have := formT_len (L := L) (t := k) (ps := ps); omega
    have ndps : (ps.map Ps.name).Nodup := hps.nd
    generalize hNS : ps.map Ps.name ++ [("old" : Str)] = NS at *
    have gk : ∀ n ∈ NS, dGetD (kD H NS) (.str n) = some (.tup ((H n).map encT)) := fun n hn => get_kD H hn
    have hKD : ∃ KD, KD = kD H NS := ⟨_, rfl⟩
    obtain ⟨KD, hKD⟩ := hKD
    rw [← hKD] at gk
    have hKe : KD = .dic (NS.map fun n => Sum.inr n) (NS.map fun n => .tup ((H n).map encT)) := hKD
    have hNl : NS.length ≤ 9 := by rw [← hNS]; simp; omega
    generalize hP : D.tup (ps.map encP) = P at e0 e2 mk f1
    generalize encTr C L ps = M at mk oh kp hhr
    refine_lift' st [e0]
    refine st_par (ds := [M, .dic [] []]) (ρ1 := [.own true (encPu u0), .dat (.int L), .dat P, .no, .no, .no, .no, .no, .no, .no, .no, .no]) (ρ2 := [.own true (encPu u0), .dat (.int L), .dat P, .dat M, .own false (.dic [] []), .no, .no, .no, .no, .no, .no, .no]) (e_acons (by refine_lift' eva [mk]) (e_acons rfl e_anil)) rfl ?_
    refine st_for (α := Ps) (enc := encP) (xs := ps) (ρ1 := [.own true (encPu u0), .dat (.int L), .dat P, .dat M, .own false (.dic [] []), .no, .no, .no, .no, .no, .no, .no]) (e_bd (v := P) (ρ1 := [.own true (encPu u0), .dat (.int L), .dat P, .dat M, .own false (.dic [] []), .no, .no, .no, .no, .no, .no, .no]) (e_var rfl) (e_l (by rw [← hP]; rfl))) (fun ys ρ => ∃ x5, ρ = [.own true (encPu u0), .dat (.int L), .dat P, .dat M, .own false (kD H (ys.map Ps.name)), x5, .no, .no, .no, .no, .no, .no] ∧ (x5 = .no ∨ ∃ d, x5 = .dat d)) ⟨_, rfl, .inl rfl⟩ ?_ ?_
    · rintro ys p zs ρ e ⟨x5, rfl, _⟩
      have hp : p ∈ ps := by rw [e]; exact List.mem_append_right _ List.mem_cons_self
      have i0 : dIx (encP p) (.int 0) = some (.str p.name) := rfl
      have hr := hhr p hp
      have tc := tch p hp
      have hnew : p.name ∉ ys.map Ps.name := fun z => by
        rw [e, List.map_append, List.map_cons, List.nodup_append] at ndps
        exact ndps.2.2 p.name z p.name List.mem_cons_self rfl
      have hyl : ys.length ≤ 8 := by
        have := congrArg List.length e
        rw [List.length_append] at this
        omega
      refine ⟨(), [.own true (encPu u0), .dat (.int L), .dat P, .dat M, .own false (kD H (ys.map Ps.name)), .dat (encP p), .no, .no, .no, .no, .no, .no], rfl, ?_⟩
      refine st_dput (ks0 := (ys.map Ps.name).map fun n => Sum.inr n) (ds0 := (ys.map Ps.name).map fun n => .tup ((H n).map encT)) (ks := (ys.map Ps.name).map fun n => Sum.inr n) (ds := (ys.map Ps.name).map fun n => .tup ((H n).map encT)) (p := false) (q := false) (kk := Sum.inr p.name) (v := .tup ((H p.name).map encT)) (kd := .str p.name) (ρ1 := [.own true (encPu u0), .dat (.int L), .dat P, .dat M, .own false (kD H (ys.map Ps.name)), .dat (encP p), .no, .no, .no, .no, .no, .no]) (ρ2 := [.own true (encPu u0), .dat (.int L), .dat P, .dat M, .own false (kD H (ys.map Ps.name)), .dat (encP p), .no, .no, .no, .no, .no, .no]) rfl (e_fn (e_acons (e_var rfl) (e_acons (e_op (e_var rfl) e_c i0) e_anil)) hr) (e_op (e_var rfl) e_c i0) rfl rfl (by rw [List.length_map, List.length_map]; omega) ?_
      rw [put_kD H hnew]
      have g2 : dGetD (kD H (ys.map Ps.name ++ [p.name])) (.str p.name) = some (.tup ((H p.name).map encT)) := get_kD H (List.mem_append_right _ List.mem_cons_self)
      have hm2 : ys.map Ps.name ++ [p.name] = (ys ++ [p]).map Ps.name := by rw [List.map_append]; rfl
      rw [hm2] at g2 ⊢
      have hk2 : kD H ((ys ++ [p]).map Ps.name) = .dic (((ys ++ [p]).map Ps.name).map fun n => Sum.inr n) (((ys ++ [p]).map Ps.name).map fun n => .tup ((H n).map encT)) := rfl
      obtain ⟨KD', hKD'⟩ : ∃ K, K = kD H ((ys ++ [p]).map Ps.name) := ⟨_, rfl⟩
      rw [← hKD'] at g2 hk2 ⊢
      refine sw_if (st_if (p := !true) (ρ1 := [.own true (encPu u0), .dat (.int L), .dat P, .dat M, (Cell.own false KD'), .dat (encP p), .no, .no, .no, .no, .no, .no]) (e_not (e_tst (e_fn (e_acons (e_var rfl) (e_acons (e_dgetV rfl hk2 (e_op (e_var rfl) e_c i0) g2) e_anil)) tc))) (fun z => by cases z) fun _ => ?_)
      refine st_nx ?_
      exact ⟨.dat (encP p), by rw [hKD'], .inr ⟨_, rfl⟩⟩
    · rintro ρ ⟨x5, rfl, hx5⟩
      have hold : ("old" : Str) ∉ ps.map Ps.name := fun z => by
        obtain ⟨p, hp, e⟩ := List.mem_map.mp z
        exact (b_of_pass (hps.ok p hp)).2.2 e
      have hput : gDPut 4 (mC (.str "old")) (.tup ((H "old").map encT)) [.own true (encPu u0), .dat (.int L), .dat P, .dat M, .own false (kD H (ps.map Ps.name)), x5, .no, .no, .no, .no, .no, .no] = some ((), [.own true (encPu u0), .dat (.int L), .dat P, .dat M, .own false KD, x5, .no, .no, .no, .no, .no, .no]) := by
        unfold gDPut
        rw [if_pos (by rfl)]
        refine e_bd e_c ?_
        have hl : ((ps.map Ps.name).map fun n => (Sum.inr n : Key)).length < sizeLine := by
          rw [List.length_map, List.length_map]
          exact Nat.lt_of_lt_of_le (by omega : ps.length < 200) (len_le (by omega))
        have := put_kD H hold
        rw [hNS, ← hKD] at this
        rw [← this]
        exact if_pos hl
      have hasg : gTp 2 (gsCons (gDPut 4 (mC (.str "old"))) (gsCons (gNm 6) gsNil)) (.tup [.tup ((H "old").map encT), .tup (lk.map encT)]) [.own true (encPu u0), .dat (.int L), .dat P, .dat M, .own false (kD H (ps.map Ps.name)), x5, .no, .no, .no, .no, .no, .no] = some ((), [.own true (encPu u0), .dat (.int L), .dat P, .dat M, .own false KD, x5, .dat (.tup (lk.map encT)), .no, .no, .no, .no, .no]) := by
        have e1 : gTp 2 (gsCons (gDPut 4 (mC (.str "old"))) (gsCons (gNm 6) gsNil)) (.tup [.tup ((H "old").map encT), .tup (lk.map encT)]) = gsCons (gDPut 4 (mC (.str "old"))) (gsCons (gNm 6) gsNil) [.tup ((H "old").map encT), .tup (lk.map encT)] := rfl
        rw [e1]
        exact e_bd hput rfl
      refine st_asg (d := .tup [.tup ((H "old").map encT), .tup (lk.map encT)]) (ρ1 := [.own true (encPu u0), .dat (.int L), .dat P, .dat M, .own false (kD H (ps.map Ps.name)), x5, .no, .no, .no, .no, .no, .no]) (ρ2 := [.own true (encPu u0), .dat (.int L), .dat P, .dat M, .own false KD, x5, .dat (.tup (lk.map encT)), .no, .no, .no, .no, .no]) (e_tup (e_acons (e_fn (e_acons (e_var rfl) e_anil) oh) (e_acons (e_fn (e_acons (e_var rfl) e_anil) kp) e_anil)) (len_le (by simp))) hasg ?_
      have hkeys : mKeys 4 [.own true (encPu u0), .dat (.int L), .dat P, .dat M, .own false KD, x5, .dat (.tup (lk.map encT)), .no, .no, .no, .no, .no] = some ((NS.map D.str), [.own true (encPu u0), .dat (.int L), .dat P, .dat M, .dat KD, x5, .dat (.tup (lk.map encT)), .no, .no, .no, .no, .no]) := by
        refine e_bd (v := KD) (ρ1 := [.own true (encPu u0), .dat (.int L), .dat P, .dat M, .dat KD, x5, .dat (.tup (lk.map encT)), .no, .no, .no, .no, .no]) rfl ?_
        rw [hKe]
        show some (((NS.map fun n => (Sum.inr n : Key)).map keyD), _) = _
        rw [List.map_map]
        rfl
      have hlc := e_lcm (α := Str) (vs := [5]) (it := mKeys 4) (g := gNm 5) (e := mFn (F_law_is_apart C) (aCons (mVar 1) (aCons (mDGetV 4 (mVar 5)) aNil))) (enc := D.str) (f := fun _ => D.bl true) (xs := NS) (ρ := [.own true (encPu u0), .dat (.int L), .dat P, .dat M, .own false KD, x5, .dat (.tup (lk.map encT)), .no, .no, .no, .no, .no]) (ρ1 := [.own true (encPu u0), .dat (.int L), .dat P, .dat M, .dat KD, x5, .dat (.tup (lk.map encT)), .no, .no, .no, .no, .no]) hkeys (by rcases hx5 with rfl | ⟨d, rfl⟩ <;> rfl) (len_le (by omega)) (fun n hn => ⟨(), [.own true (encPu u0), .dat (.int L), .dat P, .dat M, .dat KD, .dat (.str n), .dat (.tup (lk.map encT)), .no, .no, .no, .no, .no], by rcases hx5 with rfl | ⟨d, rfl⟩ <;> rfl, [.own true (encPu u0), .dat (.int L), .dat P, .dat M, .dat KD, .dat (.str n), .dat (.tup (lk.map encT)), .no, .no, .no, .no, .no], e_fn (e_acons (e_var rfl) (e_acons (e_dgetW rfl hKe (e_var rfl) (gk n hn)) e_anil)) (apt n hn), by rcases hx5 with rfl | ⟨d, rfl⟩ <;> rfl⟩) (by rcases hx5 with rfl | ⟨d, rfl⟩ <;> rfl)
      have hall : dAll [.lst (NS.map fun _ => D.bl true)] = some (.bl true) := by
        have := all_map (fun _ : Str => true) NS
        rw [this]
        congr 2
        exact List.all_eq_true.mpr fun _ _ => rfl
      obtain ⟨y5, hy5⟩ : ∃ y5, back [5] [.own true (encPu u0), .dat (.int L), .dat P, .dat M, .dat KD, x5, .dat (.tup (lk.map encT)), .no, .no, .no, .no, .no] (clr [5] [.own true (encPu u0), .dat (.int L), .dat P, .dat M, .dat KD, x5, .dat (.tup (lk.map encT)), .no, .no, .no, .no, .no]) = [.own true (encPu u0), .dat (.int L), .dat P, .dat M, .dat KD, y5, .dat (.tup (lk.map encT)), .no, .no, .no, .no, .no] := by rcases hx5 with rfl | ⟨d, rfl⟩ <;> exact ⟨_, rfl⟩
      rw [hy5] at hlc
      refine st_if (p := !true || !true) (ρ1 := [.own true (encPu u0), .dat (.int L), .dat P, .dat M, .dat KD, y5, .dat (.tup (lk.map encT)), .no, .no, .no, .no, .no]) (e_or (e_not (e_tst (e_fn (e_acons hlc e_anil) hall))) (e_not (e_tst (e_fn (e_acons (e_var rfl) (e_acons (e_var rfl) e_anil)) aptK)))) (fun z => by cases z) fun _ => ?_
      refine st_nx ?_
      refine st_for (α := Int) (enc := D.int) (xs := ks) (ρ1 := [.own true (encPu u1), .dat (.int L), .dat P, .dat M, .dat KD, y5, .dat (.tup (lk.map encT)), .no, .no, .no, .no, .no]) (e_bd (v := .lst (ks.map D.int)) (ρ1 := [.own true (encPu u1), .dat (.int L), .dat P, .dat M, .dat KD, y5, .dat (.tup (lk.map encT)), .no, .no, .no, .no, .no]) (e_callO (ρ1 := [.own true (encPu u0), .dat (.int L), .dat P, .dat M, .dat KD, y5, .dat (.tup (lk.map encT)), .no, .no, .no, .no, .no]) (d1 := encPu u0) (p := true) (q := true) rfl (e_acons (e_var rfl) (e_acons (e_var rfl) e_anil)) rfl e2) (e_l rfl)) (fun _ ρ => ∃ x7 x8, ρ = [.own true (encPu u1), .dat (.int L), .dat P, .dat M, .dat KD, y5, .dat (.tup (lk.map encT)), x7, x8, .no, .no, .no]) ⟨_, _, rfl⟩ ?_ ?_
      · rintro ys k zs ρ e ⟨x7, x8, rfl⟩
        obtain ⟨k0, k1⟩ := hk0 k (by rw [e]; exact List.mem_append_right _ List.mem_cons_self)
        have ff := f1 k
        have r1 := rp k k0 k1
        have r2 := rpo k k0 k1
        have r3 := req k k0
        have ik := inK k k0 k1
        have sin := isin k lk (by omega)
        rw [ik] at sin
        have hne : dNe (.bl (oldB L ps k)) (.bl (oldB L ps k)) = some (.bl false) := by cases oldB L ps k <;> rfl
        have hih := inH k k0 k1
        have fe := fT k
        have fl := flen k
        generalize formD L ps k = FK at ff r1 r3 fe
        generalize (toP FK).shown = X1 at r1 r3
        have eo : D.tup [encTm (oldT k)] = .tup [.tup [.str "old", .int k, .tup [.int 1, .int 1]]] := rfl
        rw [eo] at r2 r3
        generalize (toP (.tup [.tup [.str "old", .int k, .tup [.int 1, .int 1]]])).shown = X2 at r2 r3
        generalize oldB L ps k = ob at sin hne r3
        generalize formT L ps k = ts at hih fe fl
        refine ⟨(), [.own true (encPu u1), .dat (.int L), .dat P, .dat M, .dat KD, y5, .dat (.tup (lk.map encT)), .dat (.int k), x8, .no, .no, .no], rfl, ?_⟩
        refine st_set (d := FK) (ρ1 := [.own true (encPu u1), .dat (.int L), .dat P, .dat M, .dat KD, y5, .dat (.tup (lk.map encT)), .dat (.int k), x8, .no, .no, .no]) (e_fn (e_acons (e_var rfl) (e_acons (e_var rfl) (e_acons (e_var rfl) e_anil))) ff) ?_
        refine st_if (p := false) (ρ1 := [.own true (encPu u1), .dat (.int L), .dat P, .dat M, .dat KD, y5, .dat (.tup (lk.map encT)), .dat (.int k), .dat FK, .no, .no, .no]) (e_tst (e_op (e_fn (e_acons (e_var rfl) (e_acons (e_var rfl) e_anil)) sin) (e_op (e_fn (e_acons (e_var rfl) e_anil) r1) (e_fn (e_acons (e_tup (e_acons (e_tup (e_acons e_c (e_acons (e_var rfl) (e_acons (e_tup (e_acons e_c (e_acons e_c e_anil)) (len_le (by simp))) e_anil))) (len_le (by simp))) e_anil) (len_le (by simp))) e_anil) r2) r3) hne)) (fun z => by cases z) fun _ => ?_
        refine st_nx ?_
        have hlc2 := e_lcm (α := Tm) (vs := [9, 10, 11]) (it := iSeq seqT (mVar 8)) (g := gTp 3 (gsCons (gNm 9) (gsCons (gNm 10) (gsCons (gNm 11) gsNil)))) (e := mFn (F_law_is_in C) (aCons (mVar 10) (aCons (mDGetV 4 (mVar 9)) aNil))) (enc := encTm) (f := fun _ => D.bl true) (xs := ts) (ρ := [.own true (encPu u1), .dat (.int L), .dat P, .dat M, .dat KD, y5, .dat (.tup (lk.map encT)), .dat (.int k), .dat FK, .no, .no, .no]) (ρ1 := [.own true (encPu u1), .dat (.int L), .dat P, .dat M, .dat KD, y5, .dat (.tup (lk.map encT)), .dat (.int k), .dat FK, .no, .no, .no]) (e_bd (v := FK) (ρ1 := [.own true (encPu u1), .dat (.int L), .dat P, .dat M, .dat KD, y5, .dat (.tup (lk.map encT)), .dat (.int k), .dat FK, .no, .no, .no]) (e_var rfl) (e_l (by rw [fe]; rfl))) rfl (len_le (by omega)) (fun t ht => ⟨(), [.own true (encPu u1), .dat (.int L), .dat P, .dat M, .dat KD, y5, .dat (.tup (lk.map encT)), .dat (.int k), .dat FK, .dat (.str t.name), .dat (.int t.at'), .dat (encW t.wt)], rfl, [.own true (encPu u1), .dat (.int L), .dat P, .dat M, .dat KD, y5, .dat (.tup (lk.map encT)), .dat (.int k), .dat FK, .dat (.str t.name), .dat (.int t.at'), .dat (encW t.wt)], by
          obtain ⟨q1, q2, q3⟩ := hih t ht
          have s := isin t.at' (H t.name) q3
          rw [q2] at s
          exact e_fn (e_acons (e_var rfl) (e_acons (e_dgetW rfl hKe (e_var rfl) (gk t.name q1)) e_anil)) s, rfl⟩) rfl
        have hall2 : dAll [.lst (ts.map fun _ => D.bl true)] = some (.bl true) := by
          have := all_map (fun _ : Tm => true) ts
          rw [this]
          congr 2
          exact List.all_eq_true.mpr fun _ _ => rfl
        refine sw_if (st_if (p := !true) (ρ1 := [.own true (encPu u1), .dat (.int L), .dat P, .dat M, .dat KD, y5, .dat (.tup (lk.map encT)), .dat (.int k), .dat FK, .no, .no, .no]) (e_not (e_tst (e_fn (e_acons hlc2 e_anil) hall2))) (fun z => by cases z) fun _ => ?_)
        refine st_nx ?_
        exact ⟨_, _, rfl⟩
      · rintro ρ ⟨x7, x8, rfl⟩
        refine_lift' st
        exact ro_rt ⟨u1, rfl, rfl, hu1⟩
  obtain ⟨r, e, h1, u', rfl, rfl, h2⟩ := this
  exact ⟨u', h1, h2⟩
theorem v_law {ns : List Int} (hb : ∀ z ∈ ns, Builtin.Int.intBits z ≤ 1048576) : F_law C [.scr ns] = some (.bl true) := by
  obtain ⟨n, hn, n5⟩ : ∃ n : Nat, (if (if (4 : Int) < (ns.length : Int) then 4 else (ns.length : Int)) > 2 then (if (4 : Int) < (ns.length : Int) then 4 else (ns.length : Int)) else 2) = (n : Int) ∧ n ≤ 4 := by
    refine ⟨(if (if (4 : Int) < (ns.length : Int) then 4 else (ns.length : Int)) > 2 then (if (4 : Int) < (ns.length : Int) then 4 else (ns.length : Int)) else 2).toNat, ?_, ?_⟩ <;> split <;> (try split) <;> omega
  have m1 : dMin [.int ns.length, .int 4] = some (.int (if (4 : Int) < (ns.length : Int) then 4 else (ns.length : Int))) := rfl
  have m2 : dMax [.int 2, .int (if (4 : Int) < (ns.length : Int) then 4 else (ns.length : Int))] = some (.int n) := by
    rw [← hn]; rfl
  have hl : dLen [.scr ns] = some (.int ns.length) := rfl
  refine retF ?_
  unfold B_law
  refine st_forN (n := n) (ρ1 := [.dat (.scr ns), .no]) ?_ (fun j ρ => ∃ x, ρ = [.dat (.scr ns), x]) ⟨_, rfl⟩ ?_ ?_
  · refine it_rng1 ?_ (by omega)
    refine_lift' eva [hl, m1, m2]
  · rintro j ρ hj ⟨x, rfl⟩
    obtain ⟨u, hp, hu⟩ := v_law_purse C hb (k := j) (by omega)
    obtain ⟨e1, hr, _⟩ := v_law_right C (m := 100) (u := u) (hu.mono (by omega))
    refine ⟨(), [.dat (.scr ns), .dat (.int (j : Int))], by rw [show (0 : Int) + (j : Int) = (j : Int) by omega]; rfl, ?_⟩
    refine_lift' st [hp, hr]
    · intro h; cases h
    · intro _
      refine_lift' st
      exact ⟨_, rfl⟩
  · rintro ρ ⟨x, rfl⟩
    refine_lift' st
    exact rq_rt rfl
end
end My
namespace My
open PySem PySem.Spec PyProof.Rows L2 DL
theorem sqL_fz {K : PySem.W.Frag} {H : Hp} {a : Addr} {xs : List V} (o : Only H) (h : SqL K H a xs) : SqL K (fz H) a xs := by
  rcases h with (h | ⟨ob, h⟩) | h
  · rcases o a with z | ⟨_, _, z⟩
    · rw [h] at z; cases z
    · rw [h] at z; cases z
  · exact .inl (.inr ⟨_, fz_of h⟩)
  · exact .inr h
def spEnd (K : PySem.W.Frag) : Sp := fun vs H Q _ => ∃ (s : Addr) (ns : List Int), vs = [.ref s] ∧ SqL K (fz H) s (ns.map V.int) ∧ ns.length ≤ 63 ∧ (∀ z ∈ ns, Builtin.Int.intBits z ≤ 1048576) ∧ ∀ H', Q (.bl true) H'
theorem spEnd_of {P : Program} {w : World} {K : PySem.W.Frag} {mg : Str → Option Value} {base : Heap} {k : Nat} {f : Addr} {fd : FuncData} {F : List D → Option D} (h : FnG P w K mg base CX0 k f fd ["script"] (spF K 1 F))
    (t : ∀ ns : List Int, ns.length ≤ 63 → (∀ z ∈ ns, Builtin.Int.intBits z ≤ 1048576) → F [.scr ns] = some (.bl true)) : FnG P w K mg base CX0 k f fd ["script"] (spEnd K) := by
  have go : ∀ vs H Q E, spEnd K vs H Q E → spF K 1 F vs H Q E := by
    rintro vs H Q E ⟨s, ns, rfl, hS, hl, hb, q⟩
    exact ⟨fun _ => False, [.scr ns], .bl true, fun _ z => z.elim, .cons (.scr hS) .nil, rfl, t ns hl hb, fun u H' _ hd => by cases hd; exact q H'⟩
  exact ⟨fun vs H Q E q => h.size vs H Q E (go _ _ _ _ q), fun A outer s H args us vs Q E hg hr he hb hv hs => h.runs A outer s H args us vs Q E hg hr he hb hv (go _ _ _ _ hs)⟩
theorem fin_mk {P : Program} {w : World} {K : PySem.W.Frag} {mg : Str → Option Value} {fa fl : Addr} (hfa : mg "law" = some (.ref fa)) (h : ∃ T : Txt w.params K mg, T.law.f = fl) :
    ∃ fd : FuncData, (∀ (s : Shared) (u : Value), BindsTo s fd ⟨[u], []⟩ [("script", u)]) ∧ ∀ base : Heap, K.In base → base.Ns mainGlobals mg → FnG P w K mg base CX0 15 fa fd ["script"] (spEnd K) := by
  obtain ⟨T, _⟩ := h
  have e := hfa.symm.trans T.law.g
  obtain ⟨oc, od, kV, doc, pm, an, cdv, ct, osl, e2, lk, hcd⟩ := T.law.F.ex
  injection e with e
  injection e with e
  subst e
  refine ⟨T.law.fd, fun s u => ?_, fun base _ _ => spEnd_of (ok_law T) fun ns hl hb => v_law T.C hb⟩
  rw [e2]
  exact .of_eq rfl
end My
open PySem PySem.W PyProof.Rows
set_option maxRecDepth 100000 in
set_option maxHeartbeats 0 in
theorem PySem.Challenge.cw_touchpasses_k24_whole_great_tracks_heard_holds : PySem.Challenge.rw_touchpasses_k24_whole_great_tracks_heard.Holds := by
  w_on; o_law; k_head; (case hw => w_witness2)
  k_fill
  refine L2.walk_ofG (l := PySem.Challenge.rw_touchpasses_k24_whole_great_tracks_heard) (n := 63) (k := 15) (x := "script") (CX := fun _ => L2.CX0) (sp := fun w => My.spEnd _) rfl (by decide) rfl ⟨rfl, by decide, by decide⟩ (fun w h Y => PySem.W.kIn_of Y) ?F (fun _ _ a ns hl hb hO hS => ⟨a, ns, rfl, My.sqL_fz hO hS, hl, hb, fun _ => rfl⟩) (fun _ _ _ _ _ h => h)
  case F =>
    intro w mg fa h KX G hmg
    refine' My.fin_mk hmg (My.mk_txt KX G ?aC ?cpg ?chd ?cpo ?csa ?cmk ?ckc ?cca ?ccn ?cct ?ccm ?na_length ?na_passes ?a_is_integer ?l_is_integer ?c_is_integer ?k_is_integer ?a_is_between ?l_is_between ?c_is_between ?k_is_between ?a_is_name ?l_is_name ?c_is_name ?k_is_name ?a_is_word ?l_is_word ?c_is_word ?k_is_word ?a_is_stretch ?l_is_stretch ?c_is_stretch ?k_is_stretch ?a_is_length ?l_is_length ?c_is_length ?k_is_length ?a_are_touches ?l_are_touches ?c_are_touches ?k_are_touches ?a_is_pass ?l_is_pass ?c_is_pass ?k_is_pass ?a_first_wrong ?l_first_wrong ?c_first_wrong ?k_first_wrong ?a_place_of ?l_place_of ?c_place_of ?k_place_of ?a_Track_init ?i_Track_init ?l_Track_init ?c_Track_init ?k_Track_init ?t_Track_init ?e_Track_init_at ?a_Track_length ?pg_Track_length ?pt_Track_length ?pr_Track_length_at ?l_Track_length ?c_Track_length ?k_Track_length ?a_Track_passes ?pg_Track_passes ?pt_Track_passes ?pr_Track_passes_at ?l_Track_passes ?c_Track_passes ?k_Track_passes ?a_Track_contains ?i_Track_contains ?l_Track_contains ?c_Track_contains ?k_Track_contains ?a_check_track ?l_check_track ?c_check_track ?k_check_track ?a_check_name ?l_check_name ?c_check_name ?k_check_name ?a_lowest ?l_lowest ?c_lowest ?k_lowest ?a_times ?l_times ?c_times ?k_times ?a_end_of ?l_end_of ?c_end_of ?k_end_of ?a_last_touch ?l_last_touch ?c_last_touch ?k_last_touch ?a_written ?l_written ?c_written ?k_written ?a_taken_by ?l_taken_by ?c_taken_by ?k_taken_by ?a_form_of ?l_form_of ?c_form_of ?k_form_of ?a_edges_of ?l_edges_of ?c_edges_of ?k_edges_of ?a_segments ?l_segments ?c_segments ?k_segments ?a_formed_segments ?l_formed_segments ?c_formed_segments ?k_formed_segments ?a_longest ?l_longest ?c_longest ?k_longest ?a_heard_in ?l_heard_in ?c_heard_in ?k_heard_in ?a_kept_in ?l_kept_in ?c_kept_in ?k_kept_in ?a_heard ?l_heard ?c_heard ?k_heard ?a_old_heard ?l_old_heard ?c_old_heard ?k_old_heard ?a_kept ?l_kept ?c_kept ?k_kept ?a_law_purse ?l_law_purse ?c_law_purse ?k_law_purse ?a_law_draw ?l_law_draw ?c_law_draw ?k_law_draw ?a_law_pick ?l_law_pick ?c_law_pick ?k_law_pick ?a_law_low ?l_law_low ?c_law_low ?k_law_low ?a_law_touched ?l_law_touched ?c_law_touched ?k_law_touched ?a_law_mixed ?l_law_mixed ?c_law_mixed ?k_law_mixed ?a_law_at ?l_law_at ?c_law_at ?k_law_at ?a_law_form ?l_law_form ?c_law_form ?k_law_form ?a_law_touches ?l_law_touches ?c_law_touches ?k_law_touches ?a_law_pass ?l_law_pass ?c_law_pass ?k_law_pass ?a_law_row ?l_law_row ?c_law_row ?k_law_row ?a_law_far_row ?l_law_far_row ?c_law_far_row ?k_law_far_row ?a_law_spots ?l_law_spots ?c_law_spots ?k_law_spots ?a_law_is_in ?l_law_is_in ?c_law_is_in ?k_law_is_in ?a_law_is_apart ?l_law_is_apart ?c_law_is_apart ?k_law_is_apart ?a_law_is_touched ?l_law_is_touched ?c_law_is_touched ?k_law_is_touched ?a_law_right ?l_law_right ?c_law_right ?k_law_right ?a_law ?l_law ?c_law ?k_law ?a_LETTERS ?a_DIGITS ?a_MOST_SIGNS ?a_MOST_LENGTH ?a_MOST_PASSES ?a_MOST_TOUCHES ?a_MOST_GLIDE ?a_OLD ?b_MODES ?l_MODES ?b_TAILS ?l_TAILS ?a_SIZE ?b_NOTHING ?l_NOTHING ?b_WHOLE ?l_WHOLE ?b_GLIDING ?l_GLIDING ?z_len ?z_isinstance ?z_int ?z_bool ?z_str ?z_tuple ?z_list ?z_all ?z_range ?z_enumerate ?z_zip ?z_abs ?z_divmod ?z_max ?z_min ?z_repr ?z_sorted ?z_set ?z_gcd)
    (case aC => k_is)
    (case cpg => k_is)
    (case chd => k_is)
    (case cpo => k_is)
    (case csa => k_is)
    (case cmk => k_is)
    (case ckc => k_is)
    (case cca => k_is)
    (case ccn => k_is)
    (case cct => k_is)
    (case ccm => k_is)
    (case na_length => k_is)
    (case na_passes => k_is)
    (case a_is_integer => k_is)
    (case l_is_integer => k_is)
    (case c_is_integer => k_is)
    (case k_is_integer => k_is)
    (case a_is_between => k_is)
    (case l_is_between => k_is)
    (case c_is_between => k_is)
    (case k_is_between => k_is)
    (case a_is_name => k_is)
    (case l_is_name => k_is)
    (case c_is_name => k_is)
    (case k_is_name => k_is)
    (case a_is_word => k_is)
    (case l_is_word => k_is)
    (case c_is_word => k_is)
    (case k_is_word => k_is)
    (case a_is_stretch => k_is)
    (case l_is_stretch => k_is)
    (case c_is_stretch => k_is)
    (case k_is_stretch => k_is)
    (case a_is_length => k_is)
    (case l_is_length => k_is)
    (case c_is_length => k_is)
    (case k_is_length => k_is)
    (case a_are_touches => k_is)
    (case l_are_touches => k_is)
    (case c_are_touches => k_is)
    (case k_are_touches => k_is)
    (case a_is_pass => k_is)
    (case l_is_pass => k_is)
    (case c_is_pass => k_is)
    (case k_is_pass => k_is)
    (case a_first_wrong => k_is)
    (case l_first_wrong => k_is)
    (case c_first_wrong => k_is)
    (case k_first_wrong => k_is)
    (case a_place_of => k_is)
    (case l_place_of => k_is)
    (case c_place_of => k_is)
    (case k_place_of => k_is)
    (case a_Track_init => k_is)
    (case i_Track_init => k_is)
    (case l_Track_init => k_is)
    (case c_Track_init => k_is)
    (case k_Track_init => k_is)
    (case t_Track_init => k_is)
    (case e_Track_init_at => k_is)
    (case a_Track_length => k_is)
    (case pg_Track_length => k_is)
    (case pt_Track_length => k_is)
    (case pr_Track_length_at => k_is)
    (case l_Track_length => k_is)
    (case c_Track_length => k_is)
    (case k_Track_length => k_is)
    (case a_Track_passes => k_is)
    (case pg_Track_passes => k_is)
    (case pt_Track_passes => k_is)
    (case pr_Track_passes_at => k_is)
    (case l_Track_passes => k_is)
    (case c_Track_passes => k_is)
    (case k_Track_passes => k_is)
    (case a_Track_contains => k_is)
    (case i_Track_contains => k_is)
    (case l_Track_contains => k_is)
    (case c_Track_contains => k_is)
    (case k_Track_contains => k_is)
    (case a_check_track => k_is)
    (case l_check_track => k_is)
    (case c_check_track => k_is)
    (case k_check_track => k_is)
    (case a_check_name => k_is)
    (case l_check_name => k_is)
    (case c_check_name => k_is)
    (case k_check_name => k_is)
    (case a_lowest => k_is)
    (case l_lowest => k_is)
    (case c_lowest => k_is)
    (case k_lowest => k_is)
    (case a_times => k_is)
    (case l_times => k_is)
    (case c_times => k_is)
    (case k_times => k_is)
    (case a_end_of => k_is)
    (case l_end_of => k_is)
    (case c_end_of => k_is)
    (case k_end_of => k_is)
    (case a_last_touch => k_is)
    (case l_last_touch => k_is)
    (case c_last_touch => k_is)
    (case k_last_touch => k_is)
    (case a_written => k_is)
    (case l_written => k_is)
    (case c_written => k_is)
    (case k_written => k_is)
    (case a_taken_by => k_is)
    (case l_taken_by => k_is)
    (case c_taken_by => k_is)
    (case k_taken_by => k_is)
    (case a_form_of => k_is)
    (case l_form_of => k_is)
    (case c_form_of => k_is)
    (case k_form_of => k_is)
    (case a_edges_of => k_is)
    (case l_edges_of => k_is)
    (case c_edges_of => k_is)
    (case k_edges_of => k_is)
    (case a_segments => k_is)
    (case l_segments => k_is)
    (case c_segments => k_is)
    (case k_segments => k_is)
    (case a_formed_segments => k_is)
    (case l_formed_segments => k_is)
    (case c_formed_segments => k_is)
    (case k_formed_segments => k_is)
    (case a_longest => k_is)
    (case l_longest => k_is)
    (case c_longest => k_is)
    (case k_longest => k_is)
    (case a_heard_in => k_is)
    (case l_heard_in => k_is)
    (case c_heard_in => k_is)
    (case k_heard_in => k_is)
    (case a_kept_in => k_is)
    (case l_kept_in => k_is)
    (case c_kept_in => k_is)
    (case k_kept_in => k_is)
    (case a_heard => k_is)
    (case l_heard => k_is)
    (case c_heard => k_is)
    (case k_heard => k_is)
    (case a_old_heard => k_is)
    (case l_old_heard => k_is)
    (case c_old_heard => k_is)
    (case k_old_heard => k_is)
    (case a_kept => k_is)
    (case l_kept => k_is)
    (case c_kept => k_is)
    (case k_kept => k_is)
    (case a_law_purse => k_is)
    (case l_law_purse => k_is)
    (case c_law_purse => k_is)
    (case k_law_purse => k_is)
    (case a_law_draw => k_is)
    (case l_law_draw => k_is)
    (case c_law_draw => k_is)
    (case k_law_draw => k_is)
    (case a_law_pick => k_is)
    (case l_law_pick => k_is)
    (case c_law_pick => k_is)
    (case k_law_pick => k_is)
    (case a_law_low => k_is)
    (case l_law_low => k_is)
    (case c_law_low => k_is)
    (case k_law_low => k_is)
    (case a_law_touched => k_is)
    (case l_law_touched => k_is)
    (case c_law_touched => k_is)
    (case k_law_touched => k_is)
    (case a_law_mixed => k_is)
    (case l_law_mixed => k_is)
    (case c_law_mixed => k_is)
    (case k_law_mixed => k_is)
    (case a_law_at => k_is)
    (case l_law_at => k_is)
    (case c_law_at => k_is)
    (case k_law_at => k_is)
    (case a_law_form => k_is)
    (case l_law_form => k_is)
    (case c_law_form => k_is)
    (case k_law_form => k_is)
    (case a_law_touches => k_is)
    (case l_law_touches => k_is)
    (case c_law_touches => k_is)
    (case k_law_touches => k_is)
    (case a_law_pass => k_is)
    (case l_law_pass => k_is)
    (case c_law_pass => k_is)
    (case k_law_pass => k_is)
    (case a_law_row => k_is)
    (case l_law_row => k_is)
    (case c_law_row => k_is)
    (case k_law_row => k_is)
    (case a_law_far_row => k_is)
    (case l_law_far_row => k_is)
    (case c_law_far_row => k_is)
    (case k_law_far_row => k_is)
    (case a_law_spots => k_is)
    (case l_law_spots => k_is)
    (case c_law_spots => k_is)
    (case k_law_spots => k_is)
    (case a_law_is_in => k_is)
    (case l_law_is_in => k_is)
    (case c_law_is_in => k_is)
    (case k_law_is_in => k_is)
    (case a_law_is_apart => k_is)
    (case l_law_is_apart => k_is)
    (case c_law_is_apart => k_is)
    (case k_law_is_apart => k_is)
    (case a_law_is_touched => k_is)
    (case l_law_is_touched => k_is)
    (case c_law_is_touched => k_is)
    (case k_law_is_touched => k_is)
    (case a_law_right => k_is)
    (case l_law_right => k_is)
    (case c_law_right => k_is)
    (case k_law_right => k_is)
    (case a_law => k_is)
    (case l_law => k_is)
    (case c_law => k_is)
    (case k_law => k_is)
    (case a_LETTERS => k_is)
    (case a_DIGITS => k_is)
    (case a_MOST_SIGNS => k_is)
    (case a_MOST_LENGTH => k_is)
    (case a_MOST_PASSES => k_is)
    (case a_MOST_TOUCHES => k_is)
    (case a_MOST_GLIDE => k_is)
    (case a_OLD => k_is)
    (case b_MODES => k_is)
    (case l_MODES => k_is)
    (case b_TAILS => k_is)
    (case l_TAILS => k_is)
    (case a_SIZE => k_is)
    (case b_NOTHING => k_is)
    (case l_NOTHING => k_is)
    (case b_WHOLE => k_is)
    (case l_WHOLE => k_is)
    (case b_GLIDING => k_is)
    (case l_GLIDING => k_is)
    (case z_len => k_is)
    (case z_isinstance => k_is)
    (case z_int => k_is)
    (case z_bool => k_is)
    (case z_str => k_is)
    (case z_tuple => k_is)
    (case z_list => k_is)
    (case z_all => k_is)
    (case z_range => k_is)
    (case z_enumerate => k_is)
    (case z_zip => k_is)
    (case z_abs => k_is)
    (case z_divmod => k_is)
    (case z_max => k_is)
    (case z_min => k_is)
    (case z_repr => k_is)
    (case z_sorted => k_is)
    (case z_set => k_is)
    (case z_gcd => k_is)
