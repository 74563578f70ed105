import PyProof.Rows.All
import Wide.All
import OpenK.AllK
import Wide.FinOn
import HandS.ForMost
import HandS.Wide
import HandS.IsInst
import HandS.TupAny
import HandS.Conv
import KE.GoesMore
import KE.GoesEnum
import HandS.ForExc
import HandS.ExcInit
import HandS.ExcField
import HandS.TryMany
import KE.KTryMore
import HandS.ExcIs
import HandS.EndOwn
import PyProof.P3In
import HandS.Zip
import HandS.Walk
import KE.GoesZip
import PyProof.Rows.TupIter
import PyProof.WalksMore
import PyProof.AutoSeq1
import PyProof.ExcBaseAll.OverflowError
import KE.KExcInit
import PyProof.Rows.IntBool
import HandS.Defaults
import HandS.WideBits
import HandS.TryElse
import HandS.Style
import PySem.Challenge.RW_stepsound_k48_whole_files_refused
set_option Elab.async false
set_option linter.all false
set_option maxRecDepth 100000
namespace My
open PySem PySem.Spec PyProof.Rows L2

/-! ### heaps -/
theorem same_new {H : Hp} {p : Addr} {o : HO} (h : H p = none) : Same H (upd H p o) := fun b x e => by
  rw [upd_ne (ne_of_none e h)]
  exact e
theorem same_tup {K : PySem.W.Frag} {H H' : Hp} {a : Addr} {xs : List V} (e : Same H H') (h : SqT K H a xs) : SqT K H' a xs := by
  rcases h with (h | ⟨o, h⟩) | h
  · exact .inl (.inl (e _ _ h))
  · exact .inl (.inr ⟨o, e _ _ h⟩)
  · exact .inr h
/-- every tuple stands -/
def TupS (H H' : Hp) : Prop := ∀ b xs, H b = some (.tup xs) → H' b = some (.tup xs)
theorem Same.tupS {H H' : Hp} (e : Same H H') : TupS H H' := fun b xs h => e b _ h

/-! ### rules within a comprehension: the written part by its own name -/
theorem ix_tupK {X : Cx} {K : PySem.W.Frag} (h : X.K = K := by rfl) : IxR X (rIxT K) := by
  subst h
  exact ix_tup
theorem ix_listK {X : Cx} {K : PySem.W.Frag} (h : X.K = K := by rfl) : IxR X (rIxL K) := by
  subst h
  exact ix_list
def rLen (K : PySem.W.Frag) : List V → Hp → VK → Prop := fun xs H Q => ∃ p ys, xs = [.ref p] ∧ (SqL K H p ys ∨ SqT K H p ys) ∧ Q (.int ys.length) H
theorem call_lenK {X : Cx} {K : PySem.W.Frag} (h : X.K = K := by rfl) : CallR X (.builtin "len") (rLen K) := by
  subst h
  exact call_len_seq
/-! ### the drawer of a law: a dict of two lists and a number -/
def dd (c l : Addr) (k : Int) : List (Key × V) := [(.inr "cells", .ref c), (.inr "left", .ref l), (.inr "at", .int k)]
theorem nCL : ¬ ((Sum.inr ("cells" : Str) : Key) = Sum.inr ("left" : Str)) := by decide +kernel
theorem nCA : ¬ ((Sum.inr ("cells" : Str) : Key) = Sum.inr ("at" : Str)) := by decide +kernel
theorem nLC : ¬ ((Sum.inr ("left" : Str) : Key) = Sum.inr ("cells" : Str)) := by decide +kernel
theorem nLA : ¬ ((Sum.inr ("left" : Str) : Key) = Sum.inr ("at" : Str)) := by decide +kernel
theorem nAC : ¬ ((Sum.inr ("at" : Str) : Key) = Sum.inr ("cells" : Str)) := by decide +kernel
theorem nAL : ¬ ((Sum.inr ("at" : Str) : Key) = Sum.inr ("left" : Str)) := by decide +kernel
theorem dd_c (c l : Addr) (k : Int) : valV (dd c l k) (.inr "cells") = some (.ref c) := valV_pos rfl
theorem dd_l (c l : Addr) (k : Int) : valV (dd c l k) (.inr "left") = some (.ref l) := (valV_neg nCL).trans (valV_pos rfl)
theorem dd_a (c l : Addr) (k : Int) : valV (dd c l k) (.inr "at") = some (.int k) := (valV_neg nCA).trans ((valV_neg nLA).trans (valV_pos rfl))
theorem sCL : ¬ (("cells" : Str) = "left") := by decide +kernel
theorem sCA : ¬ (("cells" : Str) = "at") := by decide +kernel
theorem sLA : ¬ (("left" : Str) = "at") := by decide +kernel
theorem sAL : ¬ (("at" : Str) = "left") := by decide +kernel
theorem dd_pl (c l l' : Addr) (k : Int) : putK (dd c l k) (.inr "left") (.ref l') = dd c l' k := by
  simp [putK, dd, sCL, sAL]
theorem dd_pa (c l : Addr) (k k' : Int) : putK (dd c l k) (.inr "at") (.int k') = dd c l k' := by
  simp [putK, dd, sCA, sLA]
theorem dd_mk (c l : Addr) : mergeK [] [(Sum.inr "cells", V.ref c), (Sum.inr "left", V.ref l), (Sum.inr "at", V.int 0)] = dd c l 0 := by
  simp [mergeK, putK, dd, sCL, sCA, sLA]

/-- at m the drawer with its lists at c and l, for n draws more -/
structure Dr (H : Hp) (m c l : Addr) (n : Nat) : Prop where
  ex : ∃ (cs ls : List Int) (k : Int), H m = some (.dK (dd c l k)) ∧ H c = some (.lst (cs.map V.int)) ∧ H l = some (.lst (ls.map V.int)) ∧ c ≠ l ∧
    cs.length ≤ 63 ∧ ls.length ≤ 63 ∧ (∀ x ∈ ls, 0 ≤ x) ∧ 0 ≤ k ∧ k + (n : Int) ≤ 1000000
/-- all but the drawer's own stands; its list of what is left is the old one or new -/
structure Kp (m l : Addr) (H : Hp) (l' : Addr) (H' : Hp) : Prop where
  st : ∀ b o, H b = some o → b ≠ m → b ≠ l → H' b = some o
  nw : l' = l ∨ H l' = none
  dm : ∀ b, H' b = none → H b = none
theorem Kp.refl (m l : Addr) (H : Hp) : Kp m l H l H := ⟨fun _ _ h _ _ => h, .inl rfl, fun _ h => h⟩
theorem Kp.off {m l l' : Addr} {H H' : Hp} (k : Kp m l H l' H') {b : Addr} {o : HO} (h : H b = some o) (n : b ≠ l) : b ≠ l' := by
  rcases k.nw with e | e
  · rw [e]; exact n
  · exact ne_of_none h e
theorem Kp.trans {m l l' l'' : Addr} {H H' H'' : Hp} (a : Kp m l H l' H') (b : Kp m l' H' l'' H'') : Kp m l H l'' H'' := by
  refine ⟨fun q o h n1 n2 => b.st q o (a.st q o h n1 n2) n1 (a.off h n2), ?_, fun q e => a.dm q (b.dm q e)⟩
  rcases b.nw with e | e
  · rw [e]; exact a.nw
  · exact .inr (a.dm _ e)
/-- a new object -/
theorem Kp.new {m l : Addr} {H : Hp} {p : Addr} {o : HO} (h : H p = none) : Kp m l H l (upd H p o) := by
  refine ⟨fun b u e _ _ => same_new h b u e, .inl rfl, fun b e => ?_⟩
  unfold upd at e
  split at e
  · cases e
  · exact e
theorem Dr.new {H : Hp} {m c l n : Nat} {p : Addr} {o : HO} (d : Dr H m c l n) (h : H p = none) : Dr (upd H p o) m c l n := by
  obtain ⟨cs, ls, k, h1, h2, h3, r⟩ := d.ex
  exact ⟨cs, ls, k, same_new h _ _ h1, same_new h _ _ h2, same_new h _ _ h3, r⟩
/-- a change of another object than the drawer's -/
theorem Dr.set {H : Hp} {m c l n : Nat} {p : Addr} {o : HO} (d : Dr H m c l n) (n1 : p ≠ m) (n2 : p ≠ c) (n3 : p ≠ l) : Dr (upd H p o) m c l n := by
  obtain ⟨cs, ls, k, h1, h2, h3, r⟩ := d.ex
  exact ⟨cs, ls, k, (upd_ne n1.symm).trans h1, (upd_ne n2.symm).trans h2, (upd_ne n3.symm).trans h3, r⟩
theorem Dr.less {H : Hp} {m c l n k : Nat} (d : Dr H m c l n) (h : k ≤ n) : Dr H m c l k := by
  obtain ⟨cs, ls, z, h1, h2, h3, h4, h5, h6, h7, h8, h9⟩ := d.ex
  exact ⟨cs, ls, z, h1, h2, h3, h4, h5, h6, h7, h8, by omega⟩
theorem Dr.same {H H' : Hp} {m c l n : Nat} (d : Dr H m c l n) (s : Same H H') : Dr H' m c l n := by
  obtain ⟨cs, ls, k, h1, h2, h3, r⟩ := d.ex
  exact ⟨cs, ls, k, s _ _ h1, s _ _ h2, s _ _ h3, r⟩
theorem Kp.same {m l : Addr} {H H' : Hp} (s : Same H H') : Kp m l H l H' := ⟨fun b o h _ _ => s b o h, .inl rfl, fun _ h => s.free h⟩
/-- tuples stand -/
theorem Kp.tup {m c l l' n : Addr} {H H' : Hp} (k : Kp m l H l' H') (d : Dr H m c l n) : TupS H H' := fun b xs h => by
  obtain ⟨cs, ls, z, h1, h2, h3, r⟩ := d.ex
  exact k.st b _ h (ne_of h h1 nofun) (ne_of h h3 nofun)
end My

/-! Defs that write out data (repr): their promise is asked only where nothing is being written out around them. -/
namespace My
open PySem PySem.Spec PyProof.Rows L2
/-- as the layer's promise of a def, for calls around which no guard stands -/
structure FnG (P : Program) (w : World) (K : PySem.W.Frag) (mg : Str → Option Value) (base : Heap) (k : Nat) (f : Addr) (fd : FuncData)
    (ps : List Str) (sp : Sp) : Prop where
  len : ∀ vs H Q E, sp vs H Q E → vs.length = ps.length
  go : ∀ (A : Around) (outer : List Env) (s : Shared) (H : Hp) (args : Args) (us : List Value) (vs : List V) (Q : VK) (E : XK),
    A.guards = some [] → Room k A → Env0 P w K mg base A outer s H → BindsTo s fd args (ps.zip us) → Vals vs us → sp vs H Q E →
    codeAny (model P w) A (.call (.ref f) args) (CR CX0 outer P w H s Q E) s
section
variable {P : Program} {w : World} {K : PySem.W.Frag} {mg : Str → Option Value} {base : Heap}
theorem FnG.of {k : Nat} {f : Addr} {fd : FuncData} {ps : List Str} {sp : Sp} (F : FnOk P w K mg base CX0 k f fd ps sp) : FnG P w K mg base k f fd ps sp :=
  ⟨F.len, fun A o s H args us vs Q E _ hr => F.run A o s H args us vs Q E hr⟩
theorem okG {x qual : Str} {st : Stmt} {f : Addr} {fd : FuncData} {N ps : List Str} {k : Nat} {sp : Sp} (F : Fun K x qual st f fd)
    (S : FnScope N ps (defScope st)) (len : ∀ vs H Q E, sp vs H Q E → vs.length = ps.length)
    (body : ∀ (cdv : Value) (A : Around) (outer : List Env) (s : Shared) (H : Hp) (vs : List V) (Q : VK) (E : XK), A.guards = some [] →
      Room k (A.deeper (envOfC qual (defScope st) s.heap.objs.size f cdv)) → sp vs H Q E →
      ∃ t, PSs (cxOf CX0 P w K mg base N qual (defScope st) f cdv A outer s H E).nox (defBody st) t ∧
        t { nx := fun _ H' => Q .non H', rt := Q } (start N vs) H) :
    FnG P w K mg base (k + 1) f fd ps sp := by
  obtain ⟨oc, od, kV, doc, pm, an, cdv, ct, osl, rfl, lk, hcd⟩ := F.ex
  refine ⟨len, fun A outer s H args us vs Q E hg room env0 binds rel want => ?_⟩
  have inK : K.In s.heap := env0.mod.kin.keeps fun b o e => (env0.bs b o e).1
  have noLim : s.heap.NoLimit := env0.mod.nolimit.keeps fun b o e => (env0.bs b o e).1
  have kinds : ∀ y ∈ ps.zip us, (defScope st).names.lookup y.1 = some .local ∨
      ((defScope st).names.lookup y.1 = some .cell ∧ ((cellsFrom (s.heap.objs.size + 1) (defScope st).names []).lookup y.1).isSome = true) := by
    rintro ⟨n, v⟩ hy
    rcases S.par n (List.of_mem_zip hy).1 with q | q
    · exact Or.inl q
    · exact Or.inr ⟨q, PySem.W.cellsFrom_some _ _ _ (Or.inl q)⟩
  refine codeAny_call_function room.depth (inK _ _ lk) rfl S.co S.gen rfl (PySem.W.codeRec_of inK hcd)
    (binds _ _ _ _ ?_)
  refine wpAny_newFunctionEnv_cells S.kind kinds
    fun env he s1 x => ?_
  subst he
  refine ⟨noLim.keeps x.toInCall.keep,
    codeAny_func ?_⟩
  obtain ⟨t, ht, run⟩ := body cdv A outer s H vs Q E hg (room.deeper _) want
  have start0 : Inv (cxOf CX0 P w K mg base N qual (defScope st) f cdv A outer s H E) [] (start N vs) H s1 :=
    inv_start S room.hd env0 (len _ _ _ _ want) rel x
  refine wpAny_mono (ht.nox.run [] s1 (start N vs) H _ start0 run)
    (fun flow s' hs => ?_) fun e s' hs => hs
  have fin : ∀ {σ' : L2.St} {H' : Hp} {v : V} {u : Value}, Inv (cxOf CX0 P w K mg base N qual (defScope st) f cdv A outer s H E) [] σ' H' s' →
      RelV v u → Q v H' → CE outer P w H s Q u s' :=
    fun {_ H' v _} J rv q => ⟨v, H', J.os, J.bare, J.base, J.hok, rv, q⟩
  cases flow with
  | ret u =>
    obtain ⟨v, σ', H', J, rv, q⟩ := hs
    exact fin J rv q
  | next =>
    obtain ⟨σ', H', J, q⟩ := hs
    exact fin (v := V.non) (u := Value.none) J rfl q
  | brk => obtain ⟨_, _, _, q⟩ := hs; exact q.elim
  | cont => obtain ⟨_, _, _, q⟩ := hs; exact q.elim
end
section
variable {X : Cx}
theorem goG {k : Nat} {f : Addr} {fd : FuncData} {ps : List Str} {sp : Sp} {ds : List Value} {dvs : List V} {E : XK} {pins : List (Addr × Obj)} {σ : L2.St} {H : Hp} {s : Shared} {Q : VK} {us : List Value} {vs : List V}
    (F : FnG X.prog X.w X.K X.mg X.base k f fd ps sp) (hg : X.A.guards = some []) (hr : Room k X.A) (hb : Binds X.K fd ps ds) (hd : Vals dvs ds) (hx : Passes CX0 X E)
    (I : Inv X pins σ H s) (r : Vals vs us) (h : sp (vs ++ dvs) H Q E) :
    wpAny (model X.prog X.w) X.A (call (.ref f) us) (EP X pins σ Q) X.xe s := by
  have rr : Vals (vs ++ dvs) (us ++ ds) := r.append hd
  have len : (us ++ ds).length = ps.length := rr.length ▸ F.len _ _ _ _ h
  refine wpAny_call (codeAny_mono (F.go X.A X.stack s H ⟨us, []⟩ (us ++ ds) (vs ++ dvs) Q E hg hr I.env0 (hb s us I.kIn len) rr h) ?_)
  intro res s' hq
  match res, hq with
  | .error e, hq => exact hx pins σ H s e s' I hq
  | .ok (.ret u), hq => exact I.after hq
/-- f(e, ..), f writing out data -/
theorem pe_callG {k : Nat} {f : Addr} {fd : FuncData} {ps : List Str} {sp : Sp} {ds : List Value} {dvs : List V} {E : XK} {x : Str} {e : Expr} {es : List Expr} {t : TA} {p pos : Pos}
    (F : FnG X.prog X.w X.K X.mg X.base k f fd ps sp) (hgd : X.A.guards = some []) (hr : Room k X.A) (hg : Gl X x) (hm : X.mg x = some (.ref f)) (hk : PySem.W.keepIn X.K (.ref f) = true)
    (hb : Binds X.K fd ps ds) (hd : Vals dvs ds) (hx : Passes CX0 X E) (ha : PA X (e :: es) t) (hdb : (x == ("__debug__" : Str)) = false := by decide)
    (he : starEach (e :: es) X.env = (false, eval e X.env) :: starEach es X.env := by rfl)
    (hpl : (backTo pos (starEach es X.env)).any (·.1) = false := by rfl) :
    PE X (.Call (.Name x p) (e :: es) [] pos) (tCall sp dvs E t) := by
  refine ⟨fun pins s σ H Q I h => wpAny_Call_Name_kw (ld_glob I hg hm ?_ hdb)⟩
  refine PySem.W.callWith_K (h₀ := X.base) I.ok.mod.kin hk
    (thn (ha.run pos pins s σ H _ I h) fun us s1 ⟨vs, H1, I1, r, q⟩ => ⟨I1.kIn, ?_⟩) he hpl
  exact goG F hgd hr hb hd hx I1 r q

/-! ### repr -/
def rRepr (K : PySem.W.Frag) : List V → Hp → VK → Prop := fun xs H Q => ∃ (v : V) (d : PyData), xs = [v] ∧ Dp K H v d ∧ d.showable = true ∧ d.hasDict = false ∧
  d.depth ≤ 60 ∧ d.shown.length ≤ sizeLine ∧ Q (.str d.shown) H
theorem call_repr (hg : X.A.guards = some []) (hu : X.A.units + 64 < cLine) : CallR X (.builtin "repr") (rRepr X.K) := by
  intro pins s σ H xs us Q I r h
  obtain ⟨v, d, rfl, hd, hs, hn, hdp, hz, q⟩ := h
  obtain ⟨u, rfl, ru⟩ := vals1 r
  cases hd with
  | non =>
    cases ru
    exact P.repr_of_none ⟨.str _, H, I.tok _, ⟨_, rfl⟩, q⟩
  | bl b =>
    cases ru
    exact P.repr_of_bool ⟨.str _, H, I.tok _, ⟨_, rfl⟩, q⟩
  | int i =>
    obtain ⟨t, rfl⟩ := ru
    exact P.repr_of_int (of_decide_eq_true hs) ⟨.str _, H, I.tok _, ⟨_, rfl⟩, q⟩
  | str x =>
    obtain ⟨t, rfl⟩ := ru
    exact P.repr_of_str ⟨.str _, H, I.tok _, ⟨_, rfl⟩, q⟩ hz
  | @lst a xs ds h1 h2 =>
    cases ru
    obtain ⟨as, rd⟩ := Dp.reads I (.list ds) (.ref a) (.ref a) (.lst h1 h2) rfl
    refine repr_of_reads' rd hs (fun z => by rw [hn] at z; cases z) hg (by omega) (fun _ _ e => e) (fun h' u tk hk => ?_) hz
    exact ⟨.str _, H, I.kept hk, ⟨_, rfl⟩, q⟩
  | @tup a xs ds h1 h2 =>
    cases ru
    obtain ⟨as, rd⟩ := Dp.reads I (.tuple ds) (.ref a) (.ref a) (.tup h1 h2) rfl
    refine repr_of_reads' rd hs (fun z => by rw [hn] at z; cases z) hg (by omega) (fun _ _ e => e) (fun h' u tk hk => ?_) hz
    exact ⟨.str _, H, I.kept hk, ⟨_, rfl⟩, q⟩
end
end My

/-! The end of a law whose promise is asked where no guard stands. -/
namespace My
open PySem PySem.Spec PyProof.Rows L2
theorem law_callG {P : Program} {w : World} {K : PySem.W.Frag} {mg mb : Str → Option Value} {k : Nat} {fa a : Addr} {fd : FuncData} {x : Str} {sp : Sp} {s₁ : Shared} {vs : List Value} {ns : List Int}
    (inK : K.In s₁.heap) (glob : s₁.heap.Ns mainGlobals mg) (blt : s₁.heap.Ns builtinsNs mb) (boot : ∀ x : Str, x ≠ "__name__" → mb x = bootBuiltins x) (nolim : s₁.heap.NoLimit) (nogen : s₁.gens = #[])
    (hobj : s₁.heap.get? a = some { cls := .type "list", data := .seq vs.toArray }) (hints : IntsAre vs ns) (hlen : ns.length ≤ sizeLine) (room : Room k callerA)
    (F : ∀ base : Heap, K.In base → base.Ns mainGlobals mg → FnG P w K mg base k fa fd [x] sp) (binds : ∀ (s : Shared) (u : Value), BindsTo s fd ⟨[u], []⟩ [(x, u)])
    (want : ∀ H : Hp, Only H → SqL K H a (ns.map V.int) → sp [.ref a] H (fun v _ => v = .bl true) fun _ _ _ => False) :
    codeAny (model P w) callerA (.call (.ref fa) ⟨[.ref a], []⟩) (fun r s' => r = .ok (.ret (.bool true)) ∧ OldK s₁.heap s'.heap ∧ s'.os = s₁.os ∧ AllBare s'.gens) s₁ := by
  have relv := vals_ints hints
  have core : ∀ H : Hp, Only H → SqL K H a (ns.map V.int) → HOk P w H s₁.heap → (∀ b, H b ≠ none → b = a) → (H a ≠ none → K.lookup a = none) →
      codeAny (model P w) callerA (.call (.ref fa) ⟨[.ref a], []⟩) (fun r s' => r = .ok (.ret (.bool true)) ∧ OldK s₁.heap s'.heap ∧ s'.os = s₁.os ∧ AllBare s'.gens) s₁ := by
    intro H only seq ok one notK
    have up : ∀ {b : Addr} {o : Obj}, s₁.heap.get? b = some o → H b = none → (hidT s₁.heap H).get? b = some o := fun e n => hidT_get e n
    have dictFree : ∀ {b : Addr} {o : Obj} {es : Array DictEntry} {ep : Nat}, s₁.heap.get? b = some o → o.data = .dict es ep → H b = none := by
      intro b o es ep e d
      cases q : H b with
      | none => rfl
      | some u =>
        have eb : b = a := one b (fun z => by rw [q] at z; cases z)
        rw [eb, hobj] at e
        cases e
        exact Data.noConfusion (show Data.seq vs.toArray _ = Data.dict es ep from d)
    have nsUp : ∀ {b : Addr} {m : Str → Option Value}, s₁.heap.Ns b m → (hidT s₁.heap H).Ns b m :=
      fun {_ _} ⟨o, es, ep, e, d, r⟩ => ⟨o, es, ep, up e (dictFree e d), d, r⟩
    have kUp : K.In (hidT s₁.heap H) := by
      intro b o e
      refine up (inK b o e) ?_
      cases q : H b with
      | none => rfl
      | some u =>
        have eb : b = a := one b (fun z => by rw [q] at z; cases z)
        rw [eb, notK (fun z => by rw [← eb, q] at z; cases z)] at e
        cases e
    have mod : Mod K mg (hidT s₁.heap H) := ⟨kUp, nsUp glob, ⟨mb, nsUp blt, boot⟩, nolim.imp fun mc z => ⟨nsUp z.1, z.2⟩⟩
    have env0 : Env0 P w K mg (hidT s₁.heap H) callerA [] s₁ H :=
      ⟨rfl, mod, fun b o e => of_hidT e, Nat.le_of_eq (hidT_size _ _), trivial, fun b hb => absurd (show b ∈ ([] : List Addr) from hb) (by simp), ok, .of_eq nogen⟩
    have call := (F _ kUp (nsUp glob)).go callerA [] s₁ H ⟨[.ref a], []⟩ [.ref a] [.ref a] _ _ rfl room env0 (binds s₁ (.ref a)) (.cons rfl .nil) (want H only seq)
    refine codeAny_mono call fun r s' h => ?_
    match r, h with
    | .error e, h => exact (show False from h).elim
    | .ok (.ret u), h =>
      obtain ⟨v, H', os, bare, un, ok', rv, q⟩ := h
      obtain rfl : v = .bl true := q
      obtain rfl : u = Value.bool true := rv
      refine ⟨rfl, OldK.of_keep (fun b o e => ?_), os, bare⟩
      rcases only b with z | ⟨ob, xs, z⟩
      · exact un.keep b o e z (fun y => absurd (show b ∈ ([] : List Addr) from y) (by simp)) (by simp)
      · obtain ⟨e1, _⟩ := ok b _ z
        obtain ⟨e2, _⟩ := ok' b _ (un.frzs b ob _ z)
        rw [e] at e1
        cases e1
        exact e2
  cases hk : K.lookup a with
  | some o =>
    have e := inK a o hk
    rw [hobj] at e
    cases e
    have stands : SqL K (fun _ => none) a (ns.map V.int) := .inr ⟨_, vs.toArray, _, hk, rfl, rfl, rfl, by rw [List.size_toArray, hints.length]; exact hlen, by simpa using relv⟩
    exact core (fun _ => none) (fun _ => .inl rfl) stands (fun b u z => nomatch (show (none : Option HO) = some u from z)) (fun b z => absurd rfl z) fun z => absurd rfl z
  | none =>
    let o : Obj := { cls := .type "list", data := .seq vs.toArray }
    have atA : (fun b => if b = a then some (HO.frz o (.lst (ns.map V.int))) else none) a = some (.frz o (.lst (ns.map V.int))) := if_pos rfl
    refine core (fun b => if b = a then some (.frz o (.lst (ns.map V.int))) else none) (fun b => ?_) (.inl (.inr ⟨o, atA⟩)) (fun b u z => ?_) (fun b z => ?_) fun _ => hk
    · by_cases hb : b = a
      · exact .inr ⟨_, _, if_pos hb⟩
      · exact .inl (if_neg hb)
    · by_cases hb : b = a
      · have y := (if_pos hb).symm.trans z
        cases y
        rw [hb]
        exact ⟨hobj, by rw [List.length_map]; exact hlen, vs, _, relv, hobj⟩
      · exact nomatch (if_neg hb).symm.trans z
    · by_cases hb : b = a
      · exact hb
      · exact absurd (if_neg hb) z
theorem walk_ofG {l : PySem.W.OpenLaw} {n k : Nat} {q : Program} {loose : List Str} {XP : (Str → Option Value) → Heap → Prop} {YP : World → Heap → Prop} {d : DefRec}
    {K : Params → PySem.W.Frag} {sp : PySem.W.Frag → Sp} {x : Str}
    (hn : l.most = some n) (hn2 : n ≤ sizeLine) (hdf : d.params.defaults = []) (room : Room k callerA)
    (hY : ∀ (w : World) (h : Heap), YP w h → (K w.params).In h)
    (F : ∀ (w : World) (mg : Str → Option Value) (fa : Addr) (h : Heap), (K w.params).In h → h.Ns mainGlobals mg → mg d.name = some (.ref fa) →
      ∃ fd : FuncData, (∀ (s : Shared) (u : Value), BindsTo s fd ⟨[u], []⟩ [(x, u)]) ∧
        ∀ base : Heap, (K w.params).In base → base.Ns mainGlobals mg → FnG l.prog w (K w.params) mg base k fa fd [x] (sp (K w.params)))
    (want : ∀ (K : PySem.W.Frag) (H : Hp) (a : Addr) (ns : List Int), ns.length ≤ n → Only H → SqL K H a (ns.map V.int) → sp K [.ref a] H (fun v _ => v = .bl true) fun _ _ _ => False) :
    PySem.W.WalkO q loose XP YP l.row.toRowW d [] (fun f vs => PySem.call f vs) := by
  refine Att.attach_call hn hdf fun w s₀ s₁ mg mb fa o pm cd doc a vs ns G Y ho hd hcd hmg hobj hints hlen hg => ?_
  obtain ⟨fd, hb, hF⟩ := F w mg fa _ (hY w _ Y) G.T.g hmg
  exact law_callG (hY w _ Y) G.T.g G.T.b G.T.builtins G.T.nolimit hg hobj hints
    (Nat.le_trans hlen hn2) room hF hb fun H only seq => want (K w.params) H a ns hlen only seq
end My

/-! for i, x in enumerate(t), t a tuple. -/
namespace My
open PySem PySem.Spec PyProof.Rows L2
/-- what enumerate(v) makes: v's iterator and itself -/
def enumO (a : Addr) : Obj :=
  { cls := .type "enumerate",
    data := .fields #[.none, .bool false, .ref a, rawInt 0, .none, .none] }
set_option maxHeartbeats 1000000 in
theorem meets_enum1 {v : Value} {o : Obj} {G : Heap → Prop} (B : Begins v o G) :
    Meets (Builtin.«enumerate.__new__» ⟨[.type "enumerate", v], []⟩) (fun _ R s => G s.heap ∧
      R (.ok (.ret (.ref (s.heap.push o).objs.size)))
        { s with heap := (s.heap.push o).push (enumO s.heap.objs.size) }) :=
  .of_wp fun prog w A R s ⟨h1, h⟩ => by
    obtain ⟨hp, gens, drawn, tk, os⟩ := s
    have isSub := sub_enumerate
    have step : ∀ {A' : Around} {E : Value → Shared → Prop} {Q : Value → Shared → Prop}, Q (.ref hp.objs.size) ⟨hp.push o, gens, drawn, tk, os⟩ →
        wpAny (model prog w) A' (pyIter v) Q E ⟨hp, gens, drawn, tk, os⟩ :=
      fun q => B.iter prog w _ _ ⟨hp, gens, drawn, tk, os⟩ _ h1 q
    wp_walk using step
    refine wpAny_stack_any fun st => wpAny_pure ?_
    split
    · rename_i c _ _ _ _ _
      by_cases hc : (c == Value.type "enumerate") = true
      · rw [hc]
        wp_walk using step
        exact ⟨_, rfl, h⟩
      · rw [Bool.not_eq_true] at hc
        rw [hc]
        wp_walk using step
        exact ⟨_, rfl, h⟩
    · wp_walk using step
      exact ⟨_, rfl, h⟩
section
variable {prog : Program} {w : World} {A : Around} {E : Value → Shared → Prop} {s : Shared}
theorem enum_call1 {v : Value} {o : Obj} {G : Heap → Prop} {Q : Value → Shared → Prop} (B : Begins v o G) (h1 : G s.heap)
    (h : ∀ h', IsEnum h' (s.heap.objs.size + 1) s.heap.objs.size 0 .none → h'.get? s.heap.objs.size = some o →
      (∀ b u, s.heap.get? b = some u → h'.get? b = some u) → Q (.ref (s.heap.objs.size + 1)) { s with heap := h' }) :
    wpAny (model prog w) A (call (.type "enumerate") [v]) Q E s := by
  have size1 : (s.heap.push o).objs.size = s.heap.objs.size + 1 := Heap.size_push ..
  have made : IsEnum ((s.heap.push o).push (enumO s.heap.objs.size)) (s.heap.objs.size + 1) s.heap.objs.size 0 .none := by
    have z := Heap.get?_push_size (s.heap.push o) (o := enumO s.heap.objs.size) rfl
    rw [size1] at z
    exact z
  refine callType_new F.called_enumerate (by decide) (F.typeCall_enumerate_1 _) (F.newCall_enumerate_1 _)
    (fun obj => F.args_object_init_2 obj _) F.entry_enumerate_new (meets_enum1 B) ⟨h1, ?_⟩
  show _ ∧ _
  rw [size1]
  exact ⟨⟨_, made, rfl⟩, h _ made (Heap.get?_push_of_some _ (Heap.get?_push_size _ B.free)) fun b u x => Heap.get?_push_of_some _ (Heap.get?_push_of_some _ x)⟩
end
/-- the tuple at a, each item in a new pair with its number -/
def Itu (K : PySem.W.Frag) (a : Addr) : It where
  go i H := ∃ (xs : List V) (x : V), SqT K H a xs ∧ xs[i]? = some x
  yld i H v H' := ∃ T x, v = .ref T ∧ H T = none ∧ H' = upd H T (.tup [.int (i : Nat), x]) ∧ ∀ xs, SqT K H a xs → xs[i]? = some x
  stop i H := ∃ xs : List V, SqT K H a xs ∧ xs.length = i
def EnumAt (e it a : Addr) (i : Nat) (h : Heap) : Prop := (∃ old, IsEnum h e it ((i : Nat) : Int) old) ∧ h.IsTupleIter it a i ∧ e ≠ it
theorem turn_enumT {P : Program} {w : World} {K : PySem.W.Frag} {elts : List Expr} {kk : Nat} {tpos : Pos} (a e it : Addr) (hae : a ≠ e) (hai : a ≠ it) :
    Turn P w K (.Tuple elts kk tpos) (Itu K a) [e, it] e (EnumAt e it a) where
  mem := by simp
  obj := fun i h st b hb => by
    obtain ⟨⟨old, he⟩, ⟨o, ho, hc, hd⟩, _⟩ := st
    rcases List.mem_cons.mp hb with z | z
    · rw [z]; exact ⟨_, he, fun v q => nomatch q⟩
    · rw [List.mem_singleton.mp z]; exact ⟨o, ho, fun v q => by rw [hd] at q; cases q⟩
  keep := fun i h h' st k => by
    obtain ⟨⟨old, he⟩, hi, hne⟩ := st
    exact ⟨⟨old, k e (by simp) _ he⟩, hi.at fun o q => k it (by simp) o q, hne⟩
  item := by
    intro X hP hw hK hc i pins s σ H E I hf st hg
    subst hP hw hK
    obtain ⟨⟨old, he⟩, hit, hne⟩ := st
    obtain ⟨xs, x, hq, hx⟩ := hg
    obtain ⟨its, rv, p, hz⟩ := I.tuple hq
    obtain ⟨u, hu, ru⟩ := rv.get hx
    have helt : e < s.heap.objs.size := Heap.lt_size he
    have hilt : it < s.heap.objs.size := by
      obtain ⟨_, q, _⟩ := hit
      exact Heap.lt_size q
    have hlt : i < its.toArray.size := by
      rw [List.size_toArray]
      exact (List.getElem?_eq_some_iff.mp hu).1
    have hef : e ∉ [it, a] := by
      intro z
      rcases List.mem_cons.mp z with q | q
      · exact hne q
      · exact hae (List.mem_singleton.mp q).symm
    refine wpAny_pyNext_enum_itemD (Draws.tuple (A := X.A.in1) (I.ok.hd hc) it a hai its.toArray) he ⟨hit, p⟩ hlt hne hef fun y h' tk hy ho hst' hT hsz hk => ?_
    have hy' : y = u := by
      have z : its.toArray[i]? = some u := by simpa using hu
      exact Option.some.inj (hy.symm.trans z)
    subst hy'
    refine ⟨_, rfl, wpAny_letOwnedTupleGo_enum (s := { s with heap := h', toks := tk + 1 }) ho fun h'' he' sb => ?_⟩
    have hT2 : h''.get? s.heap.objs.size = some { cls := .type "tuple", data := .seq #[.int i tk, y] } :=
      (sb.2 _ (Nat.ne_of_gt helt)).trans hT
    have new : ObjOk X.prog X.w (upd H s.heap.objs.size (.tup [.int (i : Nat), x])) h'' s.heap.objs.size (.tup [.int (i : Nat), x]) :=
      ⟨(by decide : 2 ≤ sizeLine), [.int i tk, y], .cons ⟨_, rfl⟩ (.cons ru .nil), _, hT2, rfl, _, rfl⟩
    have I1 : Inv X pins σ (upd H s.heap.objs.size (.tup [.int (i : Nat), x])) { s with heap := h'', toks := tk + 1 } :=
      I.turnedNew (ch := [e, it])
        (fun b ob hb q => (sb.2 b (fun z => hb (by simp [z]))).trans (hk b ob (fun z => hb (by simp [z])) (fun z => hb (by simp [z])) q)) hf (Nat.le_refl _) new
    refine ⟨.ref s.heap.objs.size, _, I1, rfl, ⟨_, x, rfl, I.hok.fresh (Nat.le_refl _), rfl, fun ys hy => by rw [I.tuple_inj hy hq]; exact hx⟩,
      ⟨⟨y, ?_⟩, hst'.1.at fun o q => (sb.2 it (Ne.symm hne)).trans q, hne⟩, fun b hb => ?_⟩
    · rw [show ((i + 1 : Nat) : Int) = (i : Int) + 1 by omega]
      exact he'
    · have hlt : b < s.heap.objs.size := by
        rcases List.mem_cons.mp hb with z | z
        · rw [z]; exact helt
        · rw [List.mem_singleton.mp z]; exact hilt
      rw [upd_ne (Nat.ne_of_lt hlt)]
      exact (hf b hb).1
  done := by
    intro X hP hw hK hc i pins s σ H E I hf st hg
    subst hP hw hK
    obtain ⟨⟨old, he⟩, hit, hne⟩ := st
    obtain ⟨xs, hq, hx⟩ := hg
    obtain ⟨its, rv, p, hz⟩ := I.tuple hq
    obtain ⟨f0, f1, f2, f3, f4, f5⟩ := hf it (by simp)
    have hl : its.toArray.size = i := by rw [List.size_toArray, ← rv.length, hx]
    have st : its.toArray.size = i → (s.heap.IsTupleIter it a its.toArray.size ∧ s.heap.IsTuple a its.toArray) := fun z => ⟨z ▸ hit, p⟩
    refine wpAny_pyNext_enum_endD (Draws.tuple (A := X.A.in1) (I.ok.hd hc) it a hai its.toArray) he (st hl) fun h' eb => ⟨rfl, ?_⟩
    exact I.turned (t' := s.toks) (fun b o hb q => eb b o hb q) f0 f1 f3 f4 f5
  self := fun A i s Q E st h => by
    obtain ⟨⟨_, he⟩, _⟩ := st
    exact wpAny_pyIter_enum he h
def iEnumT (K : PySem.W.Frag) (ta : TA) : TI := fun σ H R => ta σ H fun vs H1 => ∃ a xs, vs = [.ref a] ∧ SqT K H1 a xs ∧ R (Itu K a) H1
theorem pi_enumT {X : Cx} {e : Expr} {ta : TA} {p pos tpos : Pos} {elts : List Expr} {kk : Nat} (hg : Gl X "enumerate") (hm : X.mg "enumerate" = none) (ha : PA X [e] ta)
    (hs : starEach [e] X.env = [(false, eval e X.env)] := by rfl) : PI X (.Tuple elts kk tpos) (.Call (.Name "enumerate" p) [e] [] pos) (iEnumT X.K ta) := by
  refine ⟨fun pins s σ H R I h => Call_ (ld_blt I hg hm boot_enumerate (PyProof.Rows.callWith_type1 ?_ hs rfl))⟩
  refine thn (ha.run pos pins s σ H _ I h) fun us s1 ⟨vs, H1, I1, r1, a, xs, ex, hq, q⟩ => ?_
  subst ex
  obtain ⟨u, rfl, ru⟩ := vals1 r1
  obtain rfl : u = Value.ref a := ru
  obtain ⟨its, rv, p', hz⟩ := I1.tuple hq
  have hlt : a < s1.heap.objs.size := (by obtain ⟨o, ho, _⟩ := p'; exact Heap.lt_size ho)
  refine enum_call1 (begins_tuple a its.toArray) p' fun h' he hit hk => wpAny_pyIter_enum he ?_
  have I2 : Inv X pins σ H1 { s1 with heap := h' } := I1.kept (t' := s1.toks) hk
  refine ⟨s1.heap.objs.size + 1, [s1.heap.objs.size + 1, s1.heap.objs.size], _, _, H1, rfl, I2,
    turn_enumT a (s1.heap.objs.size + 1) s1.heap.objs.size (Nat.ne_of_lt (Nat.lt_succ_of_lt hlt)) (Nat.ne_of_lt hlt), ⟨⟨.none, he⟩, ⟨_, hit, rfl, rfl⟩, Nat.succ_ne_self _⟩, fun b hb => ?_, q⟩
  have hle : s1.heap.objs.size ≤ b := by
    rcases List.mem_cons.mp hb with z | z
    · rw [z]; exact Nat.le_add_right _ _
    · rw [List.mem_singleton.mp z]; exact Nat.le_refl _
  exact I1.fpOk hle (I1.hok.fresh hle)
end My

/-! An own error whose __init__ stores no field: it has no dict. -/
namespace My
open PySem PySem.Spec PyProof.Rows L2
def tMk0 (C : Addr) (sp : Sp) (ta : TA) : L2.St → Hp → XK → Prop := fun σ H Q => ta σ H fun vs H1 => vs.length ≤ 1000 ∧ ∀ a, H1 a = none →
  sp (.ref a :: vs) (upd H1 a (exo a C none)) (fun v H2 => v = .non ∧ H2 a = some (exo a C none) ∧ Q (.ref C) none (del H2 a)) (fun _ _ _ => False)
section
variable {X : Cx}
theorem end_nodict {pins : List (Addr × Obj)} {σ : L2.St} {H1 H2 : Hp} {hp hp2 h2 : Heap} {g1 g2 : Array GenState} {d1 d2 : Drawn} {t1 t2 : Nat} {os1 os2 : OsState} {a C : Addr}
    (I1 : Inv X pins σ H1 ⟨hp, g1, d1, t1, os1⟩) (above : hp.objs.size ≤ a) (kept : ∀ b o, hp.get? b = some o → hp2.get? b = some o)
    (un : Un (frs X.stack) [] (upd H1 a (exo a C none)) H2 hp2 h2) (ok : HOk X.prog X.w H2 h2) (sameOs : os2 = os1) (bare : AllBare g2) (ea : H2 a = some (exo a C none)) :
    ∃ (t0 : Addr) (G : Heap), Inv X pins σ (del H2 a) ⟨G, g2, d2, t2, os2⟩ ∧ (∀ b o, G.get? b = some o → h2.get? b = some o) ∧ G.get? a = none ∧
      h2.get? a = some ({ cls := .ref C, dict := none, data := .fields #[.ref t0, .none, .none, .none, .bool false, .none] } : Obj) := by
  obtain ⟨t0, obj⟩ := exo_at ok ea
  have free : H1 a = none := I1.hok.fresh above
  obtain ⟨G, in1, in2⟩ := restrict h2 fun b => decide (b ≠ a)
  have same : ∀ b, b ≠ a → G.get? b = h2.get? b := fun b hb => in1 b (decide_eq_true hb)
  have gone : G.get? a = none := in2 a (by simp)
  have other : ∀ {b : Addr} {o : Obj}, hp.get? b = some o → b ≠ a :=
    fun {_ _} z => Nat.ne_of_lt (Nat.lt_of_lt_of_le (Heap.lt_size z) above)
  have still : ∀ {b : Addr}, b ≠ a → H1 b = none → upd H1 a (exo a C none) b = none := fun {_} hb n => (upd_ne hb).trans n
  have newU : Un (frs X.stack) [] H1 (del H2 a) hp G := {
    keep := fun b o z n hf hx => (same b (other z)).trans (un.keep b o (kept b o z) (still (other z) n) hf hx)
    slot := fun b o z n hf hx => by
      obtain ⟨sl, e⟩ := un.slot b o (kept b o z) (still (other z) n) hf hx
      exact ⟨sl, (same b (other z)).trans e⟩
    free := fun b o z n hx => (del_ne (other z)).trans (un.free b o (kept b o z) (still (other z) n) hx)
    there := fun b o z hx => by
      obtain ⟨u, e⟩ := un.there b o (kept b o z) hx
      exact ⟨u, (same b (other z)).trans e⟩
    tups := fun b xs z => (del_ne (ne_of_none z free)).trans (un.tups b xs ((upd_ne (ne_of_none z free)).trans z))
    frzs := fun b o v z => (del_ne (ne_of_none z free)).trans (un.frzs b o v ((upd_ne (ne_of_none z free)).trans z))
    tbls := fun b ps z => by
      obtain ⟨more, e⟩ := un.tbls b ps ((upd_ne (ne_of_none z free)).trans z)
      exact ⟨more, (del_ne (ne_of_none z free)).trans e⟩ }
  have newOk : HOk X.prog X.w (del H2 a) G := by
    intro b o z
    have hba : b ≠ a := fun e => by
      rw [e, del_same] at z
      cases z
    rw [del_ne hba] at z
    have notOwn : ∀ {c : Addr}, H2 c = some (.own b) → c ≠ a := fun {_} hc => at_ne ea hc exo_own
    refine (ok b o z).stay (fun c v hc y => ?_) (fun c hc => (del_ne (notOwn hc)).trans hc) (fun c xs hc => (del_ne (at_ne ea hc exo_tup)).trans hc)
    have hca : c ≠ a := by
      rcases hc with hc | hc
      · rw [hc]; exact hba
      · exact notOwn hc
    exact (same c hca).trans y
  refine ⟨t0, G, I1.call' (ch := []) sameOs newU newOk bare (fun b z => absurd z (by simp)), fun b o z => ?_, gone, obj⟩
  by_cases hba : b = a
  · rw [hba, gone] at z
    cases z
  · exact (same b hba).symm.trans z
theorem pmk0 {x : Str} {C fI : Addr} {k : Nat} {fd : FuncData} {ps : List Str} {sp : Sp} {e : Expr} {es : List Expr} {ta : TA} {p pos : Pos}
    (T : OexC X.K C) (iC : PySem.W.findIn X.K (.ref C) "__init__" = some (some (.ref fI))) (tI : PySem.W.typeIn X.K (.ref fI) = some (.type "function"))
    (F1 : FnOk X.prog X.w X.K X.mg X.base CX0 k fI fd ps sp) (hr : Room (k + 1) X.A) (hb : Binds X.K fd ps []) (hm : X.mg x = some (.ref C)) (ha : PA X (e :: es) ta) (hg : Gl X x := by rfl)
    (hdb : (x == ("__debug__" : Str)) = false := by decide) (he : starEach (e :: es) X.env = (false, eval e X.env) :: starEach es X.env := by rfl)
    (hpl : (backTo pos (starEach es X.env)).any (·.1) = false := by rfl) : PMk X (.Call (.Name x p) (e :: es) [] pos) (tMk0 C sp ta) := by
  intro pins s σ H Q I h
  obtain ⟨nm, q, N, bs, bm, sn, sub, ab, col, dd, k0, k1, k2, k3, k5, hC, hbm⟩ := T.cls
  refine wpAny_Call_Name_kw (ld_glob I hg hm ?_ hdb)
  refine PySem.W.callWith_K (h₀ := X.base) I.ok.mod.kin T.kC
    (thn (ha.run pos pins s σ H _ I h) fun us s1 ⟨vs, H1, I1, rel, few, want⟩ => ⟨I1.kIn, ?_⟩) he hpl
  show wpAny _ _ (call (.ref C) us) _ _ _
  obtain ⟨hp, g, dr, tk, os⟩ := s1
  have up : hp.objs.size ≤ hp.objs.size + 1 := Nat.le_succ _
  have goal1 := want (hp.objs.size + 1) (I1.hok.fresh up)
  have kept : ∀ b o, hp.get? b = some o → ((hp.push (PySem.W.kdv_tup us)).push (PySem.HandSPX.excO C hp.objs.size)).get? b = some o :=
    fun b o e => Heap.get?_push_of_some _ (Heap.get?_push_of_some _ e)
  have there : ((hp.push (PySem.W.kdv_tup us)).push (PySem.HandSPX.excO C hp.objs.size)).get? (hp.objs.size + 1) = some (PySem.HandSPX.excO C hp.objs.size) := by
    heap_get
  have I2 : Inv X pins σ (upd H1 (hp.objs.size + 1) (exo (hp.objs.size + 1) C none)) ⟨(hp.push (PySem.W.kdv_tup us)).push (PySem.HandSPX.excO C hp.objs.size), g, dr, tk, os⟩ :=
    I1.laid (t' := tk) (o := exo (hp.objs.size + 1) C none) kept up
      (exo_ok there)
  have rel2 : Vals (V.ref (hp.objs.size + 1) :: vs) (Value.ref (hp.objs.size + 1) :: us) := .cons rfl rel
  have len : (Value.ref (hp.objs.size + 1) :: us ++ []).length = ps.length := by
    have z := rel2.length
    rw [F1.len _ _ _ _ goal1] at z
    rw [List.append_nil]
    exact z.symm
  have small : us.length ≤ sizeLine := by
    rw [← Paired.length rel]
    exact Nat.le_trans few (by decide)
  have bind0 := hb _ (Value.ref (hp.objs.size + 1) :: us) I2.kIn len
  rw [List.append_nil] at bind0
  refine wpAny_call (PySem.HandSPX.call_own F.excBase_ValueError (fun Y => PySem.HandSPX.refsVE_contains Y bm hbm) (I1.kIn _ _ hC)
    (PySem.W.looks_findIn I1.kIn iC) (fun self => PySem.W.bind_fn I1.kIn self tI) small
    (codeAny_mono (F1.run _ X.stack _ _ ⟨Value.ref (hp.objs.size + 1) :: us, []⟩ (Value.ref (hp.objs.size + 1) :: us) _ _ (fun _ _ _ => False) (hr.make C us []) (I2.env0.make C us []) bind0 rel2 goal1) ?_))
  intro r s' hq
  match r, hq with
  | .error er, hq => exact (show False from hq).elim
  | .ok (.ret u), hq =>
    obtain ⟨v, H2, os2, bare2, un2, ok2, rv, rfl, ea, q2⟩ := hq
    obtain ⟨h2, g2, d2, t2, os'⟩ := s'
    obtain ⟨t0, G, J, inG, gone, obj⟩ := end_nodict (d2 := d2) (t2 := t2) I1 up kept un2 ok2 os2 bare2 ea
    exact ⟨rv, hp.objs.size + 1, _, _, ⟨G, g2, d2, t2, os'⟩, _, .ref C, none, rfl, J, inG, gone, obj, ⟨rfl, rfl⟩, rfl, rfl, del_same, rfl, bare2, raises_own T.exC T.tyC, q2⟩
theorem del_new {H : Hp} {a : Addr} {o : HO} (h : H a = none) : del (upd H a o) a = H := by
  funext b
  unfold del upd
  by_cases e : b = a
  · rw [if_pos e, e, h]
  · rw [if_neg e, if_neg e]
end
end My

/-! try with several clauses, each with a name for the exception or without one. -/
namespace My
open PySem PySem.Spec PyProof.Rows L2
abbrev Suite := Addr → Value → Option Addr → L2.TS
/-- where the suite goes on: the name's slot is emptied -/
def endsAs (D : Ends) (i : Nat) : Ends where
  nx := fun σ H => D.nx (σ.set i none) H
  rt := D.rt
  bk := fun σ H => D.bk (σ.set i none) H
  ct := fun σ H => D.ct (σ.set i none) H
def wHs (K : PySem.W.Frag) (Wout : WX) (D : Ends) : List (Value × Option Nat × Suite) → WX
  | [] => Wout
  | (c, none, ts) :: r => fun cls d σ H => ∃ b, PySem.W.exmOne K cls c = some b ∧
    (b = true → ∀ a, H a = none → ts a cls d D σ H) ∧ (b = false → wHs K Wout D r cls d σ H)
  | (c, some i, ts) :: r => fun cls d σ H => ∃ b, PySem.W.exmOne K cls c = some b ∧
    (b = true → ∀ a, H a = none → ts a cls d (endsAs D i) (σ.set i (some (.ref a))) H) ∧ (b = false → wHs K Wout D r cls d σ H)
def SuiteOk (X : Cx) (body : List Stmt) (ts : Suite) : Prop :=
  ∀ (a : Addr) (oe : Obj) (cls : Value) (d : Option Addr) (pn : List (Addr × Obj)), Zc cls d oe → (∃ vs, oe.data = .fields vs) →
    PSs (X.suite a ((a, oe) :: pn)) body (ts a cls d)
inductive Hs (X : Cx) : List ExceptHandler → List (Value × Option Nat × Suite) → Prop
  | nil : Hs X [] []
  | bare {x : Str} {c : Value} {ts : Suite} {b₀ : Stmt} {suite : List Stmt} {np pos' : Pos} {hds : List ExceptHandler} {l : List (Value × Option Nat × Suite)}
      (hc : Names X x c) (hsu : SuiteOk X (b₀ :: suite) ts) (r : Hs X hds l) : Hs X (.ExceptHandler (some (.Name x np)) none (b₀ :: suite) pos' :: hds) ((c, none, ts) :: l)
  | as {x n : Str} {i : Nat} {c : Value} {ts : Suite} {b₀ : Stmt} {suite : List Stmt} {np pos' : Pos} {hds : List ExceptHandler} {l : List (Value × Option Nat × Suite)}
      (hi : X.N[i]? = some n) (hln : X.env.kindOf n = some .local) (hc : Names X x c) (hsu : SuiteOk X (b₀ :: suite) ts) (r : Hs X hds l) :
      Hs X (.ExceptHandler (some (.Name x np)) (some n) (b₀ :: suite) pos' :: hds) ((c, some i, ts) :: l)
section
variable {X : Cx} {body : List Stmt} {h₀ : ExceptHandler} {hds : List ExceptHandler} {l : List (Value × Option Nat × Suite)} {pos : Pos} {tb : WX → L2.TS} {Wout : WX}
theorem ps_try_hs (stk : X.stack = X.env :: X.outer) (frm : X.env.frame = some X.env.locals) (nd : X.N.Nodup) (out : Takes X Wout)
    (hb : ∀ (W : WX) (pn : List (Addr × Obj)) (xe : Value → Shared → Prop), Takes (X.tr pn xe) W → PassesOwn (model X.prog X.w) X.A X.env xe → PSs (X.tr pn xe) body (tb W))
    (clauses : Hs X (h₀ :: hds) l) : PS X (.Try body (h₀ :: hds) [] [] pos) (fun D σ H => tb (wHs X.K Wout D l) D σ H) := by
  refine ⟨fun pins s σ H D I want => ?_⟩
  have ok := I.ok
  have frames : X.A.frames = some (X.env :: X.outer) := by rw [ok.frames, stk]
  refine wpAny_Try_except ?_
  let catcher : Value → Shared → Prop := fun e s₁ => wpAny (model X.prog X.w) X.A (noteFrame e X.env) (fun _ s₂ =>
    wpAny (model X.prog X.w) X.A (setFlight e none) (fun _ s₃ => wpAny (model X.prog X.w) X.A (handleBy e X.env (h₀ :: hds)) (SP X pins D) X.xe s₃) X.xe s₂) X.xe s₁
  have inBody := hb (wHs X.K Wout D l) (X.pn ++ pins) catcher (fun u s' xx => ?caught) PassesOwn.looking
  case caught =>
    obtain ⟨a, B, sI, pins', σ', H', cls, d, rfl, J', nb, up, sky, na, os, ag, wish⟩ := xx
    have J : Inv X pins σ' H' sI := J'.ofTry ok
    have sky' : Sky B (X.env :: X.outer) a (Zc cls d) X.env.locals s'.heap := stk ▸ sky
    show wpAny (model X.prog X.w) X.A (noteFrame (.ref a) X.env) _ _ _
    refine Sky.land Zc.steady frames frm sky' fun h3 fl3 up3 => ?_
    have J3 : Inv X pins σ' H' { s' with heap := h3 } := J.landed nb fl3.1 (up.trans up3) os ag
    obtain ⟨oe3, vs3, he3, hz3, hd3⟩ := fl3.there
    have noFrame : a ∉ frs (X.env :: X.outer) := fun hm => by
      obtain ⟨_, o', e', hnf⟩ := fl3.2.2.1.mem hm
      rw [he3] at e'
      cases e'
      exact hnf _ hd3
    have nL : a ≠ X.env.locals := fun z => noFrame (List.mem_filterMap.mpr ⟨X.env, List.mem_cons_self, by rw [frm, z]⟩)
    have nF : a ∉ X.fs := fun hm => by
      obtain ⟨e, he, q⟩ := List.mem_filterMap.mp hm
      exact noFrame (List.mem_filterMap.mpr ⟨e, List.mem_cons_of_mem _ he, q⟩)
    have S3 := J3.suite he3 hd3 na nL nF
    have typ : PySem.W.Looks (model X.prog X.w) h3 (typeOf (.ref a)) cls := fun A Q E s k q =>
      wpAny_typeOf_ref (k _ _ he3) (by rw [hz3.1]; exact q)
    have named : ∀ {x : Str} {c : Value} {np : Pos}, Names X x c → ∀ {Q : Value → Shared → Prop} {E : Value → Shared → Prop}, Q c { s' with heap := h3 } →
        wpAny (model X.prog X.w) (X.A.mark (some (.ref a))) (eval (.Name x np) X.env) Q E { s' with heap := h3 } := by
      intro x c np hc Q E q
      obtain ⟨hg, hdbg, hm | ⟨hm, hv, hnn⟩⟩ := hc
      · exact ld_glob (X := X.suite a ((a, oe3) :: (X.pn ++ pins))) S3 hg hm q
          hdbg
      · exact ld_blt (X := X.suite a ((a, oe3) :: (X.pn ++ pins))) S3 hg hm hv q
          hnn hdbg
    have go : ∀ {hds' : List ExceptHandler} {l' : List (Value × Option Nat × Suite)}, Hs X hds' l' → wHs X.K Wout D l' cls d σ' H' →
        wpAny (model X.prog X.w) X.A (handleBy (.ref a) X.env hds') (SP X pins D) X.xe { s' with heap := h3 } := by
      intro hds' l' hk
      induction hk with
      | nil =>
        intro wish
        refine wpAny_handleBy_nil ?_
        obtain ⟨k1, k2, k3, oe, vs, T, oT, ts', he, hz, hd, h1, hr⟩ := id fl3
        unfold PySem.passOn
        refine wpAny_bind (wpAny_field he hd h1 ?_)
        rw [if_neg (show ¬ ((Value.ref T == Value.none) = true) from by simp)]
        have away : wpAny (model X.prog X.w) X.A (setFlight (.ref a) X.env.frame) (fun _ s4 => wpAny (model X.prog X.w) X.A (throw (.ref a) : Sem Flow) (SP X pins D) X.xe s4) X.xe
            { s' with heap := h3 } := by
          rw [frm]
          refine HandSPX.setFlight_upZ fl3 fun h4 hh4 up4 => wpAny_throw (out _ _ ?_)
          exact ⟨a, B, sI, pins, σ', H', cls, d, rfl, J, nb, (up.trans up3).trans up4,
            .inr (.inr (by rw [stk]; exact hh4)), na, os, ag, wish⟩
        first
          | exact wpAny_bind (wpAny_pure (wpAny_bind away))
          | exact wpAny_bind away
      | @bare x c ts b₀ suite np pos' hds2 l2 hc hsu r ih =>
        intro wish
        obtain ⟨b, hb1, yes, no⟩ := wish
        refine wpAny_handleBy_cons (codeAny_handlers_test ?_) (fun q => by cases q)
        refine named hc ((PySem.W.exm_one (M := model X.prog X.w) J3.kIn typ hb1).here ?_)
        cases b with
        | true =>
          refine codeAny_handlers_suite (HandSPX.lands_againZ fl3 fun h4 fl4 up4 => ?_)
          have J4 : Inv X pins σ' H' { s' with heap := h4 } := J.landed nb fl4.1
            ((up.trans up3).trans up4) os ag
          obtain ⟨oe4, vs4, he4, hz4, hd4⟩ := fl4.there
          have S4 := J4.suite he4 hd4 na nL nF
          refine wpAny_mono ((hsu a oe4 cls d (X.pn ++ pins) hz4 ⟨_, hd4⟩).run [] _ _ H' _ S4 (yes rfl a na)) (fun f s6 hsp => ?_)
            (fun _ _ z => False.elim z)
          cases f with
          | next => exact hsp.imp fun _ ⟨H6, S6, q6⟩ => ⟨H6, S6.unsuite ok, q6⟩
          | brk => exact hsp.imp fun _ ⟨H6, S6, q6⟩ => ⟨H6, S6.unsuite ok, q6⟩
          | cont => exact hsp.imp fun _ ⟨H6, S6, q6⟩ => ⟨H6, S6.unsuite ok, q6⟩
          | ret u => exact hsp.imp fun _ ⟨σ6, H6, S6, r6, q6⟩ => ⟨σ6, H6, S6.unsuite ok, r6, q6⟩
        | false =>
          show wpAny _ X.A (handleBy (.ref a) X.env hds2) _ _ _
          exact ih (no rfl)
      | @as x n i c ts b₀ suite np pos' hds2 l2 hi hln hc hsu r ih =>
        intro wish
        obtain ⟨b, hb1, yes, no⟩ := wish
        refine wpAny_handleBy_cons (codeAny_handlers_test ?_) (fun q => by cases q)
        refine named hc ((PySem.W.exm_one (M := model X.prog X.w) J3.kIn typ hb1).here ?_)
        cases b with
        | true =>
          refine codeAny_handlers_suite_as (HandSPX.lands_againZ fl3 fun h4 fl4 up4 => ?_)
          have J4 : Inv X pins σ' H' { s' with heap := h4 } := J.landed nb fl4.1
            ((up.trans up3).trans up4) os ag
          obtain ⟨oe4, vs4, he4, hz4, hd4⟩ := fl4.there
          have S4 := J4.suite he4 hd4 na nL nF
          have hloc : Loc X.env.scope n := Or.inl hln
          refine store_ok (X := X.suite a ((a, oe4) :: (X.pn ++ pins))) (v := .ref a) S4 nd hi hloc rfl (fun s5 S5 => ?_)
            (Or.inr hln)
          refine wpAny_mono ((hsu a oe4 cls d (X.pn ++ pins) hz4 ⟨_, hd4⟩).run [] s5 _ H' _ S5 (yes rfl a na))
            (fun f s6 hsp => ?_) (fun _ _ z => False.elim z)
          have fin : ∀ {σ6 : L2.St} {H6 : Hp} {Q : Shared → Prop}, Inv (X.suite a ((a, oe4) :: (X.pn ++ pins))) [] σ6 H6 s6 → (∀ s7, Inv X pins (σ6.set i none) H6 s7 → Q s7) →
              wpAny (model X.prog X.w) X.A (do bindName X.env n .none; unbindBehindTheSuite X.env n pos') (fun _ s7 => Q s7) X.xe s6 :=
            fun {_ _ _} S6 hq => gone_ok (S6.unsuite ok) nd hi hln hq
          cases f with
          | next =>
            obtain ⟨σ6, H6, S6, q6⟩ := hsp
            exact fin S6 fun s7 J7 => ⟨σ6.set i none, H6, J7, q6⟩
          | brk =>
            obtain ⟨σ6, H6, S6, q6⟩ := hsp
            exact fin S6 fun s7 J7 => ⟨σ6.set i none, H6, J7, q6⟩
          | cont =>
            obtain ⟨σ6, H6, S6, q6⟩ := hsp
            exact fin S6 fun s7 J7 => ⟨σ6.set i none, H6, J7, q6⟩
          | ret u =>
            obtain ⟨v6, σ6, H6, S6, r6, q6⟩ := hsp
            exact fin S6 fun s7 J7 => ⟨v6, σ6.set i none, H6, J7, r6, q6⟩
        | false =>
          show wpAny _ X.A (handleBy (.ref a) X.env hds2) _ _ _
          exact ih (no rfl)
    exact go clauses wish
  refine wpAny_mono (inBody.run [] s σ H D (I.toTry _) want) (fun f s1 hsp => ?_) (fun e s1 he => he)
  cases f with
  | next => exact wpAny_execs_nil (hsp.imp fun _ ⟨H', J', q⟩ => ⟨H', J'.ofTry ok, q⟩)
  | brk => exact hsp.imp fun _ ⟨H', J', q⟩ => ⟨H', J'.ofTry ok, q⟩
  | cont => exact hsp.imp fun _ ⟨H', J', q⟩ => ⟨H', J'.ofTry ok, q⟩
  | ret u => exact hsp.imp fun _ ⟨σ', H', J', r, q⟩ => ⟨σ', H', J'.ofTry ok, r, q⟩
end
end My

/-! try: .. except (C1, .., Cn) as e: x = e. The exception that is caught stands as a value of its own. -/
namespace My
open PySem PySem.Spec PyProof.Rows L2
theorem flyZ_keep {B h h' : Heap} {l : List Env} {a : Addr} {Z : Obj → Prop} (f : HandSPX.FlyingZ B l a Z h) (k : ∀ b o, h.get? b = some o → h'.get? b = some o) : HandSPX.FlyingZ B l a Z h' := by
  obtain ⟨g1, g2, g3, oe, vs, T, oT, ts, he, hz, hd, h1, hnT, hTe, hT, hdT, h3⟩ := f
  exact ⟨fun b o q => k b o (g1 b o q), g2, g3.of_keeps fun b o q _ => ⟨o, k b o q, rfl⟩, oe, vs, T, oT, ts, k _ _ he, hz, hd, h1, hnT, hTe, k _ _ hT, hdT, h3⟩
section
variable {M : Model} {K : PySem.W.Frag}
/-- which of the classes are asked, one by one -/
def exmEach (K : PySem.W.Frag) (cls : Value) : List Value → List Bool → Prop
  | [], [] => True
  | c :: r, b :: q => PySem.W.exmOne K cls c = some b ∧ exmEach K cls r q
  | _, _ => False
theorem each_exc {h : Heap} {cls : Value} (X : K.In h) {T : Value → Sem (ForInStep PUnit)} {A : Around} {E : Value → Shared → Prop} {Q : PUnit → Shared → Prop} {s : Shared} (k : ∀ b o, h.get? b = some o → s.heap.get? b = some o) (q : Q PUnit.unit s) :
    ∀ {cs : List Value} {bs : List Bool}, exmEach K cls cs bs →
    wpAny M A (forIn cs PUnit.unit fun c _ => do
      let d ← isExcClass c
      if (!d) = true then T c else pure (ForInStep.yield PUnit.unit)) Q E s
  | [], [], _ => by
    simp only [List.forIn_nil]
    exact wpAny_pure q
  | c :: r, b :: bs, hc => by
    obtain ⟨e1, S1⟩ := PySem.W.exm_cls (M := M) X hc.1
    rw [List.forIn_cons]
    refine wpAny_bind (wpAny_bind ((e1.keeps k).here ?_))
    rw [show (!true) = false from rfl, if_neg Bool.false_ne_true]
    refine wpAny_pure ?_
    exact each_exc X k q hc.2
  | [], _ :: _, hc => hc.elim
  | _ :: _, [], hc => hc.elim
theorem each_sub {h : Heap} {cls : Value} (X : K.In h) {A : Around} {E : Value → Shared → Prop} {Q : Option Bool × Unit → Shared → Prop} {s : Shared} (k : ∀ b o, h.get? b = some o → s.heap.get? b = some o) :
    ∀ {cs : List Value} {bs : List Bool}, exmEach K cls cs bs → Q (if bs.any id = true then some true else none, ()) s →
    wpAny M A (forIn cs ((none : Option Bool), ()) fun c _ => do
        let d ← isSubtype cls c
        if d = true then pure (ForInStep.done (some true, ())) else pure (ForInStep.yield (none, ()))) Q E s
  | [], [], _, q => by
    simp only [List.forIn_nil]
    exact wpAny_pure q
  | c :: r, b :: bs, hc, q => by
    obtain ⟨e1, S1⟩ := PySem.W.exm_cls (M := M) X hc.1
    rw [List.forIn_cons]
    refine wpAny_bind (wpAny_bind ((S1.keeps k).here ?_))
    cases b with
    | true =>
      rw [if_pos rfl]
      exact wpAny_pure (wpAny_pure q)
    | false =>
      rw [if_neg Bool.false_ne_true]
      exact wpAny_pure (each_sub X k (A := A) (E := E) (Q := Q) hc.2 q)
  | [], _ :: _, hc, _ => hc.elim
  | _ :: _, [], hc, _ => hc.elim
theorem exm_list {cls : Value} {tp e : Addr} {cs : List Value} {bs : List Bool} {h : Heap} (X : K.In h) (LT : PySem.W.Looks M h (typeOf (.ref e)) cls) (hp : h.get? tp = some { cls := .type "tuple", data := .seq cs.toArray }) (hx : exmEach K cls cs bs) :
    PySem.W.Looks M h (excMatches (.ref e) (.ref tp)) (bs.any id) := by
  intro A Q E s k q
  have LT0 : PySem.W.Looks M h (isInstance (.ref tp) (.type "tuple")) true := ((PySem.W.Looks.ld hp).andThen .now).andThen (PySem.W.Looks.of_pure isSubtype_tuple_tuple)
  unfold excMatches
  refine wpAny_bind ((LT0.keeps k).here ?_)
  rw [if_pos rfl]
  refine wpAny_bind (wpAny_seqItems (k _ _ hp) rfl ?_)
  dsimp only [Option.getD_some, Option.getD]
  refine wpAny_bind (wpAny_pure ?_)
  refine wpAny_bind (each_exc X k ?_ hx)
  refine wpAny_bind ((LT.keeps k).here ?_)
  refine wpAny_bind (each_sub X k hx ?_)
  cases he : bs.any id with
  | true =>
    rw [he] at q
    exact wpAny_pure q
  | false =>
    rw [he] at q
    exact wpAny_pure q
end
end My

namespace My
open PySem PySem.Spec PyProof.Rows L2
/-- at a: an exception that was caught, of the class cls, its dict -/
def exT (a : Addr) (cls : Value) (d : Option Addr) : HO := .ext fun h => ∃ (oe : Obj) (vs : Array Value), h.get? a = some oe ∧ Zc cls d oe ∧ oe.data = .fields vs
theorem exT_ne {a : Addr} {cls : Value} {d : Option Addr} {u : HO} (h : ∀ φ, u ≠ .ext φ) : exT a cls d ≠ u := fun z => by
  have z' : HO.ext _ = u := z
  exact h _ z'.symm
theorem exT_ok {P : Program} {w : World} {H : Hp} {h : Heap} {a : Addr} {cls : Value} {d : Option Addr} {oe : Obj} {vs : Array Value} (e : h.get? a = some oe) (z : Zc cls d oe) (f : oe.data = .fields vs) : ObjOk P w H h a (exT a cls d) :=
  ⟨⟨oe, vs, e, z, f⟩, ⟨oe, e⟩, fun h1 h2 q k => by
    obtain ⟨o, v, e1, e2, e3⟩ := q
    exact ⟨o, v, k _ e1, e2, e3⟩⟩
theorem exT_at {P : Program} {w : World} {H : Hp} {h : Heap} {a : Addr} {cls : Value} {d : Option Addr} (hok : HOk P w H h) (e : H a = some (exT a cls d)) : ∃ (oe : Obj) (vs : Array Value), h.get? a = some oe ∧ Zc cls d oe ∧ oe.data = .fields vs := by
  have x : ObjOk P w H h a (.ext fun h => ∃ (oe : Obj) (vs : Array Value), h.get? a = some oe ∧ Zc cls d oe ∧ oe.data = .fields vs) := hok a _ e
  exact x.1
/-- an object that nobody knows yet is known from now on -/
theorem inv_adopt {X : Cx} {pins : List (Addr × Obj)} {σ : L2.St} {H : Hp} {s : Shared} {a : Addr} {u : HO} (I : Inv X pins σ H s) (hn : H a = none) (h0 : X.s_0.heap.get? a = none) (hl : a ≠ X.env.locals)
    (hc : ∀ x c, X.env.cells.lookup x = some c → c ≠ a) (hp : ∀ p ∈ X.pn ++ pins, p.1 ≠ a) (ok : ObjOk X.prog X.w (upd H a u) s.heap a u) : Inv X pins σ (upd H a u) s where
  ok := I.ok
  os := I.os
  bare := I.bare
  base := {
    keep := I.base.keep
    slot := I.base.slot
    free := fun b o e n x => by
      have nb : b ≠ a := fun z => by
        rw [z, h0] at e
        cases e
      rw [upd_ne nb]
      exact I.base.free b o e n x
    there := I.base.there
    tups := fun b xs e => by
      have q := I.base.tups b xs e
      rw [upd_ne (ne_of_none q hn)]
      exact q
    frzs := fun b o v e => by
      have q := I.base.frzs b o v e
      rw [upd_ne (ne_of_none q hn)]
      exact q
    tbls := fun b ps e => by
      obtain ⟨more, q⟩ := I.base.tbls b ps e
      refine ⟨more, ?_⟩
      rw [upd_ne (ne_of_none q hn)]
      exact q }
  loc := I.loc
  cell := I.cell
  free := by
    rw [upd_ne (Ne.symm hl)]
    exact I.free
  freeC := fun x c e => by
    rw [upd_ne (hc x c e)]
    exact I.freeC x c e
  pin := fun p m => by
    obtain ⟨p1, p2, p3⟩ := I.pin p m
    refine ⟨p1, ?_, p3⟩
    rw [upd_ne (hp p m)]
    exact p2
  hok := fun b o e => by
    by_cases hb : b = a
    · rw [hb, upd_same] at e
      cases e
      rw [hb]
      exact ok
    · rw [upd_ne hb] at e
      exact (I.hok b o e).stay (fun _ _ _ q => q) (fun c q => by rw [upd_ne (ne_of_none q hn)]; exact q) fun c xs q => by rw [upd_ne (ne_of_none q hn)]; exact q
  len := I.len
/-- the names of classes, in a tuple -/
def NamesL (X : Cx) : List Expr → List Value → Prop
  | [], [] => True
  | .Name x _ :: es, c :: cs => Names X x c ∧ NamesL X es cs
  | _, _ => False
def wKeep (K : PySem.W.Frag) (Wout : WX) (D : Ends) (n i j : Nat) (cs : List Value) : WX := fun cls d σ H => ∃ bs : List Bool, exmEach K cls cs bs ∧
  (bs.any id = true → σ.length = n → ∀ a, H a = none → D.nx (((σ.set i (some (.ref a))).set j (some (.ref a))).set i none) (upd H a (exT a cls d))) ∧ (bs.any id = false → Wout cls d σ H)
section
variable {X : Cx} {body : List Stmt} {elts : List Expr} {cs : List Value} {n c : Str} {i j kk : Nat} {tpos pos' apos cp np pos : Pos} {tb : WX → L2.TS} {Wout : WX}
theorem ps_try_keep (hex : X.ex = []) (stk : X.stack = X.env :: X.outer) (frm : X.env.frame = some X.env.locals) (nd : X.N.Nodup) (hi : X.N[i]? = some n) (hln : X.env.kindOf n = some .local) (hj : X.N[j]? = some c) (hlc : X.env.kindOf c = some .local) (hij : i ≠ j)
    (hdn : (n == ("__debug__" : Str)) = false) (hcn : (n == ("__classdict__" : Str)) = false) (names : NamesL X elts cs) (hsz : cs.length ≤ sizeLine) (out : Takes X Wout)
    (hb : ∀ (W : WX) (pn : List (Addr × Obj)) (xe : Value → Shared → Prop), Takes (X.tr pn xe) W → PassesOwn (model X.prog X.w) X.A X.env xe → PSs (X.tr pn xe) body (tb W)) :
    PS X (.Try body [.ExceptHandler (some (.Tuple elts kk tpos)) (some n) [.Assign [.Name c cp] (.Name n np) apos] pos'] [] [] pos) (fun D σ H => tb (wKeep X.K Wout D X.N.length i j cs) D σ H) := by
  refine ⟨fun pins s σ H D I want => ?_⟩
  have ok := I.ok
  have frames : X.A.frames = some (X.env :: X.outer) := by rw [ok.frames, stk]
  refine wpAny_Try_except ?_
  let hds : List ExceptHandler := [.ExceptHandler (some (.Tuple elts kk tpos)) (some n) [.Assign [.Name c cp] (.Name n np) apos] pos']
  let catcher : Value → Shared → Prop := fun e s₁ => wpAny (model X.prog X.w) X.A (noteFrame e X.env) (fun _ s₂ =>
    wpAny (model X.prog X.w) X.A (setFlight e none) (fun _ s₃ => wpAny (model X.prog X.w) X.A (handleBy e X.env hds) (SP X pins D) X.xe s₃) X.xe s₂) X.xe s₁
  have inBody := hb (wKeep X.K Wout D X.N.length i j cs) (X.pn ++ pins) catcher (fun u s' xx => ?caught) PassesOwn.looking
  case caught =>
    obtain ⟨a, B, sI, pins', σ', H', cls, d, rfl, J', nb, up, sky, na, os, ag, wish⟩ := xx
    have J : Inv X pins σ' H' sI := J'.ofTry ok
    have sky' : Sky B (X.env :: X.outer) a (Zc cls d) X.env.locals s'.heap := stk ▸ sky
    show wpAny (model X.prog X.w) X.A (noteFrame (.ref a) X.env) _ _ _
    refine Sky.land Zc.steady frames frm sky' fun h3 fl3 up3 => ?_
    have J3 : Inv X pins σ' H' { s' with heap := h3 } := J.landed nb fl3.1 (up.trans up3) os ag
    obtain ⟨oe3, vs3, he3, hz3, hd3⟩ := fl3.there
    have noFrame : a ∉ frs (X.env :: X.outer) := fun hm => by
      obtain ⟨_, o', e', hnf⟩ := fl3.2.2.1.mem hm
      rw [he3] at e'
      cases e'
      exact hnf _ hd3
    have nL : a ≠ X.env.locals := fun z => noFrame (List.mem_filterMap.mpr ⟨X.env, List.mem_cons_self, by rw [frm, z]⟩)
    have nF : a ∉ X.fs := fun hm => by
      obtain ⟨e, he, q⟩ := List.mem_filterMap.mp hm
      exact noFrame (List.mem_filterMap.mpr ⟨e, List.mem_cons_of_mem _ he, q⟩)
    -- the exception is new
    have inStk : ∀ b, b ∈ frs X.stack → b = X.env.locals ∨ b ∈ X.fs := fun b hm => by
      rw [stk] at hm
      obtain ⟨e, he, q⟩ := List.mem_filterMap.mp hm
      rcases List.mem_cons.mp he with z | z
      · rw [z, frm] at q
        exact .inl (Option.some.inj q).symm
      · exact .inr (List.mem_filterMap.mpr ⟨e, z, q⟩)
    have notI : ∀ o, sI.heap.get? a = some o → False := fun o q => by
      have q2 := nb a o q (stk ▸ noFrame)
      rw [fl3.2.1] at q2
      cases q2
    have h0 : X.s_0.heap.get? a = none := by
      cases q : X.s_0.heap.get? a with
      | none => rfl
      | some o =>
        obtain ⟨o', q'⟩ := J.base.there a o q (by rw [hex]; simp)
        exact (notI o' q').elim
    have hpn : ∀ p ∈ X.pn ++ pins, p.1 ≠ a := fun p hm z => by
      obtain ⟨p1, _⟩ := J.pin p hm
      rw [z] at p1
      exact notI _ p1
    have typ : ∀ {h : Heap}, (∀ b o, h3.get? b = some o → h.get? b = some o) → PySem.W.Looks (model X.prog X.w) h (typeOf (.ref a)) cls := fun {h} kh A Q E s k q =>
      wpAny_typeOf_ref (k _ _ (kh _ _ he3)) (by rw [hz3.1]; exact q)
    obtain ⟨bs, hbs, yes, no⟩ := wish
    have S3 := J3.suite he3 hd3 na nL nF
    have named : ∀ {x : Str} {c : Value} {np : Pos}, Names X x c → ∀ {Q : Value → Shared → Prop} {E : Value → Shared → Prop}, Q c { s' with heap := h3 } →
        wpAny (model X.prog X.w) (X.A.mark (some (.ref a))) (eval (.Name x np) X.env) Q E { s' with heap := h3 } := by
      intro x c np hc Q E q
      obtain ⟨hg, hdbg, hm | ⟨hm, hv, hnn⟩⟩ := hc
      · exact ld_glob (X := X.suite a ((a, oe3) :: (X.pn ++ pins))) S3 hg hm q hdbg
      · exact ld_blt (X := X.suite a ((a, oe3) :: (X.pn ++ pins))) S3 hg hm hv q hnn hdbg
    let s3 : Shared := { s' with heap := h3 }
    let tpo : Obj := { cls := .type "tuple", data := .seq cs.toArray }
    have kpush : ∀ b o, h3.get? b = some o → (h3.push tpo).get? b = some o := fun _ _ q => Heap.get?_push_of_some _ q
    -- the tuple of the classes
    have tupled : ∀ {Q : Value → Shared → Prop} {E : Value → Shared → Prop}, Q (.ref h3.objs.size) { s' with heap := h3.push tpo } →
        wpAny (model X.prog X.w) (X.A.mark (some (.ref a))) (eval (.Tuple elts kk tpos) X.env) Q E s3 := by
      intro Q E q
      refine wpAny_Tuple ?_
      have go : ∀ (es : List Expr) (ds : List Value), NamesL X es ds → ∀ {R : List Value → Shared → Prop}, R ds s3 → wpAny (model X.prog X.w) (X.A.mark (some (.ref a))) (spliced (backTo tpos (starEach es X.env))) R E s3 := by
        intro es ds
        induction es generalizing ds with
        | nil =>
          intro hn R r
          match ds, hn with
          | [], _ => exact wpAny_items_nil r
        | cons e es ih =>
          intro hn R r
          match e, ds, hn with
          | .Name x p, c0 :: ds, hn => exact wpAny_items_cons (named hn.1 (ih ds hn.2 (R := fun vs s₂ => R (c0 :: vs) s₂) r))
      exact go elts cs names ⟨hsz, q⟩
    refine wpAny_handleBy_cons (codeAny_handlers_test ?_) (fun q => by cases q)
    refine tupled ((exm_list (M := model X.prog X.w) (h := h3.push tpo) (J3.kIn.keeps kpush) (typ kpush) (Heap.get?_push_size h3 rfl) hbs).here ?_)
    have J4 : Inv X pins σ' H' { s' with heap := h3.push tpo } := J3.kept kpush
    have fl4 := flyZ_keep fl3 kpush
    have up4 : s'.heap.UpToSlots (h3.push tpo) := fun b o e nf => by
      obtain ⟨sl, q⟩ := up3 b o e nf
      exact ⟨sl, kpush _ _ q⟩
    cases hany : bs.any id with
    | true =>
      refine codeAny_handlers_suite_as (HandSPX.lands_againZ fl4 fun h5 fl5 up5 => ?_)
      have J5 : Inv X pins σ' H' { s' with heap := h5 } := J.landed nb fl5.1 ((up.trans up4).trans up5) os ag
      obtain ⟨oe5, vs5, he5, hz5, hd5⟩ := fl5.there
      have S5 := J5.suite he5 hd5 na nL nF
      have hloc : Loc X.env.scope n := Or.inl hln
      refine store_ok (X := X.suite a ((a, oe5) :: (X.pn ++ pins))) (v := .ref a) S5 nd hi hloc rfl (fun s6 S6 => ?_) (Or.inr hln)
      have asg : PSs (X.suite a ((a, oe5) :: (X.pn ++ pins))) [.Assign [.Name c cp] (.Name n np) apos] _ := pss_one (ps_set (i := j) nd hj (Or.inl hlc) (pe_var (i := i) hi (.inl hln) hdn hcn) (hf := Or.inr hlc))
      refine wpAny_mono (asg.run [] s6 _ H' { nx := fun σ6 H6 => σ6 = (σ'.set i (some (.ref a))).set j (some (.ref a)) ∧ H6 = H', rt := fun _ _ => False } S6 ?_) (fun f s7 hsp => ?_) (fun _ _ z => False.elim z)
      · have hlen : i < σ'.length := by
          rw [J.len]
          exact (List.getElem?_eq_some_iff.mp hi).1
        exact ⟨.ref a, by rw [List.getElem?_set_self hlen], rfl, rfl⟩
      cases f with
      | next =>
        obtain ⟨σ7, H7, S7, e7, e8⟩ := hsp
        subst e7 e8
        have pin7 := (S7.pin (a, oe5) (List.mem_append_left _ List.mem_cons_self)).1
        have J7 := S7.unsuite ok
        have hcell : ∀ x c, X.env.cells.lookup x = some c → c ≠ a := fun x c e z => by
          obtain ⟨v, o, ho, hd⟩ := J7.cell x c e
          rw [z, pin7] at ho
          cases ho
          rw [hd5] at hd
          cases hd
        have J8 := inv_adopt (u := exT a cls d) J7 na h0 nL hcell hpn (exT_ok pin7 hz5 hd5)
        exact gone_ok J8 nd hi hln fun s8 J9 => ⟨_, _, J9, yes hany J.len a na⟩
      | brk =>
        obtain ⟨_, _, _, q⟩ := hsp
        exact (show False from q).elim
      | cont =>
        obtain ⟨_, _, _, q⟩ := hsp
        exact (show False from q).elim
      | ret u =>
        obtain ⟨_, _, _, _, _, q⟩ := hsp
        exact (show False from q).elim
    | false =>
      show wpAny _ X.A (handleBy (.ref a) X.env []) _ _ _
      refine wpAny_handleBy_nil ?_
      obtain ⟨k1, k2, k3, oe, vs, T, oT, ts', he, hz, hd, h1, hr⟩ := id fl4
      unfold PySem.passOn
      refine wpAny_bind (wpAny_field he hd h1 ?_)
      rw [if_neg (show ¬ ((Value.ref T == Value.none) = true) from by simp)]
      have away : wpAny (model X.prog X.w) X.A (setFlight (.ref a) X.env.frame) (fun _ s4 => wpAny (model X.prog X.w) X.A (throw (.ref a) : Sem Flow) (SP X pins D) X.xe s4) X.xe
          { s' with heap := h3.push tpo } := by
        rw [frm]
        refine HandSPX.setFlight_upZ fl4 fun h5 hh5 up5 => wpAny_throw (out _ _ ?_)
        exact ⟨a, B, sI, pins, σ', H', cls, d, rfl, J, nb, (up.trans up4).trans up5, .inr (.inr (by rw [stk]; exact hh5)), na, os, ag, no hany⟩
      first
        | exact wpAny_bind (wpAny_pure (wpAny_bind away))
        | exact wpAny_bind away
  refine wpAny_mono (inBody.run [] s σ H D (I.toTry _) want) (fun f s1 hsp => ?_) (fun e s1 he => he)
  cases f with
  | next => exact wpAny_execs_nil (hsp.imp fun _ ⟨H', J', q⟩ => ⟨H', J'.ofTry ok, q⟩)
  | brk => exact hsp.imp fun _ ⟨H', J', q⟩ => ⟨H', J'.ofTry ok, q⟩
  | cont => exact hsp.imp fun _ ⟨H', J', q⟩ => ⟨H', J'.ofTry ok, q⟩
  | ret u => exact hsp.imp fun _ ⟨σ', H', J', r, q⟩ => ⟨σ', H', J'.ofTry ok, r, q⟩
end
end My

/-! isinstance and the fields of an exception that stands as a value. -/
namespace My
open PySem PySem.Spec PyProof.Rows L2
open PySem.W in
theorem find_cls {K : Frag} {C : Addr} {od : Option Obj} {a g : Value} (hc : (clsIn K C).isSome = true) (ha : findIn K (.ref C) "__class__" = some (some a)) (hg : specialIn K a "__get__" = some (some g)) (ht : takesIn K a = some true) :
    findObj K C od "__class__" = some (.bind g a) := by
  obtain ⟨cd, hcd⟩ := Option.isSome_iff_exists.mp hc
  unfold findObj
  rw [hcd, Option.bind_some, ha, Option.bind_some]
  simp [hg, ht]
section
open PySem.W PySem.Calls
variable {prog : Program} {w : World} {A : Around} {E : Value → Shared → Prop} {s : Shared} {K : Frag} {x D : Addr} {ox : Obj} {od : Option Obj}
/-- e.__class__ of an exception with a dict of its own -/
theorem cls_attr {Q : Option Value → Shared → Prop} (C : ExcC K D) (X : K.In s.heap) (I : InstAt s.heap x ox D od) (h : Q (some (.ref D)) { s with toks := s.toks + 1 }) : wpAny (model prog w) A (getAttr? (.ref x) "__class__") Q E s := by
  have hf : findObj K D od "__class__" = some (.bind (.builtin "getset_descriptor.__get__") (.builtin "object.__class__")) := find_cls (by obtain ⟨cd, hc, _⟩ := any_some C.hd; rw [hc]; rfl) C.ha C.hn C.ht
  obtain ⟨hp, gs, dr, tk, os⟩ := s
  have l0 := I.type (M := model prog w)
  have l1 := looks_findIn (M := model prog w) X C.hg
  have l2 := looks_findIn (M := model prog w) X C.hk
  have l3 := looks_find (M := model prog w) X I hf
  have isB : Looks (model prog w) hp (isInstance (.ref x) (.type "BaseException")) true := l0.andThen (looks_subIn X C.hs)
  have notO : (Value.builtin "BaseException.__getattribute__" == Value.builtin "object.__getattribute__") = false := by decide +kernel
  unfold getAttr? getAttrBy? getAttrBy
  refine wpAny_bind (wpAny_mkText (wpAny_bind (wpAny_attempt (wpAny_holding (wpAny_bind (l0.at (wpAny_bind (l1.at ?_))))))))
  show wpAny _ _ (if (onTheHeap (Value.ref D) && Value.builtin "BaseException.__getattribute__" == Value.builtin "object.__getattribute__") = true then _ else _) _ _ _
  rw [show (onTheHeap (Value.ref D) && Value.builtin "BaseException.__getattribute__" == Value.builtin "object.__getattribute__") = false by rw [notO]; rfl, if_neg Bool.false_ne_true]
  unfold getAttrByItsOwn hookBefore
  refine wpAny_bind ?_
  rw [if_pos (show onTheHeap (Value.ref D) = true from rfl)]
  refine l2.at (wpAny_bind (wpAny_attempt (wpAny_holding ?_)))
  unfold callGetattribute
  rw [show (false && onTheHeap (Value.builtin "BaseException.__getattribute__")) = false from rfl, if_neg Bool.false_ne_true]
  unfold boundAndCalled
  rw [PySem.F.excAttr_ValueError.ga.bind (.ref x)]
  refine wpAny_bind (wpAny_pure ?_)
  show wpAny _ _ (call (.builtin "BaseException.__getattribute__") [.ref x, .str "__class__" tk]) _ _ _
  refine wpAny_call (codeAny_call_builtin PySem.F.excAttr_ValueError.ga.plain PySem.F.entry_bexc_ga ?_)
  refine @check_slot (model prog w) _ _ ⟨hp, gs, dr, tk + 1, os⟩ "BaseException.__getattribute__" "BaseException" "__getattribute__" (.ref x) [.str "__class__" tk] [] _ (by decide +kernel) (by decide +kernel) isB (PySem.F.args_bexc_ga (.ref x) (.str "__class__" tk)) ?_
  unfold Builtin.«object.__getattribute__»
  refine wpAny_bind (wpAny_of_eq (a := ((Value.ref x : Value), [Value.str "__class__" tk])) (by first | rfl | (simp only [slotArgs]; rfl)) ?_)
  refine wpAny_bind (wpAny_pure (wpAny_bind (l0.at (wpAny_bind (l3.at ?_)))))
  show wpAny _ _ (holding [Value.builtin "object.__class__"] (call (.builtin "getset_descriptor.__get__") [.builtin "object.__class__", .ref x, .ref D]) >>= ret) _ _ _
  refine wpAny_bind (wpAny_holding (wpAny_call (class_get (s := ⟨hp, gs, dr, tk + 1, os⟩) (ox := ox) (od := od) X I C.hm ?_)))
  refine wpAny_pure ?_
  show wpAny _ _ (handedOut (.ref D)) _ _ _
  rw [handedOut_of (v := .ref D) rfl]
  first
    | exact wpAny_pure (wpAny_pure h)
    | exact wpAny_pure h
    | exact wpAny_pure (wpAny_bind (wpAny_pure (wpAny_pure h)))
theorem kitx_exT (C : ExcC K D) : KitX K (.ref x) (.ref D) (fun h => ∃ (ox : Obj) (od : Option Obj), InstAt h x ox D od) where
  ty := fun _ _ _ ⟨_, _, I⟩ => I.type
  it := fun _ _ X _ => by
    obtain ⟨cd, hc, _⟩ := any_some C.hd
    unfold clsIn at hc
    split at hc
    · rename_i ho
      intro A' Q' E' s' k q
      unfold isType loadHead
      exact wpAny_bind (wpAny_loadPart (k _ _ (X _ _ ho)) (wpAny_pure q))
    · cases hc
  ne := fun h tp dd its n sl X htp => by
    obtain ⟨cd, hc, _⟩ := any_some C.hd
    refine Bool.eq_false_iff.mpr fun q => ?_
    have e : D = tp := Value.ref.inj (beq_iff_eq.mp q)
    subst e
    unfold clsIn at hc
    split at hc
    · rename_i ho
      have z := (X _ _ ho).symm.trans htp
      cases z
    · cases hc
  ca := fun X ⟨_, _, I⟩ k => cls_attr C X I k
end
/-- an exception of the class at D, its dict at dd -/
def Exc (H : Hp) (a D : Addr) (d : Option Addr) : Prop := H a = some (exT a (.ref D) d)
theorem inst_exT {X : Cx} {pins : List (Addr × Obj)} {σ : L2.St} {H : Hp} {s : Shared} {a D : Addr} {d : Option Addr} (I : Inv X pins σ H s) (h : Exc H a D d) (hd : ∀ dd, d = some dd → ∃ fs, H dd = some (.xd fs)) :
    ∃ ox od, PySem.W.InstAt s.heap a ox D od := by
  obtain ⟨oe, vs, he, hz, hv⟩ := exT_at I.hok h
  obtain ⟨z1, z2⟩ := hz
  cases d with
  | none =>
    refine ⟨oe, none, ?_⟩
    obtain ⟨oc, odd, oda, osl⟩ := oe
    dsimp only at z1 z2 hv
    subst z1 z2 hv
    exact ⟨he, rfl, rfl, trivial⟩
  | some dd =>
    obtain ⟨fs, hfs⟩ := hd dd rfl
    obtain ⟨mA, hns, hr⟩ := (I.hok dd _ hfs : ObjOk X.prog X.w H s.heap dd (.xd fs))
    obtain ⟨od, ho, _⟩ := lookIn_ns hns
    refine ⟨oe, some od, he, z1, ?_, ?_⟩
    · unfold PySem.W.notCls
      rw [hv] <;> rfl
    · rw [z2]
      exact ho
def rIsT (K : PySem.W.Frag) : List V → Hp → VK → Prop := fun xs H Q => ∃ (a D : Addr) (d : Option Addr) (c : V) (cv : Value) (b : Bool), xs = [.ref a, c] ∧ Exc H a D d ∧ (∀ dd, d = some dd → ∃ fs, H dd = some (.xd fs)) ∧ ExcC K D ∧ (∀ u, RelV c u → u = cv) ∧
  PySem.W.kitOne K (.ref D) cv = some b ∧ Q (.bl b) H
theorem call_isT {X : Cx} : CallR X (.builtin "isinstance") (rIsT X.K) := by
  intro pins s σ H xs us Q I r h
  obtain ⟨a, D, d, c, cv, b, rfl, he, hd, C, hcv, e, q⟩ := h
  cases r with
  | cons rx rr =>
    cases rr with
    | cons rt rr =>
      cases rr
      cases rx
      have ec := hcv _ rt
      subst ec
      exact PySem.W.kia_one (kitx_exT C) I.kIn (inst_exT I he hd) e (fun z => nomatch z) fun tk => ⟨.bl b, H, I.kept (t' := tk) fun _ _ z => z, rfl, q⟩
def tXfT (K : PySem.W.Frag) (f : Str) (te : TE) : TE := fun σ H Q => te σ H fun x H1 => ∃ (a D dd : Addr) (fs : List (Str × V)) (v : V), x = .ref a ∧ Exc H1 a D (some dd) ∧ H1 dd = some (.xd fs) ∧ XfC K D ∧ PySem.W.findIn K (.ref D) f = some none ∧ fs.lookup f = some v ∧ Q v H1
theorem pe_xfT {X : Cx} {e : Expr} {te : TE} {pos : Pos} {n : Str} (he : PE X e te) (hb : attributeBase e n X.env (eval e X.env) = eval e X.env := by rfl) : PE X (.Attribute e n pos) (tXfT X.K n te) := by
  refine ⟨fun pins s σ H Q I h => ?_⟩
  refine attr_of hb (thn (he.run pins s σ H _ I h) fun u s1 hh => ?_)
  obtain ⟨x, H1, I1, rx, a, D, dd, fs, v, ex, hexc, ea, T, hno, l, q⟩ := hh
  subst ex
  obtain rfl : u = Value.ref a := rx
  obtain ⟨oe, vs, ha, hz, hd⟩ := exT_at I1.hok hexc
  obtain ⟨mA, hns, hr⟩ := (I1.hok dd _ ea : ObjOk X.prog X.w H1 s1.heap dd (.xd fs))
  obtain ⟨od, ho, hl⟩ := lookIn_ns hns
  obtain ⟨u, hu, ru⟩ := RelO.some_of (v := v) (o := mA n) (by rw [← l]; exact hr n)
  have J : PySem.W.InstAt s1.heap a oe D (some od) := ⟨ha, hz.1, by unfold PySem.W.notCls; rw [hd] <;> rfl, by rw [hz.2]; exact ho⟩
  exact HandSPX.exc_get I1.kIn J T.ga T.gg T.exC (PySem.W.findObj_own T.hdC hno rfl (by rw [hl, hu])) (handed_of ru) ⟨v, H1, I1.tok _, ru, q⟩
end My

/-! The end of a law that makes lambdas, whose promise is asked where no guard stands: its code object's table of code objects grows. -/
namespace My
open PySem PySem.Spec PyProof.Rows L2 LamX
/-- nothing stands but the script and the table at P -/
def OnlyT (P : Addr) (H : Hp) : Prop := ∀ b, H b = none ∨ b = P ∨ ∃ o xs, H b = some (.frz o (.lst xs))
abbrev tabO (ps : Array Value) : Obj := { cls := .none, data := .fields ps }
theorem law_callGT {Pr : Program} {w : World} {K : PySem.W.Frag} {mg mb : Str → Option Value} {k : Nat} {fa a c P : Addr} {fd : FuncData} {x : Str} {sp : Sp} {s₁ : Shared} {vs : List Value} {ns : List Int}
    (inK : K.In s₁.heap) (glob : s₁.heap.Ns mainGlobals mg) (blt : s₁.heap.Ns builtinsNs mb) (boot : ∀ x : Str, x ≠ "__name__" → mb x = bootBuiltins x) (nolim : s₁.heap.NoLimit) (nogen : s₁.gens = #[])
    (hT : s₁.heap.get? P = some (tabO #[])) (nT : K.lookup P = none) (C : PySem.W.CodeHd s₁.heap c P)
    (hbm : ∃ (bm : Addr) (ob : Obj), mg "__builtins__" = some (.ref bm) ∧ bm ≠ builtinsNs ∧ s₁.heap.get? bm = some ob ∧ ob.cls = .type "module" ∧ ob.dict = some builtinsNs ∧ ob.data = .plain)
    (hobj : s₁.heap.get? a = some { cls := .type "list", data := .seq vs.toArray }) (hints : IntsAre vs ns) (hlen : ns.length ≤ sizeLine) (room : Room k callerA)
    (F : ∀ base : Heap, K.In base → base.Ns mainGlobals mg → TabB base mg c P → FnG Pr w K mg base k fa fd [x] sp) (binds : ∀ (s : Shared) (u : Value), BindsTo s fd ⟨[u], []⟩ [(x, u)])
    (want : ∀ H : Hp, H P = some (.tbl #[]) → SqL K H a (ns.map V.int) → sp [.ref a] H (fun v _ => v = .bl true) fun _ _ _ => False) :
    codeAny (model Pr w) callerA (.call (.ref fa) ⟨[.ref a], []⟩) (fun r s' => r = .ok (.ret (.bool true)) ∧ OldK s₁.heap s'.heap ∧ s'.os = s₁.os ∧ AllBare s'.gens) s₁ := by
  have relv := vals_ints hints
  have naP : a ≠ P := fun z => by
    rw [z, hT] at hobj
    have z' : Data.fields #[] = Data.seq vs.toArray _ := congrArg Obj.data (Option.some.inj hobj)
    cases z'
  have core : ∀ H : Hp, H P = some (.tbl #[]) → OnlyT P H → SqL K H a (ns.map V.int) → HOk Pr w H s₁.heap → (∀ b, H b ≠ none → b = a ∨ b = P) → (H a ≠ none → K.lookup a = none) →
      codeAny (model Pr w) callerA (.call (.ref fa) ⟨[.ref a], []⟩) (fun r s' => r = .ok (.ret (.bool true)) ∧ OldK s₁.heap s'.heap ∧ s'.os = s₁.os ∧ AllBare s'.gens) s₁ := by
    intro H hP only seq ok one notK
    have up : ∀ {b : Addr} {o : Obj}, s₁.heap.get? b = some o → H b = none → (hidT s₁.heap H).get? b = some o := fun e n => hidT_get e n
    -- what is neither a list nor a table is not tracked
    have out : ∀ {b : Addr} {o : Obj}, s₁.heap.get? b = some o → (∀ vs n, o.data ≠ .seq vs n) → o.data ≠ .fields #[] → H b = none := by
      intro b o e h1 h2
      cases q : H b with
      | none => rfl
      | some u =>
        rcases one b (fun z => by rw [q] at z; cases z) with z | z
        · rw [z, hobj] at e
          cases e
          exact (h1 _ _ rfl).elim
        · rw [z, hT] at e
          cases e
          exact (h2 rfl).elim
    have outD : ∀ {b : Addr} {o : Obj} {es : Array DictEntry} {ep : Nat}, s₁.heap.get? b = some o → o.data = .dict es ep → H b = none := fun {b o es ep} e d =>
      out e (fun vs n z => by rw [d] at z; cases z) (fun z => by rw [d] at z; cases z)
    have nsUp : ∀ {b : Addr} {m : Str → Option Value}, s₁.heap.Ns b m → (hidT s₁.heap H).Ns b m :=
      fun {_ _} ⟨o, es, ep, e, d, r⟩ => ⟨o, es, ep, up e (outD e d), d, r⟩
    have kUp : K.In (hidT s₁.heap H) := by
      intro b o e
      refine up (inK b o e) ?_
      cases q : H b with
      | none => rfl
      | some u =>
        rcases one b (fun z => by rw [q] at z; cases z) with z | z
        · rw [z, notK (fun y => by rw [← z, q] at y; cases y)] at e
          cases e
        · rw [z, nT] at e
          cases e
    have mod : Mod K mg (hidT s₁.heap H) := ⟨kUp, nsUp glob, ⟨mb, nsUp blt, boot⟩, nolim.imp fun mc z => ⟨nsUp z.1, z.2⟩⟩
    have tb : TabB (hidT s₁.heap H) mg c P := by
      refine ⟨?_, ?_, fun z => ?_⟩
      · obtain ⟨o, us, file, tf, flags, tg, inF, text, tt, e1, r1, r2, r3, r⟩ := C
        refine ⟨o, us, file, tf, flags, tg, inF, text, tt, up e1 (out e1 (fun vs n z => ?_) fun z => ?_), r1, r2, r3, r⟩
        · rw [r2] at z
          cases z
        · rw [r2] at z
          cases z
          simp at r3
      · obtain ⟨bm, ob, b1, b2, b3, b4, b5, b6⟩ := hbm
        have nG : bm ≠ mainGlobals := fun q => by
          obtain ⟨o, es, ep, e, hd, _⟩ := glob
          rw [q, e] at b3
          cases b3
          rw [hd] at b6
          cases b6
        have nP : bm ≠ P := fun q => by
          rw [q, hT] at b3
          cases b3
          cases b6
        exact ⟨bm, ob, b1, b2, nG, nP, up b3 (out b3 (fun vs n z => by rw [b6] at z; cases z) fun z => by rw [b6] at z; cases z), b4, b5, b6⟩
      · obtain ⟨o, es, ep, e, hd, _⟩ := glob
        rw [z, hT] at e
        cases e
        cases hd
    have env0 : Env0 Pr w K mg (hidT s₁.heap H) callerA [] s₁ H :=
      ⟨rfl, mod, fun b o e => of_hidT e, Nat.le_of_eq (hidT_size _ _), trivial, fun b hb => absurd (show b ∈ ([] : List Addr) from hb) (by simp), ok, .of_eq nogen⟩
    have call := (F _ kUp (nsUp glob) tb).go callerA [] s₁ H ⟨[.ref a], []⟩ [.ref a] [.ref a] _ _ rfl room env0 (binds s₁ (.ref a)) (.cons rfl .nil) (want H hP seq)
    refine codeAny_mono call fun r s' h => ?_
    match r, h with
    | .error e, h => exact (show False from h).elim
    | .ok (.ret u), h =>
      obtain ⟨v, H', os, bare, un, ok', rv, q⟩ := h
      obtain rfl : v = .bl true := q
      obtain rfl : u = Value.bool true := rv
      have stays : ∀ b o, b ≠ P → s₁.heap.get? b = some o → s'.heap.get? b = some o := fun b o nb e => by
        rcases only b with z | z | ⟨ob, xs, z⟩
        · exact un.keep b o e z (fun y => absurd (show b ∈ ([] : List Addr) from y) (by simp)) (by simp)
        · exact absurd z nb
        · obtain ⟨e1, _⟩ := ok b _ z
          obtain ⟨e2, _⟩ := ok' b _ (un.frzs b ob _ z)
          rw [e] at e1
          cases e1
          exact e2
      obtain ⟨more, hm⟩ : ∃ more : Array Value, s'.heap.get? P = some (tabO more) := by
        obtain ⟨more, z⟩ := un.tbls P #[] hP
        exact ⟨_, ok' P _ z⟩
      refine ⟨rfl, ⟨fun b o e => ?_, fun b o e => ?_⟩, os, bare⟩
      · by_cases hb : b = P
        · rw [hb] at e ⊢
          rw [hT] at e
          cases e
          exact .inr (.inl ⟨(C.tab hT).isCodeTable, rfl, #[], more, rfl, by rw [Array.empty_append]; exact hm⟩)
        · exact .inl (stays b o hb e)
      · by_cases hb : b = P
        · rw [hb]
          exact ⟨_, hm⟩
        · exact ⟨o, stays b o hb e⟩
  let t0 : Hp := fun b => if b = P then some (.tbl #[]) else none
  have t0P : t0 P = some (.tbl #[]) := if_pos rfl
  have t0o : ∀ {b}, b ≠ P → t0 b = none := fun h => if_neg h
  cases hk : K.lookup a with
  | some o =>
    have e := inK a o hk
    rw [hobj] at e
    cases e
    have stands : SqL K t0 a (ns.map V.int) := .inr ⟨_, vs.toArray, _, hk, rfl, rfl, rfl, by rw [List.size_toArray, hints.length]; exact hlen, by simpa using relv⟩
    refine core t0 t0P (fun b => ?_) stands (fun b u z => ?_) (fun b z => ?_) fun z => absurd (t0o naP) z
    · by_cases hb : b = P
      · exact .inr (.inl hb)
      · exact .inl (t0o hb)
    · by_cases hb : b = P
      · rw [hb, t0P] at z
        cases z
        rw [hb]
        exact hT
      · rw [t0o hb] at z
        cases z
    · by_cases hb : b = P
      · exact .inr hb
      · exact absurd (t0o hb) z
  | none =>
    let o : Obj := { cls := .type "list", data := .seq vs.toArray }
    let H1 : Hp := fun b => if b = a then some (.frz o (.lst (ns.map V.int))) else t0 b
    have atA : H1 a = some (.frz o (.lst (ns.map V.int))) := if_pos rfl
    have ofA : ∀ {b}, b ≠ a → H1 b = t0 b := fun h => if_neg h
    refine core H1 ((ofA (Ne.symm naP)).trans t0P) (fun b => ?_) (.inl (.inr ⟨o, atA⟩)) (fun b u z => ?_) (fun b z => ?_) fun _ => hk
    · by_cases hb : b = a
      · exact .inr (.inr ⟨_, _, by rw [hb]; exact atA⟩)
      · by_cases hb2 : b = P
        · exact .inr (.inl hb2)
        · exact .inl ((ofA hb).trans (t0o hb2))
    · by_cases hb : b = a
      · rw [hb, atA] at z
        cases z
        rw [hb]
        exact ⟨hobj, by rw [List.length_map]; exact hlen, vs, _, relv, hobj⟩
      · rw [ofA hb] at z
        by_cases hb2 : b = P
        · rw [hb2, t0P] at z
          cases z
          rw [hb2]
          exact hT
        · rw [t0o hb2] at z
          cases z
    · by_cases hb : b = a
      · exact .inl hb
      · by_cases hb2 : b = P
        · exact .inr hb2
        · exact absurd ((ofA hb).trans (t0o hb2)) z
theorem walk_ofGT {l : PySem.W.OpenLaw} {n k : Nat} {q : Program} {loose : List Str} {XP : (Str → Option Value) → Heap → Prop} {YP : World → Heap → Prop} {d : DefRec}
    {K : Params → PySem.W.Frag} {sp : PySem.W.Frag → Addr → Sp} {x : Str}
    (hn : l.most = some n) (hn2 : n ≤ sizeLine) (hdf : d.params.defaults = []) (room : Room k callerA) (hrec : ((recsOf q).any fun e => e.name == d.name) = true)
    (hY : ∀ (w : World) (h : Heap), YP w h → (K w.params).In h)
    (F : ∀ (w : World) (mg : Str → Option Value) (fa : Addr) (h : Heap), (K w.params).In h → h.Ns mainGlobals mg → mg d.name = some (.ref fa) → OwnTab (K w.params) fa h →
      ∃ (fd : FuncData) (c P : Addr), h.get? P = some (tabO #[]) ∧ (K w.params).lookup P = none ∧ PySem.W.CodeHd h c P ∧ (∀ (s : Shared) (u : Value), BindsTo s fd ⟨[u], []⟩ [(x, u)]) ∧
        ∀ base : Heap, (K w.params).In base → base.Ns mainGlobals mg → TabB base mg c P → FnG l.prog w (K w.params) mg base k fa fd [x] (sp (K w.params) P))
    (want : ∀ (K : PySem.W.Frag) (H : Hp) (a P : Addr) (ns : List Int), ns.length ≤ n → H P = some (.tbl #[]) → SqL K H a (ns.map V.int) → sp K P [.ref a] H (fun v _ => v = .bl true) fun _ _ _ => False) :
    PySem.W.WalkO q loose XP YP l.row.toRowW d [] (fun f vs => PySem.call f vs) := by
  refine Att.attach_callB hn hdf fun w s₀ s₁ mg mb fa o pm cd doc a vs ns G Y ho hd hcd hmg hobj hints hlen hbits hg => ?_
  have KX := hY w _ Y
  have own : OwnTab (K w.params) fa s₁.heap := fun c P o1 fd1 e dd vs1 sl k1 k2 k3 k4 k5 => by
    obtain ⟨dL, hm, hn1⟩ := List.any_eq_true.mp hrec
    have hname : dL.name = d.name := beq_iff_eq.mp hn1
    obtain ⟨a', o', fd', c', P', h1, h2, h3, h4, h5, h6⟩ := G.T.tab dL hm
    rw [hname, hmg] at h1
    cases h1
    rw [KX _ _ k1] at h2
    cases h2
    rw [k2] at h3
    cases h3
    rw [k3] at h4
    cases h4
    obtain ⟨⟨oc, vc, e1, _, e3, e4⟩, hP⟩ := h6
    rw [KX _ _ k4] at e1
    cases e1
    cases e3
    rw [k5] at e4
    cases e4
    exact hP
  obtain ⟨fd, c, P, hT, nT, C, hb, hF⟩ := F w mg fa _ KX G.T.g hmg own
  exact law_callGT KX G.T.g G.T.b G.T.builtins G.T.nolimit hg hT nT C G.T.bmain hobj hints (Nat.le_trans hlen hn2) room hF hb fun H hH hS => want (K w.params) H a P ns hlen hH hS
section
variable {P : Program} {w : World} {K : PySem.W.Frag} {mg : Str → Option Value} {base : Heap}
/-- okG, the code object known -/
theorem okGc {x qual : Str} {st : Stmt} {f c : Addr} {fd : FuncData} {N ps : List Str} {k : Nat} {sp : Sp} (F : Fun K x qual st f fd) (hc : fd.code = .ref c)
    (S : FnScope N ps (defScope st)) (len : ∀ vs H Q E, sp vs H Q E → vs.length = ps.length)
    (body : ∀ (A : Around) (outer : List Env) (s : Shared) (H : Hp) (vs : List V) (Q : VK) (E : XK), A.guards = some [] →
      Room k (A.deeper (envOfC qual (defScope st) s.heap.objs.size f (.ref c))) → sp vs H Q E →
      ∃ t, PSs (cxOf CX0 P w K mg base N qual (defScope st) f (.ref c) A outer s H E).nox (defBody st) t ∧
        t { nx := fun _ H' => Q .non H', rt := Q } (start N vs) H) :
    FnG P w K mg base (k + 1) f fd ps sp := by
  obtain ⟨oc, od, kV, doc, pm, an, cdv, ct, osl, rfl, lk, hcd⟩ := F.ex
  obtain rfl : cdv = .ref c := hc
  refine ⟨len, fun A outer s H args us vs Q E hg room env0 binds rel want => ?_⟩
  have inK : K.In s.heap := env0.mod.kin.keeps fun b o e => (env0.bs b o e).1
  have noLim : s.heap.NoLimit := env0.mod.nolimit.keeps fun b o e => (env0.bs b o e).1
  have kinds : ∀ y ∈ ps.zip us, (defScope st).names.lookup y.1 = some .local ∨
      ((defScope st).names.lookup y.1 = some .cell ∧ ((cellsFrom (s.heap.objs.size + 1) (defScope st).names []).lookup y.1).isSome = true) := by
    rintro ⟨n, v⟩ hy
    rcases S.par n (List.of_mem_zip hy).1 with q | q
    · exact Or.inl q
    · exact Or.inr ⟨q, PySem.W.cellsFrom_some _ _ _ (Or.inl q)⟩
  refine codeAny_call_function room.depth (inK _ _ lk) rfl S.co S.gen rfl (PySem.W.codeRec_of inK hcd)
    (binds _ _ _ _ ?_)
  refine wpAny_newFunctionEnv_cells S.kind kinds
    fun env he s1 x => ?_
  subst he
  refine ⟨noLim.keeps x.toInCall.keep,
    codeAny_func ?_⟩
  obtain ⟨t, ht, run⟩ := body A outer s H vs Q E hg (room.deeper _) want
  have start0 : Inv (cxOf CX0 P w K mg base N qual (defScope st) f (.ref c) A outer s H E) [] (start N vs) H s1 :=
    inv_start S room.hd env0 (len _ _ _ _ want) rel x
  refine wpAny_mono (ht.nox.run [] s1 (start N vs) H _ start0 run)
    (fun flow s' hs => ?_) fun e s' hs => hs
  have fin : ∀ {σ' : L2.St} {H' : Hp} {v : V} {u : Value}, Inv (cxOf CX0 P w K mg base N qual (defScope st) f (.ref c) A outer s H E) [] σ' H' s' →
      RelV v u → Q v H' → CE outer P w H s Q u s' :=
    fun {_ H' v _} J rv q => ⟨v, H', J.os, J.bare, J.base, J.hok, rv, q⟩
  cases flow with
  | ret u =>
    obtain ⟨v, σ', H', J, rv, q⟩ := hs
    exact fin J rv q
  | next =>
    obtain ⟨σ', H', J, q⟩ := hs
    exact fin (v := V.non) (u := Value.none) J rfl q
  | brk => obtain ⟨_, _, _, q⟩ := hs; exact q.elim
  | cont => obtain ⟨_, _, _, q⟩ := hs; exact q.elim
end
section
variable {X : Cx}
end
end My

/-! rules within a comprehension: the written part by its own name -/
namespace My
open PySem PySem.Spec PyProof.Rows L2
section
variable {X : Cx}
theorem pg_tupK {K : PySem.W.Frag} {es : List Expr} {k : Nat} {pos : Pos} {t : TGs} {n : Nat} (hc : X.calm = true) (h : PGs X es t) (hK : X.K = K := by rfl)
    (hn : (assignEach es X.env).length = n := by rfl) (hst : (assignEach es X.env).findIdx? (·.1) = none := by rfl) : PG X (.Tuple es k pos) (gTup K n t) := by
  subst hK
  exact pg_tup hc h hn hst
theorem call_reprK {K : PySem.W.Frag} (hg : X.A.guards = some []) (hu : X.A.units + 64 < cLine) (h : X.K = K := by rfl) : CallR X (.builtin "repr") (rRepr K) := by
  subst h
  exact call_repr hg hu
variable {o e : Expr} {es : List Expr} {to : TE} {t : TA} {name : Str} {apos cpos : Pos} {T id : String} {r : V → List V → Hp → VK → Prop}
theorem pe_bmK {K : PySem.W.Frag} (pa : PlainAttrs T) (slot : Slot T name id) (hty : typeOf (.builtin id) = pure (.type "method_descriptor")) (hm : MtR X id r) (ho : PE X o to) (ha : PA X (e :: es) t) (hK : X.K = K := by rfl)
    (hbase : attributeBase o name X.env (eval o X.env) = eval o X.env := by rfl)
    (hfew : ((backTo cpos (starEach (e :: es) X.env)).all (fun x => !x.1) && (backToKw cpos (keywordEach [] X.env)).all (fun x => x.1.isSome)
      && decide ((e :: es).length + ([] : List Keyword).length + (if ([] : List Keyword).isEmpty then 0 else 1) < 30)) = true := by rfl)
    (hline : (apos.endLine == cpos.line) = true := by rfl) (hs : starEach (e :: es) X.env = (false, eval e X.env) :: starEach es X.env := by rfl) (hplain : (backTo cpos (starEach es X.env)).any (·.1) = false := by rfl) :
    PE X (.Call (.Attribute o name apos) (e :: es) [] cpos) (tBM K T r to t) := by
  subst hK
  exact pe_bm pa slot hty hm ho ha hbase hfew hline hs hplain
end
end My

/-! Laws with _law_outcome(lambda: ..): what they share. -/
namespace My
open PySem PySem.Spec PyProof.Rows L2
/-- isinstance, asked of each of the classes -/
def kitEach (K : PySem.W.Frag) (cls : Value) : List Value → List Bool → Prop
  | [], [] => True
  | c :: r, b :: q => PySem.W.kitOne K cls c = some b ∧ kitEach K cls r q
  | _, _ => False
theorem kit_self {K : PySem.W.Frag} {C : Addr} : PySem.W.kitOne K (.ref C) (.ref C) = some true := by
  unfold PySem.W.kitOne
  rw [if_pos (by simp)]
theorem kit_no {K : PySem.W.Frag} {D C : Addr} (isC : PySem.W.isClsIn K C = true) (tC : PySem.W.typeIn K (.ref C) = some (.type "type")) (sD : PySem.W.subIn K (.ref D) (.ref D) = some true) (s : PySem.W.subIn K (.ref D) (.ref C) = some false) :
    PySem.W.kitOne K (.ref D) (.ref C) = some false := by
  have h : (PySem.W.clsIn K C).isSome = true := isC
  unfold PySem.W.kitOne
  rw [if_neg (fun z => by
    have e : D = C := Value.ref.inj (beq_iff_eq.mp z)
    subst e
    rw [sD] at s
    cases s)]
  show (if ((PySem.W.clsIn K C).isSome && PySem.W.typeIn K (.ref C) == some (.type "type")) = true then PySem.W.subIn K (.ref D) (.ref C) else none) = some false
  rw [if_pos (by rw [h, tC]; rfl)]
  exact s
theorem exm_of {K : PySem.W.Frag} {S C : Addr} {b : Bool} (base : PySem.W.subIn K (.ref C) (.type "BaseException") = some true) (isCls : PySem.W.isClsIn K C = true)
    (ty : PySem.W.typeIn K (.ref C) = some (.type "type")) (sub : PySem.W.subIn K (.ref S) (.ref C) = some b) : PySem.W.exmOne K (.ref S) (.ref C) = some b := by
  unfold PySem.W.exmOne
  rw [if_pos (by rw [base]; rfl)]
  show (if ((PySem.W.clsIn K C).isSome && PySem.W.typeIn K (.ref C) == some (.type "type")) = true then PySem.W.subIn K (.ref S) (.ref C) else none) = some b
  have h : (PySem.W.clsIn K C).isSome = true := isCls
  rw [if_pos (by rw [h, ty]; rfl)]
  exact sub
section
variable {X : Cx}
def rNotInDT (K : PySem.W.Frag) : R2 := fun x y H Q => ∃ d ds, Dp K H x d ∧ Dp K H y (.tuple ds) ∧ SeqAt.shaped d = true ∧ SeqAt.shaped (.tuple ds) = true ∧ Q (.bl (!ds.any fun z => PyData.eqv z d)) H
theorem op_notInDT (hu : X.A.units + 65 < cLine) : OpR X (compareOp .NotIn) (rNotInDT X.K) := by
  intro pins s σ H x y v u Q I rx ry h
  obtain ⟨d, ds, hd, he, sd, se, q⟩ := h
  obtain ⟨as, r1⟩ := Dp.reads I d x v hd rx
  obtain ⟨bs, r2⟩ := Dp.reads I (.tuple ds) y u he ry
  exact SeqAt.notIn_tuple_reads r2 r1 (SeqAt.canLay_of_shaped se) (SeqAt.canLay_of_shaped sd) (room_in_shaped sd hu) ⟨.bl _, H, I, rfl, q⟩
end
end My

/-! zip of two things, each a list or a tuple. -/
namespace My
open PySem PySem.Spec PyProof.Rows L2
/-- a list (k), or a tuple -/
def Sq (k : Bool) (K : PySem.W.Frag) (H : Hp) (a : Addr) (xs : List V) : Prop := match k with
  | true => SqL K H a xs
  | false => SqT K H a xs
def IsS (k : Bool) (h : Heap) (a : Addr) (items : Array Value) : Prop := match k with
  | true => h.IsList a items
  | false => h.IsTuple a items
def IsSI (k : Bool) (h : Heap) (it a : Addr) (i : Nat) : Prop := match k with
  | true => h.IsListIter it a i
  | false => h.IsTupleIter it a i
theorem IsSI.at {k : Bool} {h h' : Heap} {it a : Addr} {i : Nat} (x : IsSI k h it a i) (e : ∀ o, h.get? it = some o → h'.get? it = some o) : IsSI k h' it a i := by
  cases k with
  | true => exact Heap.IsListIter.at x e
  | false => exact Heap.IsTupleIter.at x e
theorem IsSI.nocell {k : Bool} {h : Heap} {it a : Addr} {i : Nat} (x : IsSI k h it a i) : ∃ o, h.get? it = some o ∧ ∀ v, o.data ≠ .cell v := by
  cases k with
  | true => obtain ⟨o, e, _, d⟩ := x; exact ⟨o, e, fun v q => by rw [d] at q; cases q⟩
  | false => obtain ⟨o, e, _, d⟩ := x; exact ⟨o, e, fun v q => by rw [d] at q; cases q⟩
theorem IsS.lt {k : Bool} {h : Heap} {a : Addr} {items : Array Value} (x : IsS k h a items) : a < h.objs.size := by
  cases k with
  | true => obtain ⟨o, e, _⟩ := x; exact Heap.lt_size e
  | false => obtain ⟨o, e, _⟩ := x; exact Heap.lt_size e
theorem drawsS {prog : Program} {w : World} {A : Around} (hh : A.handled = none) (k : Bool) (it a : Addr) (hne : a ≠ it) (items : Array Value) :
    Draws prog w A it [it, a] items.size (fun i v => items[i]? = some v) (fun i h => IsSI k h it a i ∧ IsS k h a items) := by
  cases k with
  | true => exact Draws.list hh it a hne items
  | false => exact Draws.tuple hh it a hne items
def itO (k : Bool) (a : Addr) : Obj := match k with
  | true => { cls := .type "list_iterator", data := .fields #[.ref a, .int 0 0] }
  | false => { cls := .type "tuple_iterator", data := .fields #[.ref a, .int 0 0] }
theorem beginsS (k : Bool) (a : Addr) (items : Array Value) : Begins (.ref a) (itO k a) fun h => IsS k h a items := by
  cases k with
  | true => exact begins_list a items
  | false => exact begins_tuple a items
theorem isSI_new {k : Bool} {h : Heap} {it a : Addr} (e : h.get? it = some (itO k a)) : IsSI k h it a 0 := by
  cases k with
  | true => exact ⟨_, e, rfl, rfl⟩
  | false => exact ⟨_, e, rfl, rfl⟩
theorem inv_sq {X : Cx} {pins : List (Addr × Obj)} {σ : L2.St} {H : Hp} {s : Shared} {k : Bool} {a : Addr} {xs : List V} (I : Inv X pins σ H s) (h : Sq k X.K H a xs) :
    ∃ its : List Value, Vals xs its ∧ IsS k s.heap a its.toArray := by
  cases k with
  | true => obtain ⟨its, r, p, _⟩ := I.list h; exact ⟨its, r, p.isList⟩
  | false => obtain ⟨its, r, p, _⟩ := I.tuple h; exact ⟨its, r, p⟩
theorem inv_sq_inj {X : Cx} {pins : List (Addr × Obj)} {σ : L2.St} {H : Hp} {s : Shared} {k : Bool} {a : Addr} {xs ys : List V} (I : Inv X pins σ H s) (h : Sq k X.K H a xs) (h' : Sq k X.K H a ys) : xs = ys := by
  cases k with
  | true => exact I.list_inj h h'
  | false => exact I.tuple_inj h h'
/-- both as they stand at each turn, the items in new pairs -/
def Itz2 (K : PySem.W.Frag) (k1 k2 : Bool) (a b : Addr) : It where
  go i H := ∃ (xs ys : List V) (x y : V), Sq k1 K H a xs ∧ Sq k2 K H b ys ∧ xs[i]? = some x ∧ ys[i]? = some y
  yld i H v H' := ∃ T x y, v = .ref T ∧ H T = none ∧ H' = upd H T (.tup [x, y]) ∧ (∀ xs, Sq k1 K H a xs → xs[i]? = some x) ∧ ∀ ys, Sq k2 K H b ys → ys[i]? = some y
  stop i H := ∃ xs ys : List V, Sq k1 K H a xs ∧ Sq k2 K H b ys ∧ i = min xs.length ys.length
theorem mem5 {c n : Nat} (h : c ∈ [n + 4, n + 2, n + 3, n, n + 1]) : n ≤ c ∧ c ≤ n + 4 := by
  have e : c = n + 4 ∨ c = n + 2 ∨ c = n + 3 ∨ c = n ∨ c = n + 1 := by simpa using h
  omega
theorem nm2 {x p q : Nat} (h1 : x ≠ p) (h2 : x ≠ q) : x ∉ [p, q] := fun h => by
  rcases List.mem_cons.mp h with e | e
  · exact h1 e
  · exact h2 (List.mem_singleton.mp e)
theorem sepS {n a b : Nat} (ha : a < n) (hb : b < n) : ZipSep2 (n + 4) (n + 2) (n + 3) n (n + 1) [n, a] [n + 1, b] :=
  ⟨Nat.ne_of_lt (by omega), Nat.ne_of_lt (by omega), Nat.ne_of_lt (by omega), Nat.ne_of_gt (by omega), List.mem_cons_self, nm2 (by omega) (by omega), nm2 (by omega) (by omega), Nat.ne_of_gt (by omega), List.mem_cons_self,
   nm2 (by omega) (by omega), nm2 (by omega) (by omega), nm2 (by omega) (by omega), nm2 (by omega) (by omega)⟩
def ZAt (k1 k2 : Bool) (n a b : Addr) (i : Nat) (h : Heap) : Prop := IsZip h (n + 4) (n + 2) (n + 3) .none ∧ IsTupOf2 h (n + 2) (.ref n) (.ref (n + 1)) ∧ (∃ x y, IsTupOf2 h (n + 3) x y) ∧ IsSI k1 h n a i ∧ IsSI k2 h (n + 1) b i
theorem turn_zipS {P : Program} {w : World} {K : PySem.W.Frag} {elts : List Expr} {kk : Nat} {tpos : Pos} {k1 k2 : Bool} {n a b : Nat} (ha : a < n) (hb : b < n) :
    Turn P w K (.Tuple elts kk tpos) (Itz2 K k1 k2 a b) [n + 4, n + 2, n + 3, n, n + 1] (n + 4) (ZAt k1 k2 n a b) where
  mem := by simp
  obj := fun i h st c hc => by
    obtain ⟨hz, hTI, ⟨x, y, hTO⟩, h1, h2⟩ := st
    have e' : c = n + 4 ∨ c = n + 2 ∨ c = n + 3 ∨ c = n ∨ c = n + 1 := by simpa using hc
    rcases e' with q | q | q | q | q
    · rw [q]; exact ⟨_, hz, fun v q => nomatch q⟩
    · rw [q]; exact ⟨_, hTI, fun v q => nomatch q⟩
    · rw [q]; exact ⟨_, hTO, fun v q => nomatch q⟩
    · rw [q]; exact h1.nocell
    · rw [q]; exact h2.nocell
  keep := fun i h h' st k => by
    obtain ⟨hz, hTI, ⟨x, y, hTO⟩, h1, h2⟩ := st
    exact ⟨k _ (by simp) _ hz, k _ (by simp) _ hTI, ⟨x, y, k _ (by simp) _ hTO⟩, h1.at fun o q => k _ (by simp) o q, h2.at fun o q => k _ (by simp) o q⟩
  item := by
    intro X hP hw hK hc i pins s σ H E I hf st hg
    subst hP hw hK
    obtain ⟨hz, hTI, ⟨x0, y0, hTO⟩, h1, h2⟩ := st
    obtain ⟨xs, ys, x, y, hqx, hqy, hx, hy⟩ := hg
    obtain ⟨its, rv, p⟩ := inv_sq I hqx
    obtain ⟨its2, rv2, p2⟩ := inv_sq I hqy
    obtain ⟨u, hu, ru⟩ := rv.get hx
    obtain ⟨u2, hu2, ru2⟩ := rv2.get hy
    have hzl : n + 4 < s.heap.objs.size := Heap.lt_size hz
    have l1 : i < its.toArray.size := by rw [List.size_toArray]; exact (List.getElem?_eq_some_iff.mp hu).1
    have l2 : i < its2.toArray.size := by rw [List.size_toArray]; exact (List.getElem?_eq_some_iff.mp hu2).1
    refine wpAny_pyNext_zipD2_item (sepS ha hb) (drawsS (A := X.A.in1) (I.ok.hd hc) k1 n a (Nat.ne_of_lt ha) its.toArray) (drawsS (A := X.A.in1) (I.ok.hd hc) k2 (n + 1) b (Nat.ne_of_lt (Nat.lt_of_lt_of_le hb (Nat.le_succ _))) its2.toArray) hz hTI hTO ⟨h1, p⟩ ⟨h2, p2⟩ l1 l2
      fun x1 x2 h' tk y1 y2 z' TO' s1 s2 hT hsz hk => ?_
    have e1 : x1 = u := by
      have z : its.toArray[i]? = some u := by simpa using hu
      exact Option.some.inj (y1.symm.trans z)
    have e2 : x2 = u2 := by
      have z : its2.toArray[i]? = some u2 := by simpa using hu2
      exact Option.some.inj (y2.symm.trans z)
    subst e1 e2
    refine ⟨_, rfl, wpAny_letOwnedTupleGo_zip (s := { s with heap := h', toks := tk }) z' fun h'' z'' sb => ?_⟩
    have hT2 : h''.get? s.heap.objs.size = some { cls := .type "tuple", data := .seq #[x1, x2] } := (sb.2 _ (Nat.ne_of_gt hzl)).trans hT
    have new : ObjOk X.prog X.w (upd H s.heap.objs.size (.tup [x, y])) h'' s.heap.objs.size (.tup [x, y]) :=
      ⟨by show 2 ≤ sizeLine; decide, [x1, x2], .cons ru (.cons ru2 .nil), ⟨_, hT2, rfl, _, rfl⟩⟩
    have I1 : Inv X pins σ (upd H s.heap.objs.size (.tup [x, y])) { s with heap := h'', toks := tk } :=
      I.turnedNew (ch := [n + 4, n + 2, n + 3, n, n + 1]) (fun c o hb q => (sb.2 c (fun q' => hb (by simp [q']))).trans (hk c o (fun q' => hb (by simp [q'])) (fun q' => hb (by simp [q'])) (fun q' => hb (by simp [q'])) (fun q' => hb (by simp [q'])) q)) hf (Nat.le_refl _) new
    refine ⟨.ref s.heap.objs.size, _, I1, rfl, ⟨_, x, y, rfl, I.hok.fresh (Nat.le_refl _), rfl, fun l hl => by rw [inv_sq_inj I hl hqx]; exact hx, fun l hl => by rw [inv_sq_inj I hl hqy]; exact hy⟩, ⟨z'', ?_, ⟨x1, x2, ?_⟩, ?_, ?_⟩, fun c hcm => ?_⟩
    · exact (sb.2 _ (sepS ha hb).TIz).trans (hk _ _ (sepS ha hb).TIz (sepS ha hb).TITO (sepS ha hb).TIi1 (sepS ha hb).TIi2 hTI)
    · exact (sb.2 _ (sepS ha hb).TOz).trans TO'
    · exact s1.1.at fun o q => (sb.2 _ (Ne.symm (sepS ha hb).zi1)).trans q
    · exact s2.1.at fun o q => (sb.2 _ (Ne.symm (sepS ha hb).zi2)).trans q
    · have hlt : c < s.heap.objs.size := Nat.lt_of_le_of_lt (mem5 hcm).2 hzl
      rw [upd_ne (Nat.ne_of_lt hlt)]
      exact (hf c hcm).1
  done := by
    intro X hP hw hK hc i pins s σ H E I hf st hg
    subst hP hw hK
    obtain ⟨hz, hTI, ⟨x0, y0, hTO⟩, h1, h2⟩ := st
    obtain ⟨xs, ys, hqx, hqy, hend⟩ := hg
    obtain ⟨its, rv, p⟩ := inv_sq I hqx
    obtain ⟨its2, rv2, p2⟩ := inv_sq I hqy
    have l1 := rv.length
    have l2 := rv2.length
    refine wpAny_pyNext_zipD2_end (sepS ha hb) (drawsS (A := X.A.in1) (I.ok.hd hc) k1 n a (Nat.ne_of_lt ha) its.toArray) (drawsS (A := X.A.in1) (I.ok.hd hc) k2 (n + 1) b (Nat.ne_of_lt (Nat.lt_of_lt_of_le hb (Nat.le_succ _))) its2.toArray) hz hTI hTO ⟨h1, p⟩ ⟨h2, p2⟩
      (by rw [List.size_toArray]; omega) (by rw [List.size_toArray]; omega) (by rw [List.size_toArray, List.size_toArray]; omega) fun h' tk hk => ⟨rfl, I.turnedL (t' := tk) (ch := [n + 4, n + 2, n + 3, n, n + 1]) (fun c o hb q =>
      hk c o (fun q' => hb (by simp [q'])) (fun q' => hb (by simp [q'])) (fun q' => hb (by simp [q'])) (fun q' => hb (by simp [q'])) q) hf⟩
  self := fun A i s Q E st h => wpAny_pyIter_zip st.1 h
def iZipS (K : PySem.W.Frag) (ta : TA) : TI := fun σ H R => ta σ H fun vs H1 => ∃ a b xs ys k1 k2, vs = [.ref a, .ref b] ∧ Sq k1 K H1 a xs ∧ Sq k2 K H1 b ys ∧ R (Itz2 K k1 k2 a b) H1
theorem pi_zipS {X : Cx} {e e2 : Expr} {ta : TA} {p pos tpos : Pos} {elts : List Expr} {kk : Nat} (hg : Gl X "zip") (hm : X.mg "zip" = none) (ha : PA X [e, e2] ta)
    (hs : starEach [e, e2] X.env = (false, eval e X.env) :: starEach [e2] X.env := by rfl) (hpl : (backTo pos (starEach [e2] X.env)).any (·.1) = false := by rfl) :
    PI X (.Tuple elts kk tpos) (.Call (.Name "zip" p) [e, e2] [] pos) (iZipS X.K ta) := by
  refine ⟨fun pins s σ H R I h => ?_⟩
  refine Call_ (ld_blt I hg hm PyProof.Rows.boot_zip (PyProof.Rows.callWith_type1 (thn (ha.run pos pins s σ H _ I h) fun us s1 ⟨vs, H1, I1, r1, q1⟩ => ?_) hs hpl))
  obtain ⟨a, b, xs, ys, k1, k2, ex, hqx, hqy, q⟩ := q1
  subst ex
  cases r1 with
  | cons r rr =>
    cases rr with
    | cons r' rr =>
      cases rr
      cases r
      cases r'
      obtain ⟨its, rv, p1⟩ := inv_sq I1 hqx
      obtain ⟨its2, rv2, p2⟩ := inv_sq I1 hqy
      refine zip_begins2 (beginsS k1 a its.toArray) (beginsS k2 b its2.toArray) p1 p2 fun h' hz hTI hTO h1 h2 hsz hk => wpAny_pyIter_zip hz ?_
      have I2 : Inv X pins σ H1 { s1 with heap := h' } := I1.kept (t' := s1.toks) hk
      refine ⟨s1.heap.objs.size + 4, [s1.heap.objs.size + 4, s1.heap.objs.size + 2, s1.heap.objs.size + 3, s1.heap.objs.size, s1.heap.objs.size + 1], _, _, H1, rfl, I2, turn_zipS (k1 := k1) (k2 := k2) (IsS.lt p1) (IsS.lt p2), ⟨hz, hTI, ⟨_, _, hTO⟩, isSI_new h1, isSI_new h2⟩, fun c hcm => ?_, q⟩
      have hle : s1.heap.objs.size ≤ c := (mem5 hcm).1
      exact I1.fpOk hle (I1.hok.fresh hle)
theorem pi_zipSK {X : Cx} {K : PySem.W.Frag} {e e2 : Expr} {ta : TA} {p pos tpos : Pos} {elts : List Expr} {kk : Nat} (hg : Gl X "zip") (hm : X.mg "zip" = none) (ha : PA X [e, e2] ta)
    (hK : X.K = K := by rfl) (hs : starEach [e, e2] X.env = (false, eval e X.env) :: starEach [e2] X.env := by rfl) (hpl : (backTo pos (starEach [e2] X.env)).any (·.1) = false := by rfl) :
    PI X (.Tuple elts kk tpos) (.Call (.Name "zip" p) [e, e2] [] pos) (iZipS K ta) := by
  subst hK
  exact pi_zipS hg hm ha hs hpl
theorem walk_zipS {K : PySem.W.Frag} {k1 k2 : Bool} {a b : Addr} {xs ys : List V} {n : Nat} (hn : n = min xs.length ys.length) :
    Walk (Itz2 K k1 k2 a b) n (fun H => Sq k1 K H a xs ∧ Sq k2 K H b ys) (YPair (fun i => xs[i]?) (fun i => ys[i]?)) :=
  ⟨fun i _ hi q => ⟨xs, ys, xs[i]'(by omega), ys[i]'(by omega), q.1, q.2, List.getElem?_eq_getElem (by omega), List.getElem?_eq_getElem (by omega)⟩,
   fun _ q => ⟨xs, ys, q.1, q.2, hn⟩,
   fun i H v H' _ q y => by
    obtain ⟨T, x, z, e1, e2, e3, f1, f2⟩ := y
    exact ⟨T, x, z, e1, e2, e3, f1 xs q.1, f2 ys q.2⟩⟩
end My

/-! sum of a tuple of ints; a list extended by a tuple. -/
namespace My
open PySem PySem.Spec PyProof.Rows L2
section
variable {prog : Program} {w : World} {A : Around} {E : Value → Shared → Prop} {s : Shared} {t : Addr} {its : List Value} {ns : List Int}
theorem sum_rawT {Q : Value → Shared → Prop} (hh : A.handled = none) (ht : s.heap.IsTuple t its.toArray) (hi : IntsAre its ns)
    (h : ∀ h' tk t', (∀ b o, s.heap.get? b = some o → h'.get? b = some o) → Q (.int ns.sum t') { s with heap := h', toks := tk }) : wpAny (model prog w) A (call (.builtin "sum") [.ref t]) Q E s := by
  obtain ⟨xs, e⟩ := hi.allInts.items
  have hn : numsOf (intItems xs).toList = ns := by rw [← e]; exact hi.numsOf
  rw [nums_intItems] at hn
  rw [e] at ht
  have hlt : t < s.heap.objs.size := by obtain ⟨_, e, _⟩ := ht; exact Heap.lt_size e
  refine call_sum_walkG (wpAny_pyIter_tuple ht ?_)
  have i0 : (s.heap.push { cls := .type "tuple_iterator", data := .fields #[.ref t, .int 0 0] }).IsTupleIter s.heap.objs.size t 0 := ⟨_, Heap.get?_push_size _ rfl, rfl, rfl⟩
  refine ⟨s.heap.objs.size, [s.heap.objs.size, t], [s.heap.objs.size], _, _, _, numAt xs, rfl, Walks.tuple (A := A.in1) hh _ t (Nat.ne_of_lt hlt) (intItems xs), ⟨i0, ht.push _⟩, fun b hb => ?_, (fun _ _ => intItems_at), fun h' tk t' hk => ?_⟩
  · show b < (s.heap.push _).objs.size
    rw [Heap.size_push]
    rcases List.mem_cons.mp hb with e | e
    · rw [e]; exact Nat.lt_succ_self _
    · rw [List.mem_singleton.mp e]; exact Nat.lt_succ_of_lt hlt
  · have q := h h' tk t' fun b o e => hk b o (fun z => absurd (List.mem_singleton.mp z) (Nat.ne_of_lt (Heap.lt_size e))) (Heap.get?_push_of_some _ e)
    have e2 : preSum (numAt xs) (intItems xs).size = ns.sum := by
      rw [show (intItems xs).size = xs.size by simp [intItems], preSum_eq, List.take_of_length_le (by simp), hn]
    rw [e2]
    exact q
end
section
variable {X : Cx}
def rSumT (K : PySem.W.Frag) : List V → Hp → VK → Prop := fun vs H Q => ∃ (a : Addr) (ns : List Int), vs = [V.ref a] ∧ SqT K H a (ns.map V.int) ∧ Q (.int ns.sum) H
theorem cr_sumT (hc : X.calm = true) : CallR X (.builtin "sum") (rSumT X.K) := by
  intro pins s σ H vs us Q I r h
  obtain ⟨a, ns, rfl, hs, q⟩ := h
  obtain ⟨its, rv, hl, _⟩ := I.tuple hs
  rw [Vals.ref1 r]
  exact sum_rawT (I.ok.hd hc) hl rv.ints fun h' tk t' hk => ⟨.int _, H, I.kept hk, ⟨_, rfl⟩, q⟩
set_option maxRecDepth 8000 in
theorem list_extend_tupG (l : Addr) (items : Array Value) (n : Nat) (b : Addr) (items2 : Array Value) (n2 : Nat) (dd : Option Addr) (sl : Array (Option Value)) (hs0 : ¬(!items.isEmpty && Builtin.List.listTooLong (items.size + items2.size)) = true) (hs1 : items.size ≤ sizeLine) (hs2 : items.size + items2.size ≤ sizeLine + 1) :
    Meets (Builtin.«list.extend» ⟨[.ref l, .ref b], []⟩) (fun _ R s => s.heap.get? l = some { cls := .type "list", dict := none, data := .seq items n, slots := #[] } ∧ s.heap.get? b = some { cls := .type "tuple", dict := dd, data := .seq items2 n2, slots := sl } ∧
      R (.ok (.ret Value.none)) { s with heap := s.heap.update l (Obj.mapSeq fun x => x ++ items2), toks := s.toks }) :=
  .of_wp fun prog w A R s h => by
    obtain ⟨hp, g, d, tk, os⟩ := s; obtain ⟨hl, hb, h⟩ := h; have f1 := AutoSeq1.idx_int; have f2 := AutoSeq1.sub_tuple_tuple; have f3 := AutoSeq1.sub_list_list; have f4 := AutoSeq1.sub_tuple_list; have f5 := AutoSeq1.sub_list_tuple
    have hz' : (items ++ items2).size ≤ sizeLine + 1 := by rw [Array.size_append]; exact hs2
    wp_walk using (wpAny_updateSeq hl rfl (hz := hs1) (_hz' := hz')), AutoSeq1.wpAny_loadPart' hl, AutoSeq1.wpAny_loadPart' hb
    exact ⟨_, rfl, h⟩
def rExtendT (K : PySem.W.Frag) : V → List V → Hp → VK → Prop := fun x vs H Q => ∃ l b xs zs, x = .ref l ∧ vs = [.ref b] ∧ H l = some (.lst xs) ∧ SqT K H b zs ∧ xs.length + zs.length ≤ sizeLine ∧ Q .non (upd H l (.lst (xs ++ zs)))
theorem mt_extendT : MtM X "list.extend" (rExtendT X.K) := by
  intro pins s σ H x vs v us Q I rx rv h
  obtain ⟨l, b, xs, zs, rfl, rfl, hH, hB, hz, q⟩ := h
  cases rx
  obtain ⟨u, rfl, ru⟩ := rv.one
  cases ru
  obtain ⟨z, its, n, r, hl, e⟩ := I.lstM hH
  obtain ⟨its2, r2, p2, _⟩ := I.tuple hB
  obtain ⟨ob, hob, hc, n2, hd⟩ := p2
  have hl2 := r2.length
  obtain ⟨cls, dd, dat, sl⟩ := ob
  have hc' : cls = .type "tuple" := hc
  have hd' : dat = .seq its2.toArray n2 := hd
  subst hc' hd'
  have hsz : its.toArray.size + its2.toArray.size ≤ sizeLine := by rw [List.size_toArray, List.size_toArray]; omega
  have hlong : ¬ (!its.toArray.isEmpty && Builtin.List.listTooLong (its.toArray.size + its2.toArray.size)) = true := by
    rw [notLongL hsz, Bool.and_false]
    exact Bool.false_ne_true
  refine call_meets F.slot_list_extend ⟨_, e, rfl⟩ F.entry_list_extend (F.args_list_extend_2 _ _)
    (list_extend_tupG l its.toArray n b its2.toArray n2 dd sl hlong (by rw [List.size_toArray]; omega) (by omega)) ⟨e, hob, ?_⟩
  refine ⟨.non, _, I.lset (its' := its ++ its2) hH e (by simp) (r.append r2) ?_, rfl, q⟩
  rw [List.length_append]
  omega
end
end My

set_option maxHeartbeats 4000000
/-! an own error over OverflowError whose __init__ stores one field -/
namespace My
open PySem PySem.Spec PyProof.Rows L2
def oeTail : List Value := [.type "OverflowError", .type "ArithmeticError", .type "Exception", .type "BaseException", .type "object"]
/-- what is asked of the class -/
structure TgC (K : PySem.W.Frag) (C : Addr) : Prop where
  look : ∃ nm q N bs sn sub ab col dd k0 k1 k2 k3 k5, K.lookup C =
    some (excClassObj nm q C N bs oeTail true sn sub ab col dd k0 k1 k2 k3 k5 "OverflowError.__new__")
  setter : PySem.W.findIn K (.ref C) "__setattr__" = some (some (.builtin "object.__setattr__"))
  base : PySem.W.subIn K (.ref C) (.type "BaseException") = some true
  ofType : PySem.W.typeIn K (.ref C) = some (.type "type")
  keep : PySem.W.keepIn K (.ref C) = true
section
open PySem.W PySem.Calls PySem.HandSPX Builtin Builtin.ObjectAttr
variable {prog : Program} {w : World} {A : Around} {R : Result → Shared → Prop} {hp : Heap} {g : Array GenState} {d : Drawn} {t : Nat} {os : OsState}
theorem put_field {K : W.Frag} {name : Str} {tk : Tok} {v : Value} {x C : Addr} {fv : Array Value} {cd : ClassData}
    (inK : K.In hp) (atX : hp.get? x = some { cls := .ref C, data := .fields fv }) (ofC : W.clsIn K C = some cd) (order : cd.mro = .ref C :: oeTail)
    (dict : cd.hasDict = true) (free : W.findIn K (.ref C) name = some none)
    (go : ∀ h2 tk2 dx, (∀ b o, b ≠ x → hp.get? b = some o → h2.get? b = some o) → hp.objs.size ≤ dx → dx ≠ x →
      h2.get? x = some { cls := .ref C, dict := some dx, data := .fields fv } → h2.Ns1 dx (fun y => if y = name then some v else none) →
      R (.ok (.ret .none)) ⟨h2, g, d, tk2, os⟩) :
    codeAny (model prog w) A (.call (.builtin "object.__setattr__") ⟨[.ref x, .str name tk, v], []⟩) R ⟨hp, g, d, t, os⟩ := by
  have inst : W.InstAt hp x { cls := .ref C, data := .fields fv } C none := ⟨atX, rfl, rfl, trivial⟩
  have facts := F.store_object
  have some' : cd.mro.isEmpty = false := by rw [order]; rfl
  have isObj : cd.mro.contains (.type "object") = true := by
    rw [order, List.contains_cons, show oeTail.contains (.type "object") = true by decide +kernel, Bool.or_true]
  have apart : x ≠ hp.objs.size := Nat.ne_of_lt (Heap.lt_size atX)
  have inside : W.mroIn K C (.type "object") = some true := by
    unfold W.mroIn
    rw [ofC, Option.bind_some, if_neg (by rw [some']; decide), isObj]
  have sub : W.Looks (model prog w) hp (isInstance (.ref x) (.type "object")) true := inst.type.andThen (W.looks_mroIn inK inside)
  refine codeAny_call_builtin facts.slot.plain facts.entry ?_
  refine @W.check_slot (model prog w) _ _ ⟨hp, g, d, t, os⟩ "object.__setattr__" "object" "__setattr__" (.ref x)
    [.str name tk, v] [] _ facts.kind facts.split sub (facts.args (.ref x) (.str name tk) v) ?_
  have lookOrder : W.Looks (model prog w) hp (mroOf (.ref C)) cd.mro := (W.looks_clsIn inK ofC).andThen .now
  have noTaker : W.Looks (model prog w) hp (storeTaker? none) none := .now
  have lookCls : W.Looks (model prog w) hp (classData C) cd := W.looks_clsIn inK ofC
  rw [W.osa_eq, refuse_eq]
  refine wpAny_bind (wpAny_bind ?_)
  refine inst.type.at (wpAny_bind (lookOrder.at ?_))
  rw [order, refuseLoop_ref, show refuseLoop (.ref x) "__setattr__" oeTail = pure () from F.store_OverflowError.passes _]
  refine wpAny_pure (wpAny_bind ?_)
  refine inst.type.at (wpAny_bind ((W.looks_findIn inK free).at (wpAny_bind (noTaker.at ?_))))
  show wpAny _ _ (storeInOwnDict (.ref x) (.ref C) (.str name tk) name v false) _ _ _
  obtain ⟨c1, c2, c3, c4, c5, c6, c7, c8, c9, c10, c11⟩ := cd
  dsimp only at dict
  subst dict
  unfold storeInOwnDict ownDictForStores
  repeat (first
    | with_reducible refine store_in_new ?_ ?_
    | with_reducible refine wpAny_loadPart_at atX ?_
    | with_reducible refine lookCls.at ?_
    | wp_step)
  · exact ⟨_, #[], _, (Heap.get?_update_ne _ _ _ _ apart.symm).trans (Heap.get?_push_at rfl rfl),
      rfl, fun e he => absurd he (by simp), fun _ => rfl⟩
  · intro h2 tk2 names same
    have stays : (hp.push { cls := .type "dict", data := .dict #[] }).get? x = some { cls := .ref C, data := .fields fv } := Heap.get?_push_of_some _ atX
    refine go h2 tk2 hp.objs.size (fun b o ne ho => ?_) (Nat.le_refl _) apart.symm ?_ names
    · refine (same.2 b (Nat.ne_of_lt (Heap.lt_size ho))).trans ?_
      exact (Heap.get?_update_ne _ _ _ _ ne).trans (Heap.get?_push_of_some _ ho)
    · exact (same.2 x apart).trans (Heap.get?_update_self _ stays rfl)
end
section
variable {X : Cx} {pins : List (Addr × Obj)} {σ : L2.St} {H : Hp} {s : Shared} {a C dx : Addr} {f : Str} {y : V} {u : Value} {Q : Unit → Shared → Prop} {E : Value → Shared → Prop} {A : Around}
theorem put_first (T : TgC X.K C) (I : Inv X pins σ H s) (e : H a = some (exo a C none)) (free : PySem.W.findIn X.K (.ref C) f = some none) (ry : RelV y u)
    (go : ∀ dx s2, H dx = none → dx ≠ a → Inv X pins σ (upd (upd H dx (exd dx [(f, y)])) a (exo a C (some dx))) s2 → Q () s2) :
    wpAny (model X.prog X.w) A (setAttr (.ref a) f u) Q E s := by
  obtain ⟨nm, q, N, bs, sn, sub, ab, col, dd, k0, k1, k2, k3, k5, hC⟩ := T.look
  have ofC : PySem.W.clsIn X.K C = some {
      name := nm
      bases := bs
      mro := .ref C :: oeTail
      ns := N
      qualname := q
      hasDict := true
      slotNames := sn
      subclasses := sub
      abstract := ab
      collection := col
      hasDel := false } := by
    unfold PySem.W.clsIn
    rw [hC] <;> rfl
  obtain ⟨t1, ho⟩ := exo_at I.hok e
  obtain ⟨hp, g, d, t, os⟩ := s
  refine PySem.W.set_plain I.kIn (ox := { cls := .ref C, dict := none, data := .fields #[.ref t1, .none, .none, .none, .bool false, .none] }) (od := none)
    ⟨ho, rfl, rfl, trivial⟩ T.setter ?_
  refine put_field I.kIn ho ofC rfl rfl free fun h2 tk2 dx k dn dne hx hn => ?_
  have newDx : H dx = none := I.hok.fresh dn
  have notDx : ∀ {b : Addr} {o : Obj}, hp.get? b = some o → b ≠ dx := fun {b o} z => Nat.ne_of_lt (Nat.lt_of_lt_of_le (Heap.lt_size z) dn)
  have notA : ∀ {b : Addr}, H b = none → b ≠ a := fun {b} n z => by
    rw [z, e] at n
    cases n
  have step : Un X.fs [] H (upd (upd H dx (exd dx [(f, y)])) a (exo a C (some dx))) hp h2 := by
    refine {
      keep := fun b o z n _ _ => k b o (notA n) z
      slot := fun b o z n _ _ => ⟨_, k b o (notA n) z⟩
      free := fun b o z n _ => ?_
      there := fun b o z _ => ?_
      tups := fun b xs z => ?_
      frzs := fun b o v z => ?_
      tbls := fun b ps z => ⟨#[], ?_⟩ }
    · rw [upd_ne (notA n), upd_ne (notDx z)]
      exact n
    · by_cases hb : b = a
      · exact ⟨_, by rw [hb]; exact hx⟩
      · exact ⟨o, k b o hb z⟩
    · rw [upd_ne (at_ne e z exo_tup), upd_ne (ne_of_none z newDx)]
      exact z
    · rw [upd_ne (at_ne e z exo_frz), upd_ne (ne_of_none z newDx)]
      exact z
    · rw [upd_ne (at_ne e z exo_tbl), upd_ne (ne_of_none z newDx), z]
      simp
  refine go dx _ newDx dne (I.un (t' := tk2) step fun b o z => ?_)
  by_cases hb : b = a
  · subst hb
    rw [upd_same] at z
    cases z
    exact exo_ok hx
  rw [upd_ne hb] at z
  by_cases hd : b = dx
  · subst hd
    rw [upd_same] at z
    cases z
    exact exd_ok hn (relO_put (fs := []) ry fun _ => True.intro)
  rw [upd_ne hd] at z
  refine (I.hok b o z).stay (fun c v hc r => k c v ?_ r) (fun c hc => ?_) (fun c xs hc => ?_)
  · rcases hc with hc | hc
    · rw [hc]
      exact hb
    · exact at_ne e hc exo_own
  · rw [upd_ne (at_ne e hc exo_own), upd_ne (ne_of_none hc newDx)]
    exact hc
  · rw [upd_ne (at_ne e hc exo_tup), upd_ne (ne_of_none hc newDx)]
    exact hc
end
/-- self.f = e, in the __init__ of such a class -/
def tPut (K : PySem.W.Frag) (f : Str) (to te : TE) : L2.TS := fun D σ H => te σ H fun y H1 => to σ H1 fun x H2 => ∃ a C : Addr, x = .ref a ∧ TgC K C ∧
  PySem.W.findIn K (.ref C) f = some none ∧ H2 a = some (exo a C none) ∧
  ∀ dx, H2 dx = none → dx ≠ a → D.nx σ (upd (upd H2 dx (exd dx [(f, y)])) a (exo a C (some dx)))
section
variable {X : Cx} {o e : Expr} {es : List Expr} {to te : TE} {ta : TA} {f : Str} {p p' pos : Pos}
theorem ps_put (ho : PE X o to) (he : PE X e te) (hs : swapsWith e (some (.Attribute o f p')) pos.line X.env = pure false := by rfl) :
    PS X (.Assign [.Attribute o f p'] e pos) (tPut X.K f to te) := by
  refine ⟨fun pins s σ H D I h => ?_⟩
  refine plainObj_wpAny_Assign_Attribute (thn (he.run pins s σ H _ I h) fun v s1 ⟨y, H1, I1, r1, q1⟩ => ?_) hs
  refine thn (ho.run pins s1 σ H1 _ I1 q1) fun u s2 ⟨x, H2, I2, r2, a, C, ex, T, free, ea, q⟩ => ?_
  subst ex
  obtain rfl : u = Value.ref a := r2
  exact put_first T I2 ea free r1 fun dx s3 n ne J => ⟨σ, _, J, q dx n ne⟩
theorem pmk_tg {CX : CXT} {x : Str} {C fI : Addr} {k : Nat} {fd : FuncData} {ps : List Str} {sp : Sp} {ds : List Value} {dvs : List V} (T : TgC X.K C)
    (iC : PySem.W.findIn X.K (.ref C) "__init__" = some (some (.ref fI))) (tI : PySem.W.typeIn X.K (.ref fI) = some (.type "function"))
    (F1 : FnOk X.prog X.w X.K X.mg X.base CX k fI fd ps sp) (hr : Room (k + 1) X.A) (hb : Binds X.K fd ps ds) (hd : Vals dvs ds)
    (hx : Passes CX X (fun _ _ _ => False)) (hg : Gl X x) (hm : X.mg x = some (.ref C)) (ha : PA X (e :: es) ta)
    (hdb : (x == ("__debug__" : Str)) = false := by decide) (he : starEach (e :: es) X.env = (false, eval e X.env) :: starEach es X.env := by rfl)
    (hpl : (backTo pos (starEach es X.env)).any (·.1) = false := by rfl) :
    PMk X (.Call (.Name x p) (e :: es) [] pos) (tMkO C sp dvs ta) := by
  intro pins s σ H Q I h
  obtain ⟨nm, q, N, bs, sn, sub, ab, col, dd, k0, k1, k2, k3, k5, hC⟩ := T.look
  refine wpAny_Call_Name_kw (ld_glob I hg hm ?_ hdb)
  refine PySem.W.callWith_K (h₀ := X.base) I.ok.mod.kin T.keep ?_ he hpl
  refine thn (ha.run pos pins s σ H _ I h) fun us s1 ⟨vs, H1, I1, r1, hz, q1⟩ => ⟨I1.kIn, ?_⟩
  show wpAny _ _ (call (.ref C) us) _ _ _
  obtain ⟨hp, g, dr, tk, os⟩ := s1
  have over : hp.objs.size ≤ hp.objs.size + 1 := Nat.le_succ _
  have new : H1 (hp.objs.size + 1) = none := I1.hok.fresh over
  have want := q1 (hp.objs.size + 1) new
  have stays : ∀ b o, hp.get? b = some o → ((hp.push (PySem.W.kdv_tup us)).push (PySem.HandSPX.excO C hp.objs.size)).get? b = some o := fun b o z =>
    Heap.get?_push_of_some _ (Heap.get?_push_of_some _ z)
  have made : ((hp.push (PySem.W.kdv_tup us)).push (PySem.HandSPX.excO C hp.objs.size)).get? (hp.objs.size + 1) = some (PySem.HandSPX.excO C hp.objs.size) := by
    heap_get
  have I2 := I1.laid (t' := tk) (a := hp.objs.size + 1) (o := exo (hp.objs.size + 1) C none)
    (h' := (hp.push (PySem.W.kdv_tup us)).push (PySem.HandSPX.excO C hp.objs.size)) stays over (exo_ok made)
  have r2 : Vals (V.ref (hp.objs.size + 1) :: (vs ++ dvs)) (Value.ref (hp.objs.size + 1) :: (us ++ ds)) := .cons rfl (r1.append hd)
  have lens : (Value.ref (hp.objs.size + 1) :: us ++ ds).length = ps.length := by
    have z := r2.length
    rw [F1.len _ _ _ _ want] at z
    exact z.symm
  have small : us.length ≤ sizeLine := by
    rw [← Paired.length r1, sizeLine_eq]
    omega
  refine wpAny_call (PySem.HandSPX.call_own F.excBase_OverflowError (fun _ => rfl) (I1.kIn _ _ hC) (PySem.W.looks_findIn I1.kIn iC)
    (fun self => PySem.W.bind_fn I1.kIn self tI) small ?_)
  refine codeAny_mono (F1.run _ X.stack _ _ ⟨Value.ref (hp.objs.size + 1) :: us, []⟩ (Value.ref (hp.objs.size + 1) :: (us ++ ds)) _ _ (fun _ _ _ => False)
    (hr.make C us []) (I2.env0.make C us []) (hb _ (Value.ref (hp.objs.size + 1) :: us) I2.kIn lens) r2 want) fun r s2 back => ?_
  match r, back with
  | .error er, back => exact hx pins σ _ _ er s2 I2 back
  | .ok (.ret u), back =>
    obtain ⟨v, H2, os2, bare2, un2, hok2, rv, ev, d, fs, ea, ed, hd1, q2⟩ := back
    subst ev
    obtain ⟨h2, g2, d2, t2, os'⟩ := s2
    exact ⟨rv, mk_end (raises_own T.base T.ofType) I1 over stays un2 hok2 os2 bare2 ea ed hd1 q2⟩
end
end My

/-! x + y where x may be True or False -/
namespace My
open PySem PySem.Spec PyProof.Rows L2
def rAddB : R2 := fun x y H Q => ∃ i j, (x = .int i ∨ ∃ k, x = .bl k ∧ i = b2i k) ∧ y = .int j ∧ Q (.int (i + j)) H
theorem op_addB {X : Cx} : OpR X (binaryOp .Add) rAddB := by
  intro pins s σ H x y v u Q I rx ry h
  obtain ⟨i, j, hx, rfl, q⟩ := h
  obtain ⟨t2, rfl⟩ := ry
  rcases hx with rfl | ⟨k, rfl, rfl⟩
  · obtain ⟨t, rfl⟩ := rx
    exact add_int ⟨.int (i + j), H, I.tok _, ⟨_, rfl⟩, q⟩
  · cases rx
    exact PySem.IntBool.add_bool_int ⟨.int (b2i k + j), H, I.tok _, ⟨_, rfl⟩, q⟩
end My

namespace My
open PySem PySem.Spec PyProof.Rows L2
def top (i : Nat) : Stmt := PySem.Challenge.pw_stepsound_k48_whole_files_refused.main.body.getD i (.Pass ⟨0, 0, 0, 0⟩)
abbrev s_is_integer : Stmt := top 11
abbrev s_is_between : Stmt := top 12
abbrev s_is_pair : Stmt := top 13
abbrev s_rounded : Stmt := top 15
abbrev s_limited : Stmt := top 16
abbrev s_change_at : Stmt := top 17
abbrev s_faded : Stmt := top 18
abbrev s_state_behind : Stmt := top 19
abbrev s_state_behind_row : Stmt := top 20
abbrev s_need_coder : Stmt := top 22
abbrev s_first_fault : Stmt := top 23
abbrev s_fault_of_steps : Stmt := top 24
abbrev s_fault_of_moves : Stmt := top 25
abbrev s_is_tuple_of : Stmt := top 26
abbrev s_is_move : Stmt := top 27
abbrev s_is_fade : Stmt := top 28
abbrev s_read_file : Stmt := top 32
abbrev s_need_coder_and_tuple : Stmt := top 33
abbrev s_sum_index : Stmt := top 34
abbrev s_block_at : Stmt := top 35
abbrev s_byte_at : Stmt := top 36
abbrev s_byte_between : Stmt := top 37
abbrev s_state_at : Stmt := top 38
abbrev s_codes_at : Stmt := top 39
abbrev s_law_begun : Stmt := top 41
abbrev s_law_next : Stmt := top 42
abbrev s_law_parted : Stmt := top 43
abbrev s_law_limited : Stmt := top 44
abbrev s_law_led : Stmt := top 45
abbrev s_law_walked : Stmt := top 46
abbrev s_law_some_state : Stmt := top 47
abbrev s_law_row : Stmt := top 48
abbrev s_law_is_whole : Stmt := top 49
abbrev s_law_fault : Stmt := top 50
abbrev s_law_outcome : Stmt := top 51
abbrev s_law_great_coder : Stmt := top 52
abbrev s_law_block : Stmt := top 53
abbrev s_law_file : Stmt := top 54
abbrev s_law_block_read : Stmt := top 55
abbrev s_law_pieces : Stmt := top 56
abbrev s_law_bent_data : Stmt := top 57
abbrev s_law_due : Stmt := top 58
abbrev s_law_right : Stmt := top 59
abbrev s_law : Stmt := top 60
abbrev si_BadCoder : Stmt := inClass (top 1) 0
theorem sci_BadCoder : FnScope ["self", "part", "number"] ["self", "part", "number"] (defScope si_BadCoder) := ⟨rfl, rfl, rfl, by decide +kernel, rfl, by decide +kernel, by decide +kernel⟩
abbrev si_BadByte : Stmt := inClass (top 4) 0
theorem sci_BadByte : FnScope ["self", "number"] ["self", "number"] (defScope si_BadByte) := ⟨rfl, rfl, rfl, by decide +kernel, rfl, by decide +kernel, by decide +kernel⟩
abbrev si_TooGreat : Stmt := inClass (top 7) 0
theorem sci_TooGreat : FnScope ["self", "most"] ["self", "most"] (defScope si_TooGreat) := ⟨rfl, rfl, rfl, by decide +kernel, rfl, by decide +kernel, by decide +kernel⟩
theorem sc_is_integer : FnScope ["thing"] ["thing"] (defScope s_is_integer) := ⟨rfl, rfl, rfl, by decide +kernel, rfl, by decide +kernel, by decide +kernel⟩
theorem sc_is_between : FnScope ["thing", "least", "most"] ["thing", "least", "most"] (defScope s_is_between) := ⟨rfl, rfl, rfl, by decide +kernel, rfl, by decide +kernel, by decide +kernel⟩
theorem sc_is_pair : FnScope ["thing"] ["thing"] (defScope s_is_pair) := ⟨rfl, rfl, rfl, by decide +kernel, rfl, by decide +kernel, by decide +kernel⟩
theorem sc_rounded : FnScope ["number", "divisor"] ["number", "divisor"] (defScope s_rounded) := ⟨rfl, rfl, rfl, by decide +kernel, rfl, by decide +kernel, by decide +kernel⟩
theorem sc_limited : FnScope ["number", "least", "most"] ["number", "least", "most"] (defScope s_limited) := ⟨rfl, rfl, rfl, by decide +kernel, rfl, by decide +kernel, by decide +kernel⟩
theorem sc_change_at : FnScope ["coder", "code", "place", "share"] ["coder", "code", "place"] (defScope s_change_at) := ⟨rfl, rfl, rfl, by decide +kernel, rfl, by decide +kernel, by decide +kernel⟩
theorem sc_faded : FnScope ["level", "fade"] ["level", "fade"] (defScope s_faded) := ⟨rfl, rfl, rfl, by decide +kernel, rfl, by decide +kernel, by decide +kernel⟩
theorem sc_state_behind : FnScope ["coder", "state", "code", "low", "high", "steps", "moves", "fade", "level", "place", "turn", "moved"] ["coder", "state", "code"] (defScope s_state_behind) := ⟨rfl, rfl, rfl, by decide +kernel, rfl, by decide +kernel, by decide +kernel⟩
theorem sc_state_behind_row : FnScope ["coder", "row", "state", "now", "code"] ["coder", "row", "state"] (defScope s_state_behind_row) := ⟨rfl, rfl, rfl, by decide +kernel, rfl, by decide +kernel, by decide +kernel⟩
theorem sc_need_coder : FnScope ["thing", "fault"] ["thing"] (defScope s_need_coder) := ⟨rfl, rfl, rfl, by decide +kernel, rfl, by decide +kernel, by decide +kernel⟩
theorem sc_first_fault : FnScope ["thing", "low", "high", "steps", "moves", "fade", "fault"] ["thing"] (defScope s_first_fault) := ⟨rfl, rfl, rfl, by decide +kernel, rfl, by decide +kernel, by decide +kernel⟩
theorem sc_fault_of_steps : FnScope ["steps", "index", "step"] ["steps"] (defScope s_fault_of_steps) := ⟨rfl, rfl, rfl, by decide +kernel, rfl, by decide +kernel, by decide +kernel⟩
theorem sc_fault_of_moves : FnScope ["moves", "index", "move"] ["moves"] (defScope s_fault_of_moves) := ⟨rfl, rfl, rfl, by decide +kernel, rfl, by decide +kernel, by decide +kernel⟩
theorem sc_is_tuple_of : FnScope ["thing", "least", "most"] ["thing", "least", "most"] (defScope s_is_tuple_of) := ⟨rfl, rfl, rfl, by decide +kernel, rfl, by decide +kernel, by decide +kernel⟩
theorem sc_is_move : FnScope ["thing"] ["thing"] (defScope s_is_move) := ⟨rfl, rfl, rfl, by decide +kernel, rfl, by decide +kernel, by decide +kernel⟩
theorem sc_is_fade : FnScope ["thing"] ["thing"] (defScope s_is_fade) := ⟨rfl, rfl, rfl, by decide +kernel, rfl, by decide +kernel, by decide +kernel⟩
theorem sc_read_file : FnScope ["coder", "data", "first", "codes", "known", "index", "state", "row", "end"] ["coder", "data"] (defScope s_read_file) := ⟨rfl, rfl, rfl, by decide +kernel, rfl, by decide +kernel, by decide +kernel⟩
theorem sc_need_coder_and_tuple : FnScope ["coder", "data"] ["coder", "data"] (defScope s_need_coder_and_tuple) := ⟨rfl, rfl, rfl, by decide +kernel, rfl, by decide +kernel, by decide +kernel⟩
theorem sc_sum_index : FnScope ["begin", "many"] ["begin", "many"] (defScope s_sum_index) := ⟨rfl, rfl, rfl, by decide +kernel, rfl, by decide +kernel, by decide +kernel⟩
theorem sc_block_at : FnScope ["coder", "data", "begin", "known", "index", "byte", "state", "many", "row", "last", "total"] ["coder", "data", "begin", "known"] (defScope s_block_at) := ⟨rfl, rfl, rfl, by decide +kernel, rfl, by decide +kernel, by decide +kernel⟩
theorem sc_byte_at : FnScope ["data", "index"] ["data", "index"] (defScope s_byte_at) := ⟨rfl, rfl, rfl, by decide +kernel, rfl, by decide +kernel, by decide +kernel⟩
theorem sc_byte_between : FnScope ["data", "index", "least", "most", "byte"] ["data", "index", "least", "most"] (defScope s_byte_between) := ⟨rfl, rfl, rfl, by decide +kernel, rfl, by decide +kernel, by decide +kernel⟩
theorem sc_state_at : FnScope ["coder", "data", "index", "known", "low", "high", "least", "most", "greater", "base", "level"] ["coder", "data", "index", "known"] (defScope s_state_at) := ⟨rfl, rfl, rfl, by decide +kernel, rfl, by decide +kernel, by decide +kernel⟩
theorem sc_codes_at : FnScope ["coder", "data", "begin", "many", "last", "row", "index", "byte", "greatest"] ["coder", "data", "begin", "many"] (defScope s_codes_at) := ⟨rfl, rfl, rfl, by decide +kernel, rfl, by decide +kernel, by decide +kernel⟩
theorem sc_law_begun : FnScope ["script", "cell"] ["script"] (defScope s_law_begun) := ⟨rfl, rfl, rfl, by decide +kernel, rfl, by decide +kernel, by decide +kernel⟩
theorem sc_law_next : FnScope ["m", "many", "rest", "k", "cell", "mixed"] ["m", "many"] (defScope s_law_next) := ⟨rfl, rfl, rfl, by decide +kernel, rfl, by decide +kernel, by decide +kernel⟩
theorem sc_law_parted : FnScope ["number", "by"] ["number", "by"] (defScope s_law_parted) := ⟨rfl, rfl, rfl, by decide +kernel, rfl, by decide +kernel, by decide +kernel⟩
theorem sc_law_limited : FnScope ["number", "least", "most"] ["number", "least", "most"] (defScope s_law_limited) := ⟨rfl, rfl, rfl, by decide +kernel, rfl, by decide +kernel, by decide +kernel⟩
theorem sc_law_led : FnScope ["coder", "here", "code", "share", "turn", "level"] ["coder", "here", "code"] (defScope s_law_led) := ⟨rfl, rfl, rfl, by decide +kernel, rfl, by decide +kernel, by decide +kernel⟩
theorem sc_law_walked : FnScope ["coder", "here", "row", "found", "code"] ["coder", "here", "row"] (defScope s_law_walked) := ⟨rfl, rfl, rfl, by decide +kernel, rfl, by decide +kernel, by decide +kernel⟩
theorem sc_law_some_state : FnScope ["m", "coder"] ["m", "coder"] (defScope s_law_some_state) := ⟨rfl, rfl, rfl, by decide +kernel, rfl, by decide +kernel, by decide +kernel⟩
theorem sc_law_row : FnScope ["m", "coder", "many", "k"] ["m", "coder", "many"] (defScope s_law_row) := ⟨rfl, rfl, rfl, by decide +kernel, rfl, by decide +kernel, by decide +kernel⟩
theorem sc_law_is_whole : FnScope ["thing", "least", "most"] ["thing", "least", "most"] (defScope s_law_is_whole) := ⟨rfl, rfl, rfl, by decide +kernel, rfl, by decide +kernel, by decide +kernel⟩
theorem sc_law_fault : FnScope ["e", "told"] ["e"] (defScope s_law_fault) := ⟨rfl, rfl, rfl, by decide +kernel, rfl, by decide +kernel, by decide +kernel⟩
theorem sc_law_outcome : FnScope ["deed", "caught", "found", "e"] ["deed"] (defScope s_law_outcome) := ⟨rfl, rfl, rfl, by decide +kernel, rfl, by decide +kernel, by decide +kernel⟩
theorem sc_law_great_coder : FnScope ["m", "wide", "low", "high", "k", "steps", "moves"] ["m"] (defScope s_law_great_coder) := ⟨rfl, rfl, rfl, by decide +kernel, rfl, by decide +kernel, by decide +kernel⟩
theorem sc_law_block : FnScope ["here", "row", "level", "found", "k", "inner"] ["here", "row"] (defScope s_law_block) := ⟨rfl, rfl, rfl, by decide +kernel, rfl, by decide +kernel, by decide +kernel⟩
theorem sc_law_file : FnScope ["coder", "row", "sizes", "here", "found", "at", "k", "size"] ["coder", "row", "sizes", "here"] (defScope s_law_file) := ⟨rfl, rfl, rfl, by decide +kernel, rfl, by decide +kernel, by decide +kernel⟩
theorem sc_law_block_read : FnScope ["coder", "data", "at", "due", "rest", "k", "low", "high", "top", "many", "row", "here", "thing"] ["coder", "data", "at", "due"] (defScope s_law_block_read) := ⟨rfl, rfl, rfl, by decide +kernel, rfl, by decide +kernel, by decide +kernel⟩
theorem sc_law_pieces : FnScope ["m", "coder", "many", "data", "k", "sizes"] ["m", "coder", "many"] (defScope s_law_pieces) := ⟨rfl, rfl, rfl, by decide +kernel, rfl, by decide +kernel, by decide +kernel⟩
theorem sc_law_bent_data : FnScope ["m", "data", "at", "way", "to", "odd"] ["m", "data"] (defScope s_law_bent_data) := ⟨rfl, rfl, rfl, by decide +kernel, rfl, by decide +kernel, by decide +kernel⟩
theorem sc_law_due : FnScope ["coder", "data", "at", "first", "due", "row", "found"] ["coder", "data"] (defScope s_law_due) := ⟨rfl, rfl, rfl, by decide +kernel, rfl, by decide +kernel, by decide +kernel⟩
theorem sc_law_right : FnScope ["coder", "data", "kept"] ["coder", "data"] (defScope s_law_right) := ⟨rfl, rfl, rfl, by decide +kernel, rfl, by decide +kernel, by decide +kernel⟩
theorem sc_law : FnScope ["script", "m", "turn", "row", "here", "data", "far", "some", "again", "bent", "coder", "odd"] ["script"] (defScope s_law) := ⟨rfl, rfl, rfl, by decide +kernel, rfl, by decide +kernel, by decide +kernel⟩
structure Txt0 (K : PySem.W.Frag) (mg : Str → Option Value) where
  f_is_integer : Addr
  d_is_integer : FuncData
  F_is_integer : Fun K "is_integer" "is_integer" s_is_integer f_is_integer d_is_integer
  b_is_integer : Binds K d_is_integer ["thing"] []
  g_is_integer : mg "is_integer" = some (.ref f_is_integer)
  f_is_between : Addr
  d_is_between : FuncData
  F_is_between : Fun K "is_between" "is_between" s_is_between f_is_between d_is_between
  b_is_between : Binds K d_is_between ["thing", "least", "most"] []
  g_is_between : mg "is_between" = some (.ref f_is_between)
  f_is_pair : Addr
  d_is_pair : FuncData
  F_is_pair : Fun K "is_pair" "is_pair" s_is_pair f_is_pair d_is_pair
  b_is_pair : Binds K d_is_pair ["thing"] []
  g_is_pair : mg "is_pair" = some (.ref f_is_pair)
  f_rounded : Addr
  d_rounded : FuncData
  F_rounded : Fun K "rounded" "rounded" s_rounded f_rounded d_rounded
  b_rounded : Binds K d_rounded ["number", "divisor"] []
  g_rounded : mg "rounded" = some (.ref f_rounded)
  f_limited : Addr
  d_limited : FuncData
  F_limited : Fun K "limited" "limited" s_limited f_limited d_limited
  b_limited : Binds K d_limited ["number", "least", "most"] []
  g_limited : mg "limited" = some (.ref f_limited)
  f_change_at : Addr
  d_change_at : FuncData
  F_change_at : Fun K "change_at" "change_at" s_change_at f_change_at d_change_at
  b_change_at : Binds K d_change_at ["coder", "code", "place"] []
  g_change_at : mg "change_at" = some (.ref f_change_at)
  f_faded : Addr
  d_faded : FuncData
  F_faded : Fun K "faded" "faded" s_faded f_faded d_faded
  b_faded : Binds K d_faded ["level", "fade"] []
  g_faded : mg "faded" = some (.ref f_faded)
  f_state_behind : Addr
  d_state_behind : FuncData
  F_state_behind : Fun K "state_behind" "state_behind" s_state_behind f_state_behind d_state_behind
  b_state_behind : Binds K d_state_behind ["coder", "state", "code"] []
  g_state_behind : mg "state_behind" = some (.ref f_state_behind)
  f_state_behind_row : Addr
  d_state_behind_row : FuncData
  F_state_behind_row : Fun K "state_behind_row" "state_behind_row" s_state_behind_row f_state_behind_row d_state_behind_row
  b_state_behind_row : Binds K d_state_behind_row ["coder", "row", "state"] []
  g_state_behind_row : mg "state_behind_row" = some (.ref f_state_behind_row)
  f_need_coder : Addr
  d_need_coder : FuncData
  F_need_coder : Fun K "need_coder" "need_coder" s_need_coder f_need_coder d_need_coder
  b_need_coder : Binds K d_need_coder ["thing"] []
  g_need_coder : mg "need_coder" = some (.ref f_need_coder)
structure Txt1 (K : PySem.W.Frag) (mg : Str → Option Value) extends Txt0 K mg where
  f__first_fault : Addr
  d__first_fault : FuncData
  F__first_fault : Fun K "_first_fault" "_first_fault" s_first_fault f__first_fault d__first_fault
  b__first_fault : Binds K d__first_fault ["thing"] []
  g__first_fault : mg "_first_fault" = some (.ref f__first_fault)
  f__fault_of_steps : Addr
  d__fault_of_steps : FuncData
  F__fault_of_steps : Fun K "_fault_of_steps" "_fault_of_steps" s_fault_of_steps f__fault_of_steps d__fault_of_steps
  b__fault_of_steps : Binds K d__fault_of_steps ["steps"] []
  g__fault_of_steps : mg "_fault_of_steps" = some (.ref f__fault_of_steps)
  f__fault_of_moves : Addr
  d__fault_of_moves : FuncData
  F__fault_of_moves : Fun K "_fault_of_moves" "_fault_of_moves" s_fault_of_moves f__fault_of_moves d__fault_of_moves
  b__fault_of_moves : Binds K d__fault_of_moves ["moves"] []
  g__fault_of_moves : mg "_fault_of_moves" = some (.ref f__fault_of_moves)
  f__is_tuple_of : Addr
  d__is_tuple_of : FuncData
  F__is_tuple_of : Fun K "_is_tuple_of" "_is_tuple_of" s_is_tuple_of f__is_tuple_of d__is_tuple_of
  b__is_tuple_of : Binds K d__is_tuple_of ["thing", "least", "most"] []
  g__is_tuple_of : mg "_is_tuple_of" = some (.ref f__is_tuple_of)
  f__is_move : Addr
  d__is_move : FuncData
  F__is_move : Fun K "_is_move" "_is_move" s_is_move f__is_move d__is_move
  b__is_move : Binds K d__is_move ["thing"] []
  g__is_move : mg "_is_move" = some (.ref f__is_move)
  f__is_fade : Addr
  d__is_fade : FuncData
  F__is_fade : Fun K "_is_fade" "_is_fade" s_is_fade f__is_fade d__is_fade
  b__is_fade : Binds K d__is_fade ["thing"] []
  g__is_fade : mg "_is_fade" = some (.ref f__is_fade)
  f_read_file : Addr
  d_read_file : FuncData
  F_read_file : Fun K "read_file" "read_file" s_read_file f_read_file d_read_file
  b_read_file : Binds K d_read_file ["coder", "data"] []
  g_read_file : mg "read_file" = some (.ref f_read_file)
  f__need_coder_and_tuple : Addr
  d__need_coder_and_tuple : FuncData
  F__need_coder_and_tuple : Fun K "_need_coder_and_tuple" "_need_coder_and_tuple" s_need_coder_and_tuple f__need_coder_and_tuple d__need_coder_and_tuple
  b__need_coder_and_tuple : Binds K d__need_coder_and_tuple ["coder", "data"] []
  g__need_coder_and_tuple : mg "_need_coder_and_tuple" = some (.ref f__need_coder_and_tuple)
  f__sum_index : Addr
  d__sum_index : FuncData
  F__sum_index : Fun K "_sum_index" "_sum_index" s_sum_index f__sum_index d__sum_index
  b__sum_index : Binds K d__sum_index ["begin", "many"] []
  g__sum_index : mg "_sum_index" = some (.ref f__sum_index)
  f__block_at : Addr
  d__block_at : FuncData
  F__block_at : Fun K "_block_at" "_block_at" s_block_at f__block_at d__block_at
  b__block_at : Binds K d__block_at ["coder", "data", "begin", "known"] []
  g__block_at : mg "_block_at" = some (.ref f__block_at)
structure Txt2 (K : PySem.W.Frag) (mg : Str → Option Value) extends Txt1 K mg where
  f__byte_at : Addr
  d__byte_at : FuncData
  F__byte_at : Fun K "_byte_at" "_byte_at" s_byte_at f__byte_at d__byte_at
  b__byte_at : Binds K d__byte_at ["data", "index"] []
  g__byte_at : mg "_byte_at" = some (.ref f__byte_at)
  f__byte_between : Addr
  d__byte_between : FuncData
  F__byte_between : Fun K "_byte_between" "_byte_between" s_byte_between f__byte_between d__byte_between
  b__byte_between : Binds K d__byte_between ["data", "index", "least", "most"] []
  g__byte_between : mg "_byte_between" = some (.ref f__byte_between)
  f__state_at : Addr
  d__state_at : FuncData
  F__state_at : Fun K "_state_at" "_state_at" s_state_at f__state_at d__state_at
  b__state_at : Binds K d__state_at ["coder", "data", "index", "known"] []
  g__state_at : mg "_state_at" = some (.ref f__state_at)
  f__codes_at : Addr
  d__codes_at : FuncData
  F__codes_at : Fun K "_codes_at" "_codes_at" s_codes_at f__codes_at d__codes_at
  b__codes_at : Binds K d__codes_at ["coder", "data", "begin", "many"] []
  g__codes_at : mg "_codes_at" = some (.ref f__codes_at)
  f__law_begun : Addr
  d__law_begun : FuncData
  F__law_begun : Fun K "_law_begun" "_law_begun" s_law_begun f__law_begun d__law_begun
  b__law_begun : Binds K d__law_begun ["script"] []
  g__law_begun : mg "_law_begun" = some (.ref f__law_begun)
  f__law_next : Addr
  d__law_next : FuncData
  F__law_next : Fun K "_law_next" "_law_next" s_law_next f__law_next d__law_next
  b__law_next : Binds K d__law_next ["m", "many"] []
  g__law_next : mg "_law_next" = some (.ref f__law_next)
  f__law_parted : Addr
  d__law_parted : FuncData
  F__law_parted : Fun K "_law_parted" "_law_parted" s_law_parted f__law_parted d__law_parted
  b__law_parted : Binds K d__law_parted ["number", "by"] []
  g__law_parted : mg "_law_parted" = some (.ref f__law_parted)
  f__law_limited : Addr
  d__law_limited : FuncData
  F__law_limited : Fun K "_law_limited" "_law_limited" s_law_limited f__law_limited d__law_limited
  b__law_limited : Binds K d__law_limited ["number", "least", "most"] []
  g__law_limited : mg "_law_limited" = some (.ref f__law_limited)
  f__law_led : Addr
  d__law_led : FuncData
  F__law_led : Fun K "_law_led" "_law_led" s_law_led f__law_led d__law_led
  b__law_led : Binds K d__law_led ["coder", "here", "code"] []
  g__law_led : mg "_law_led" = some (.ref f__law_led)
  f__law_walked : Addr
  d__law_walked : FuncData
  F__law_walked : Fun K "_law_walked" "_law_walked" s_law_walked f__law_walked d__law_walked
  b__law_walked : Binds K d__law_walked ["coder", "here", "row"] []
  g__law_walked : mg "_law_walked" = some (.ref f__law_walked)
structure Txt3 (K : PySem.W.Frag) (mg : Str → Option Value) extends Txt2 K mg where
  f__law_some_state : Addr
  d__law_some_state : FuncData
  F__law_some_state : Fun K "_law_some_state" "_law_some_state" s_law_some_state f__law_some_state d__law_some_state
  b__law_some_state : Binds K d__law_some_state ["m", "coder"] []
  g__law_some_state : mg "_law_some_state" = some (.ref f__law_some_state)
  f__law_row : Addr
  d__law_row : FuncData
  F__law_row : Fun K "_law_row" "_law_row" s_law_row f__law_row d__law_row
  b__law_row : Binds K d__law_row ["m", "coder", "many"] []
  g__law_row : mg "_law_row" = some (.ref f__law_row)
  f__law_is_whole : Addr
  d__law_is_whole : FuncData
  F__law_is_whole : Fun K "_law_is_whole" "_law_is_whole" s_law_is_whole f__law_is_whole d__law_is_whole
  b__law_is_whole : Binds K d__law_is_whole ["thing", "least", "most"] []
  g__law_is_whole : mg "_law_is_whole" = some (.ref f__law_is_whole)
  f__law_fault : Addr
  d__law_fault : FuncData
  F__law_fault : Fun K "_law_fault" "_law_fault" s_law_fault f__law_fault d__law_fault
  b__law_fault : Binds K d__law_fault ["e"] []
  g__law_fault : mg "_law_fault" = some (.ref f__law_fault)
  f__law_outcome : Addr
  d__law_outcome : FuncData
  F__law_outcome : Fun K "_law_outcome" "_law_outcome" s_law_outcome f__law_outcome d__law_outcome
  b__law_outcome : Binds K d__law_outcome ["deed"] []
  g__law_outcome : mg "_law_outcome" = some (.ref f__law_outcome)
  f__law_great_coder : Addr
  d__law_great_coder : FuncData
  F__law_great_coder : Fun K "_law_great_coder" "_law_great_coder" s_law_great_coder f__law_great_coder d__law_great_coder
  b__law_great_coder : Binds K d__law_great_coder ["m"] []
  g__law_great_coder : mg "_law_great_coder" = some (.ref f__law_great_coder)
  f__law_block : Addr
  d__law_block : FuncData
  F__law_block : Fun K "_law_block" "_law_block" s_law_block f__law_block d__law_block
  b__law_block : Binds K d__law_block ["here", "row"] []
  g__law_block : mg "_law_block" = some (.ref f__law_block)
  f__law_file : Addr
  d__law_file : FuncData
  F__law_file : Fun K "_law_file" "_law_file" s_law_file f__law_file d__law_file
  b__law_file : Binds K d__law_file ["coder", "row", "sizes", "here"] []
  g__law_file : mg "_law_file" = some (.ref f__law_file)
  f__law_block_read : Addr
  d__law_block_read : FuncData
  F__law_block_read : Fun K "_law_block_read" "_law_block_read" s_law_block_read f__law_block_read d__law_block_read
  b__law_block_read : Binds K d__law_block_read ["coder", "data", "at", "due"] []
  g__law_block_read : mg "_law_block_read" = some (.ref f__law_block_read)
  f__law_pieces : Addr
  d__law_pieces : FuncData
  F__law_pieces : Fun K "_law_pieces" "_law_pieces" s_law_pieces f__law_pieces d__law_pieces
  b__law_pieces : Binds K d__law_pieces ["m", "coder", "many"] []
  g__law_pieces : mg "_law_pieces" = some (.ref f__law_pieces)
structure Txt4 (K : PySem.W.Frag) (mg : Str → Option Value) extends Txt3 K mg where
  f__law_bent_data : Addr
  d__law_bent_data : FuncData
  F__law_bent_data : Fun K "_law_bent_data" "_law_bent_data" s_law_bent_data f__law_bent_data d__law_bent_data
  b__law_bent_data : Binds K d__law_bent_data ["m", "data"] []
  g__law_bent_data : mg "_law_bent_data" = some (.ref f__law_bent_data)
  f__law_due : Addr
  d__law_due : FuncData
  F__law_due : Fun K "_law_due" "_law_due" s_law_due f__law_due d__law_due
  b__law_due : Binds K d__law_due ["coder", "data"] []
  g__law_due : mg "_law_due" = some (.ref f__law_due)
  f__law_right : Addr
  d__law_right : FuncData
  F__law_right : Fun K "_law_right" "_law_right" s_law_right f__law_right d__law_right
  b__law_right : Binds K d__law_right ["coder", "data"] []
  g__law_right : mg "_law_right" = some (.ref f__law_right)
  f_law : Addr
  d_law : FuncData
  F_law : Fun K "law" "law" s_law f_law d_law
  b_law : Binds K d_law ["script"] []
  g_law : mg "law" = some (.ref f_law)
structure Txt (K : PySem.W.Frag) (mg : Str → Option Value) extends Txt4 K mg where
  z_bool : mg "bool" = none
  z_enumerate : mg "enumerate" = none
  z_int : mg "int" = none
  z_isinstance : mg "isinstance" = none
  z_len : mg "len" = none
  z_list : mg "list" = none
  z_max : mg "max" = none
  z_min : mg "min" = none
  z_range : mg "range" = none
  z_repr : mg "repr" = none
  z_sum : mg "sum" = none
  z_tuple : mg "tuple" = none
  C_BadCoder : Addr
  fi_BadCoder : Addr
  di_BadCoder : FuncData
  g_BadCoder : mg "BadCoder" = some (.ref C_BadCoder)
  o_BadCoder : OexC K C_BadCoder
  i_BadCoder : PySem.W.findIn K (.ref C_BadCoder) "__init__" = some (some (.ref fi_BadCoder))
  t_BadCoder : PySem.W.typeIn K (.ref fi_BadCoder) = some (.type "function")
  x_BadCoder : XfC K C_BadCoder
  X_BadCoder : ExcC K C_BadCoder
  n_BadCoder_part : PySem.W.findIn K (.ref C_BadCoder) "part" = some none
  n_BadCoder_number : PySem.W.findIn K (.ref C_BadCoder) "number" = some none
  Fi_BadCoder : Fun K "__init__" "BadCoder.__init__" si_BadCoder fi_BadCoder di_BadCoder
  bi_BadCoder : Binds K di_BadCoder ["self", "part", "number"] []
  e_BadCoder : PySem.W.exmOne K (.ref C_BadCoder) (.ref C_BadCoder) = some true
  C_BadByte : Addr
  fi_BadByte : Addr
  di_BadByte : FuncData
  g_BadByte : mg "BadByte" = some (.ref C_BadByte)
  o_BadByte : OexC K C_BadByte
  i_BadByte : PySem.W.findIn K (.ref C_BadByte) "__init__" = some (some (.ref fi_BadByte))
  t_BadByte : PySem.W.typeIn K (.ref fi_BadByte) = some (.type "function")
  x_BadByte : XfC K C_BadByte
  X_BadByte : ExcC K C_BadByte
  n_BadByte_number : PySem.W.findIn K (.ref C_BadByte) "number" = some none
  Fi_BadByte : Fun K "__init__" "BadByte.__init__" si_BadByte fi_BadByte di_BadByte
  bi_BadByte : Binds K di_BadByte ["self", "number"] []
  e_BadByte : PySem.W.exmOne K (.ref C_BadByte) (.ref C_BadByte) = some true
  C_TooGreat : Addr
  fi_TooGreat : Addr
  di_TooGreat : FuncData
  g_TooGreat : mg "TooGreat" = some (.ref C_TooGreat)
  o_TooGreat : TgC K C_TooGreat
  i_TooGreat : PySem.W.findIn K (.ref C_TooGreat) "__init__" = some (some (.ref fi_TooGreat))
  t_TooGreat : PySem.W.typeIn K (.ref fi_TooGreat) = some (.type "function")
  x_TooGreat : XfC K C_TooGreat
  X_TooGreat : ExcC K C_TooGreat
  n_TooGreat_most : PySem.W.findIn K (.ref C_TooGreat) "most" = some none
  Fi_TooGreat : Fun K "__init__" "TooGreat.__init__" si_TooGreat fi_TooGreat di_TooGreat
  bi_TooGreat : Binds K di_TooGreat ["self", "most"] []
  e_TooGreat : PySem.W.exmOne K (.ref C_TooGreat) (.ref C_TooGreat) = some true
  C_BadRow : Addr
  g_BadRow : mg "BadRow" = some (.ref C_BadRow)
  C_BadPaper : Addr
  g_BadPaper : mg "BadPaper" = some (.ref C_BadPaper)
  C_OutOfPlace : Addr
  g_OutOfPlace : mg "OutOfPlace" = some (.ref C_OutOfPlace)
  C_NoSeam : Addr
  g_NoSeam : mg "NoSeam" = some (.ref C_NoSeam)
  C_Nothing : Addr
  g_Nothing : mg "Nothing" = some (.ref C_Nothing)
  e_BadCoder_BadByte : PySem.W.exmOne K (.ref C_BadCoder) (.ref C_BadByte) = some false
  e_BadCoder_TooGreat : PySem.W.exmOne K (.ref C_BadCoder) (.ref C_TooGreat) = some false
  em_BadCoder : exmEach K (.ref C_BadCoder) [.ref C_BadCoder, .ref C_BadRow, .ref C_BadPaper, .ref C_BadByte, .ref C_TooGreat, .ref C_OutOfPlace, .ref C_NoSeam, .ref C_Nothing] [true, false, false, false, false, false, false, false]
  ks_BadCoder : kitEach K (.ref C_BadCoder) [.ref C_BadCoder, .ref C_BadRow, .ref C_BadPaper, .ref C_BadByte, .ref C_TooGreat, .ref C_OutOfPlace, .ref C_NoSeam, .ref C_Nothing] [true, false, false, false, false, false, false, false]
  e_BadByte_BadCoder : PySem.W.exmOne K (.ref C_BadByte) (.ref C_BadCoder) = some false
  e_BadByte_TooGreat : PySem.W.exmOne K (.ref C_BadByte) (.ref C_TooGreat) = some false
  em_BadByte : exmEach K (.ref C_BadByte) [.ref C_BadCoder, .ref C_BadRow, .ref C_BadPaper, .ref C_BadByte, .ref C_TooGreat, .ref C_OutOfPlace, .ref C_NoSeam, .ref C_Nothing] [false, false, false, true, false, false, false, false]
  ks_BadByte : kitEach K (.ref C_BadByte) [.ref C_BadCoder, .ref C_BadRow, .ref C_BadPaper, .ref C_BadByte, .ref C_TooGreat, .ref C_OutOfPlace, .ref C_NoSeam, .ref C_Nothing] [false, false, false, true, false, false, false, false]
  e_TooGreat_BadCoder : PySem.W.exmOne K (.ref C_TooGreat) (.ref C_BadCoder) = some false
  e_TooGreat_BadByte : PySem.W.exmOne K (.ref C_TooGreat) (.ref C_BadByte) = some false
  em_TooGreat : exmEach K (.ref C_TooGreat) [.ref C_BadCoder, .ref C_BadRow, .ref C_BadPaper, .ref C_BadByte, .ref C_TooGreat, .ref C_OutOfPlace, .ref C_NoSeam, .ref C_Nothing] [false, false, false, false, true, false, false, false]
  ks_TooGreat : kitEach K (.ref C_TooGreat) [.ref C_BadCoder, .ref C_BadRow, .ref C_BadPaper, .ref C_BadByte, .ref C_TooGreat, .ref C_OutOfPlace, .ref C_NoSeam, .ref C_Nothing] [false, false, false, false, true, false, false, false]
  c__law_right : Addr
  P__law_right : Addr
  cd__law_right : d__law_right.code = .ref c__law_right
  c_law : Addr
  P_law : Addr
  cd_law : d_law.code = .ref c_law
  nP__law_right_law : P__law_right ≠ P_law
  kp_oc : PySem.W.keepIn K (.ref f__law_outcome) = true
  lk_oc : ∃ oc od dV kV doc pm an cdv ct osl, K.lookup f__law_outcome = some ⟨oc, od, .func (PySem.W.fnOf "_law_outcome" "_law_outcome" (defArgs s_law_outcome) (defBody s_law_outcome) (defScope s_law_outcome) dV kV doc pm an cdv ct), osl⟩ ∧ PySem.W.codeIn K cdv "_law_outcome" = true ∧ L2.Binds K (PySem.W.fnOf "_law_outcome" "_law_outcome" (defArgs s_law_outcome) (defBody s_law_outcome) (defScope s_law_outcome) dV kV doc pm an cdv ct) ["deed"] []
  vV : PySem.W.findCls K (.type "ValueError") (.type "type") "__init__" = some (.val (.builtin "ValueError.__init__"))
  zV : mg "ValueError" = none
  t_MOST_CODES : Tok
  g_MOST_CODES : mg "MOST_CODES" = some (.int 2000 t_MOST_CODES)
  q_MARK : Addr
  qs_MARK : ∀ H, SqT K H q_MARK [.int 165, .int 90]
  g_MARK : mg "MARK" = some (.ref q_MARK)
  t_HEAD : Tok
  g_HEAD : mg "HEAD" = some (.int 6 t_HEAD)
def TL {K : PySem.W.Frag} {mg : Str → Option Value} (T : Txt K mg) : List (Addr × Str) := [(T.P__law_right, "_law_right.<locals>.<lambda>"), (T.P_law, "law.<locals>.<lambda>")]
theorem tl_ok {K : PySem.W.Frag} {mg : Str → Option Value} (T : Txt K mg) : ∀ p ∈ TL T, ∀ q ∈ TL T, p.1 = q.1 → p.2 = q.2 := by
  intro p hp q hq e
  unfold TL at hp hq
  simp only [List.mem_cons, List.not_mem_nil, or_false] at hp hq
  rcases hp with rfl | rfl <;> rcases hq with rfl | rfl <;> first | rfl | exact absurd e T.nP__law_right_law | exact absurd e.symm T.nP__law_right_law

end My

namespace My
open PySem PySem.Spec PyProof.Rows L2
/-! ### things and their kinds -/
def tyN : PyData → String
  | .none => "NoneType"
  | .bool _ => "bool"
  | .int _ => "int"
  | .str _ => "str"
  | .list _ => "list"
  | .tuple _ => "tuple"
  | .dict _ => "dict"
def isT : PyData → Bool
  | .tuple _ => true
  | _ => false
def isI : PyData → Bool
  | .int _ => true
  | .bool _ => true
  | _ => false
def isB : PyData → Bool
  | .bool _ => true
  | _ => false
theorem tyx {K : PySem.W.Frag} {H : Hp} {v : V} {d : PyData} (h : Dp K H v d) : TyX K H v (.type (tyN d)) := by
  cases h with
  | non => exact .base .non
  | bl b => exact .base (.bl b)
  | int i => exact .base (.int i)
  | str x => exact .base (.str x)
  | lst h _ =>
    rcases h with (h | ⟨o, h⟩) | ⟨o, its, n, h, hc, _⟩
    · exact .base (.lst h)
    · exact .base (.frz h)
    · exact .kList h hc
  | tup h _ =>
    rcases h with (h | ⟨o, h⟩) | ⟨o, its, n, h, hc, _⟩
    · exact .base (.tup h)
    · exact .fTuple h
    · exact .kTuple h hc
theorem kitI {K : PySem.W.Frag} : ∀ d : PyData, PySem.W.kitOne K (.type (tyN d)) (.type "int") = some (isI d)
  | .none => kit_ty (a := "NoneType") (b := "int") (r := false) (by decide +kernel)
  | .bool _ => kit_ty (a := "bool") (b := "int") (r := true) (by decide +kernel)
  | .int _ => kit_ty (a := "int") (b := "int") (r := true) (by decide +kernel)
  | .str _ => kit_ty (a := "str") (b := "int") (r := false) (by decide +kernel)
  | .list _ => kit_ty (a := "list") (b := "int") (r := false) (by decide +kernel)
  | .tuple _ => kit_ty (a := "tuple") (b := "int") (r := false) (by decide +kernel)
  | .dict _ => kit_ty (a := "dict") (b := "int") (r := false) (by decide +kernel)
theorem kitBo {K : PySem.W.Frag} : ∀ d : PyData, PySem.W.kitOne K (.type (tyN d)) (.type "bool") = some (isB d)
  | .none => kit_ty (a := "NoneType") (b := "bool") (r := false) (by decide +kernel)
  | .bool _ => kit_ty (a := "bool") (b := "bool") (r := true) (by decide +kernel)
  | .int _ => kit_ty (a := "int") (b := "bool") (r := false) (by decide +kernel)
  | .str _ => kit_ty (a := "str") (b := "bool") (r := false) (by decide +kernel)
  | .list _ => kit_ty (a := "list") (b := "bool") (r := false) (by decide +kernel)
  | .tuple _ => kit_ty (a := "tuple") (b := "bool") (r := false) (by decide +kernel)
  | .dict _ => kit_ty (a := "dict") (b := "bool") (r := false) (by decide +kernel)
theorem kitT {K : PySem.W.Frag} : ∀ d : PyData, PySem.W.kitOne K (.type (tyN d)) (.type "tuple") = some (isT d)
  | .none => kit_ty (a := "NoneType") (b := "tuple") (r := false) (by decide +kernel)
  | .bool _ => kit_ty (a := "bool") (b := "tuple") (r := false) (by decide +kernel)
  | .int _ => kit_ty (a := "int") (b := "tuple") (r := false) (by decide +kernel)
  | .str _ => kit_ty (a := "str") (b := "tuple") (r := false) (by decide +kernel)
  | .list _ => kit_ty (a := "list") (b := "tuple") (r := false) (by decide +kernel)
  | .tuple _ => kit_ty (a := "tuple") (b := "tuple") (r := true) (by decide +kernel)
  | .dict _ => kit_ty (a := "dict") (b := "tuple") (r := false) (by decide +kernel)
def btw (d : PyData) (lo hi : Int) : Bool := match d with
  | .int n => decide (lo ≤ n) && decide (n ≤ hi)
  | _ => false
def pairD : PyData → Bool
  | .tuple ds => decide ((ds.length : Int) = 2)
  | _ => false
theorem dpAll_len {K : PySem.W.Frag} {H : Hp} : ∀ {xs : List V} {ds : List PyData}, DpAll K H xs ds → xs.length = ds.length
  | _, _, .nil => rfl
  | _, _, .cons _ t => congrArg (· + 1) (dpAll_len t)
theorem dpAll_get {K : PySem.W.Frag} {H : Hp} : ∀ {xs : List V} {ds : List PyData} {i : Nat} {x : V}, DpAll K H xs ds → xs[i]? = some x → ∃ d, ds[i]? = some d ∧ Dp K H x d
  | _, _, _, _, .nil, h => by simp at h
  | _, _, 0, _, .cons h t, e => by
    simp at e
    subst e
    exact ⟨_, by simp, h⟩
  | _, _, i + 1, x, .cons h t, e => by
    obtain ⟨d, h1, h2⟩ := dpAll_get (i := i) (x := x) t (by simpa using e)
    exact ⟨d, by simpa using h1, h2⟩
theorem dpAll_get' {K : PySem.W.Frag} {H : Hp} {xs : List V} {ds : List PyData} {i : Nat} {d : PyData} (h : DpAll K H xs ds) (e : ds[i]? = some d) : ∃ x, xs[i]? = some x ∧ Dp K H x d := by
  have hl := dpAll_len h
  have hi := (List.getElem?_eq_some_iff.mp e).1
  obtain ⟨d', h1, h2⟩ := dpAll_get (i := i) (x := xs[i]) h (List.getElem?_eq_getElem (by omega))
  rw [e] at h1
  cases h1
  exact ⟨_, List.getElem?_eq_getElem (by omega), h2⟩
mutual
theorem dp_same {K : PySem.W.Frag} {H H' : Hp} (s : Same H H') : ∀ (d : PyData) (v : V), Dp K H v d → Dp K H' v d
  | .none, _, h => by cases h; exact .non
  | .bool _, _, h => by cases h; exact .bl _
  | .int _, _, h => by cases h; exact .int _
  | .str _, _, h => by cases h; exact .str _
  | .list ds, _, h => by
    cases h with
    | lst a b => exact .lst (s.seq a) (dpAll_same s ds _ b)
  | .tuple ds, _, h => by
    cases h with
    | tup a b => exact .tup (same_tup s a) (dpAll_same s ds _ b)
  | .dict _, _, h => by cases h
theorem dpAll_same {K : PySem.W.Frag} {H H' : Hp} (s : Same H H') : ∀ (ds : List PyData) (vs : List V), DpAll K H vs ds → DpAll K H' vs ds
  | [], _, h => by cases h; exact .nil
  | d :: ds, _, h => by
    cases h with
    | cons a b => exact .cons (dp_same s d _ a) (dpAll_same s ds _ b)
end
theorem dp_tup {K : PySem.W.Frag} {H : Hp} {v : V} {ds : List PyData} (h : Dp K H v (.tuple ds)) : ∃ a xs, v = .ref a ∧ SqT K H a xs ∧ DpAll K H xs ds := by
  cases h with
  | tup a b => exact ⟨_, _, rfl, a, b⟩
/-- hands back the value z, all stands -/
def Pure (K : PySem.W.Frag) (vs : List V) (H : Hp) (Q : VK) (args : List V) (z : V) : Prop := vs = args ∧ ∀ H', Same H H' → Q z H'
section
variable {P : Program} {w : World} {K : PySem.W.Frag} {mg : Str → Option Value} {base : Heap}
def intD (d : PyData) : Bool := isI d && !isB d
def sp_is_integer (K : PySem.W.Frag) : Sp := fun vs H Q _ => ∃ (x : V) (d : PyData), vs = [x] ∧ Dp K H x d ∧ ∀ H', Same H H' → Q (.bl (intD d)) H'
theorem ok_is_integer (T : Txt K mg) : FnOk P w K mg base CX0 1 T.f_is_integer T.d_is_integer ["thing"] (sp_is_integer K) := by
  refine T.F_is_integer.ok sc_is_integer (fun vs H Q E h => ?_) (fun cdv A outer s H vs Q E hr h => ?_)
  · obtain ⟨x, d, rfl, _⟩ := h
    rfl
  · obtain ⟨x, d, rfl, hd, q⟩ := h
    refine ⟨_,
(pss_one (ps_ret (pe_and (pe_callB (call_isi) (by rfl) T.z_isinstance (by decide +kernel) (pa_cons (pv 0) (pa_cons (pe_bltn (v := .ty "int") (by rfl) T.z_int (by decide +kernel) rfl) pa_nil))) (pe_one (pe_not (pe_callB (call_isi) (by rfl) T.z_isinstance (by decide +kernel) (pa_cons (pv 0) (pa_cons (pe_bltn (v := .ty "bool") (by rfl) T.z_bool (by decide +kernel) rfl) pa_nil))))))))
, ?_⟩
    have q' : ∀ b, intD d = b → Q (.bl b) H := fun b e => e ▸ q H (Same.refl H)
    refine ⟨x, rfl, x, .ty "int", _, _, _, rfl, .ty _, tyx hd, kitI d, _, rfl, ?_⟩
    cases h1 : isI d with
    | false => exact iteF (q' _ (by unfold intD; rw [h1]; rfl))
    | true =>
      refine iteT ?_
      refine ⟨_, rfl, _, .ty "bool", _, _, _, rfl, .ty _, tyx hd, kitBo d, _, rfl, ?_⟩
      exact q' _ (by unfold intD; rw [h1]; rfl)
theorem btw_not {d : PyData} (h : intD d = false) (lo hi : Int) : btw d lo hi = false := by
  cases d <;> first | rfl | cases h
theorem intD_int {d : PyData} (h : intD d = true) : ∃ n, d = .int n := by
  cases d <;> first | exact ⟨_, rfl⟩ | cases h
def sp_is_between (K : PySem.W.Frag) : Sp := fun vs H Q _ => ∃ (x : V) (d : PyData) (lo hi : Int), vs = [x, .int lo, .int hi] ∧ Dp K H x d ∧ ∀ H', Same H H' → Q (.bl (btw d lo hi)) H'
theorem ok_is_between (T : Txt K mg) : FnOk P w K mg base CX0 2 T.f_is_between T.d_is_between ["thing", "least", "most"] (sp_is_between K) := by
  refine T.F_is_between.ok sc_is_between (fun vs H Q E h => ?_) (fun cdv A outer s H vs Q E hr h => ?_)
  · obtain ⟨x, d, lo, hi, rfl, _⟩ := h
    rfl
  · obtain ⟨x, d, lo, hi, rfl, hd, q⟩ := h
    refine ⟨_,
(pss_one (ps_ret (pe_and (pe_call (ok_is_integer T) (hr.mono (by decide)) (by rfl) T.g_is_integer T.F_is_integer.kp T.b_is_integer .nil pass0 (pa_cons (pv 0) pa_nil)) (pe_one (pe_chain op_le op_le (pv 1) (pv 0) (pv 2))))))
, ?_⟩
    refine ⟨x, rfl, x, d, rfl, hd, fun H1 s1 => ⟨_, rfl, ?_⟩⟩
    have q' : ∀ b, btw d lo hi = b → Q (.bl b) H1 := fun b e => e ▸ q H1 s1
    cases h1 : intD d with
    | false => exact iteF (q' _ (btw_not h1 lo hi))
    | true =>
      obtain ⟨n, rfl⟩ := intD_int h1
      cases hd
      refine iteT ?_
      refine ⟨_, rfl, _, rfl, lo, n, rfl, rfl, _, rfl, ?_⟩
      refine ite2 (fun e => ?_) (fun e => ?_)
      · refine ⟨_, rfl, n, hi, rfl, rfl, ?_⟩
        exact q' _ (by show (decide (lo ≤ n) && decide (n ≤ hi)) = _; rw [e]; rfl)
      · exact q' _ (by show (decide (lo ≤ n) && decide (n ≤ hi)) = _; rw [Bool.not_eq_true] at e; rw [e]; rfl)
def sp_is_pair (K : PySem.W.Frag) : Sp := fun vs H Q _ => ∃ (x : V) (d : PyData), vs = [x] ∧ Dp K H x d ∧ ∀ H', Same H H' → Q (.bl (pairD d)) H'
theorem ok_is_pair (T : Txt K mg) : FnOk P w K mg base CX0 2 T.f_is_pair T.d_is_pair ["thing"] (sp_is_pair K) := by
  refine T.F_is_pair.ok sc_is_pair (fun vs H Q E h => ?_) (fun cdv A outer s H vs Q E hr h => ?_)
  · obtain ⟨x, d, rfl, _⟩ := h
    rfl
  · obtain ⟨x, d, rfl, hd, q⟩ := h
    refine ⟨_,
(pss_one (ps_ret (pe_and (pe_callB (call_isi) (by rfl) T.z_isinstance (by decide +kernel) (pa_cons (pv 0) (pa_cons (pe_bltn (v := .ty "tuple") (by rfl) T.z_tuple (by decide +kernel) rfl) pa_nil))) (pe_one (pe_cmpR op_eq (pe_callB (call_len_seq) (by rfl) T.z_len (by decide +kernel) (pa_cons (pv 0) pa_nil)) pe_int (nomark _))))))
, ?_⟩
    have q' : ∀ b, pairD d = b → Q (.bl b) H := fun b e => e ▸ q H (Same.refl H)
    refine ⟨x, rfl, x, .ty "tuple", _, _, _, rfl, .ty _, tyx hd, kitT d, _, rfl, ?_⟩
    cases hd with
    | tup h1 h2 =>
      refine iteT ?_
      refine ⟨_, rfl, _, _, rfl, .inr h1, rfl, ?_⟩
      exact q' _ (by show decide _ = decide _; rw [dpAll_len h2]; congr 1; simp)
    | non => exact iteF (q H (Same.refl H))
    | int n => exact iteF (q H (Same.refl H))
    | bl b => exact iteF (q H (Same.refl H))
    | str z => exact iteF (q H (Same.refl H))
    | lst _ _ => exact iteF (q H (Same.refl H))
def tupD (d : PyData) (lo hi : Int) : Bool := match d with
  | .tuple ds => decide (lo ≤ (ds.length : Int)) && decide ((ds.length : Int) ≤ hi)
  | _ => false
def sp_is_tuple_of (K : PySem.W.Frag) : Sp := fun vs H Q _ => ∃ (x : V) (d : PyData) (lo hi : Int), vs = [x, .int lo, .int hi] ∧ Dp K H x d ∧ ∀ H', Same H H' → Q (.bl (tupD d lo hi)) H'
theorem ok_is_tuple_of (T : Txt K mg) : FnOk P w K mg base CX0 2 T.f__is_tuple_of T.d__is_tuple_of ["thing", "least", "most"] (sp_is_tuple_of K) := by
  refine T.F__is_tuple_of.ok sc_is_tuple_of (fun vs H Q E h => ?_) (fun cdv A outer s H vs Q E hr h => ?_)
  · obtain ⟨x, d, lo, hi, rfl, _⟩ := h
    rfl
  · obtain ⟨x, d, lo, hi, rfl, hd, q⟩ := h
    refine ⟨_,
(pss_one (ps_ret (pe_and (pe_callB (call_isi) (by rfl) T.z_isinstance (by decide +kernel) (pa_cons (pv 0) (pa_cons (pe_bltn (v := .ty "tuple") (by rfl) T.z_tuple (by decide +kernel) rfl) pa_nil))) (pe_one (pe_chain op_le op_le (pv 1) (pe_callB (call_len_seq) (by rfl) T.z_len (by decide +kernel) (pa_cons (pv 0) pa_nil)) (pv 2))))))
, ?_⟩
    have q' : ∀ b, tupD d lo hi = b → Q (.bl b) H := fun b e => e ▸ q H (Same.refl H)
    refine ⟨x, rfl, x, .ty "tuple", _, _, _, rfl, .ty _, tyx hd, kitT d, _, rfl, ?_⟩
    cases hd with
    | @tup a xs ds h1 h2 =>
      refine iteT ?_
      refine ⟨_, rfl, _, rfl, _, _, rfl, .inr h1, lo, _, rfl, rfl, _, rfl, ?_⟩
      have hl : xs.length = ds.length := dpAll_len h2
      refine ite2 (fun e => ?_) (fun e => ?_)
      · refine ⟨_, rfl, _, hi, rfl, rfl, ?_⟩
        exact q' _ (by show (decide (lo ≤ (ds.length : Int)) && decide ((ds.length : Int) ≤ hi)) = _; rw [← hl, e]; rfl)
      · exact q' _ (by show (decide (lo ≤ (ds.length : Int)) && decide ((ds.length : Int) ≤ hi)) = _; rw [← hl]; rw [Bool.not_eq_true] at e; rw [e]; rfl)
    | non => exact iteF (q H (Same.refl H))
    | int n => exact iteF (q H (Same.refl H))
    | bl b => exact iteF (q H (Same.refl H))
    | str z => exact iteF (q H (Same.refl H))
    | lst _ _ => exact iteF (q H (Same.refl H))
def moveD : PyData → Bool
  | .tuple [a, b] => btw a (-32) 32 && btw b (-15) 15
  | _ => false
def sp_is_move (K : PySem.W.Frag) : Sp := fun vs H Q _ => ∃ (x : V) (d : PyData), vs = [x] ∧ Dp K H x d ∧ ∀ H', Same H H' → Q (.bl (moveD d)) H'
theorem ok_is_move (T : Txt K mg) : FnOk P w K mg base CX0 3 T.f__is_move T.d__is_move ["thing"] (sp_is_move K) := by
  refine T.F__is_move.ok sc_is_move (fun vs H Q E h => ?_) (fun cdv A outer s H vs Q E hr h => ?_)
  · obtain ⟨x, d, rfl, _⟩ := h
    rfl
  · obtain ⟨x, d, rfl, hd, q⟩ := h
    refine ⟨_,
(pss_one (ps_ret (pe_and (pe_call (ok_is_pair T) (hr.mono (by decide)) (by rfl) T.g_is_pair T.F_is_pair.kp T.b_is_pair .nil pass0 (pa_cons (pv 0) pa_nil)) (pe_and (pe_call (ok_is_between T) (hr.mono (by decide)) (by rfl) T.g_is_between T.F_is_between.kp T.b_is_between .nil pass0 (pa_cons (pe_ix ix_tup (pv 0) pe_int (fun _ _ => rfl)) (pa_cons (pe_un un_neg pe_int) (pa_cons pe_int pa_nil)))) (pe_one (pe_call (ok_is_between T) (hr.mono (by decide)) (by rfl) T.g_is_between T.F_is_between.kp T.b_is_between .nil pass0 (pa_cons (pe_ix ix_tup (pv 0) pe_int (fun _ _ => rfl)) (pa_cons (pe_un un_neg pe_int) (pa_cons pe_int pa_nil)))))))))
, ?_⟩
    have q' : ∀ b H', Same H H' → moveD d = b → Q (.bl b) H' := fun b H' s e => e ▸ q H' s
    refine ⟨x, rfl, x, d, rfl, hd, fun H1 s1 => ⟨_, rfl, ?_⟩⟩
    by_cases hp : pairD d = true
    · rw [hp]
      refine iteT ?_
      obtain ⟨da, db, rfl⟩ : ∃ da db, d = .tuple [da, db] := by
        cases d with
        | tuple ds =>
          match ds, hp with
          | [a, b], _ => exact ⟨a, b, rfl⟩
          | [], hp => cases hp
          | [a], hp => cases hp
          | a :: b :: c :: r, hp =>
            have := of_decide_eq_true (show decide (((a :: b :: c :: r).length : Int) = 2) = true from hp)
            simp at this
            omega
        | _ => cases hp
      obtain ⟨a, xs, rfl, ha, hds⟩ := dp_tup hd
      have ha1 := same_tup s1 ha
      obtain ⟨x0, e0, h0⟩ := dpAll_get' hds (i := 0) rfl
      obtain ⟨x1, e1, h1⟩ := dpAll_get' hds (i := 1) rfl
      refine ⟨_, rfl, a, xs, 0, x0, rfl, rfl, ha1, atI_nat (j := 0) e0, 32, rfl, x0, da, -32, 32, rfl, dp_same s1 _ _ h0, fun H2 s2 => ⟨_, rfl, ?_⟩⟩
      have ha2 := same_tup s2 ha1
      cases hb : btw da (-32) 32 with
      | false =>
        refine iteF ?_
        exact q' _ H2 (s1.trans s2) (by show (btw da (-32) 32 && btw db (-15) 15) = false; rw [hb]; rfl)
      | true =>
        refine iteT ?_
        refine ⟨_, rfl, a, xs, 1, x1, rfl, rfl, ha2, atI_nat (j := 1) e1, 15, rfl, x1, db, -15, 15, rfl, dp_same s2 _ _ (dp_same s1 _ _ h1), fun H3 s3 => ?_⟩
        exact q' _ H3 ((s1.trans s2).trans s3) (by show (btw da (-32) 32 && btw db (-15) 15) = _; rw [hb]; rfl)
    · rw [Bool.not_eq_true] at hp
      rw [hp]
      refine iteF ?_
      have e : moveD d = false := by
        unfold moveD
        split
        · cases hp
        · rfl
      exact q' _ H1 s1 e
def fadeD (d : PyData) : Bool := btw d 0 0 || btw d 2 99
def sp_is_fade (K : PySem.W.Frag) : Sp := fun vs H Q _ => ∃ (x : V) (d : PyData), vs = [x] ∧ Dp K H x d ∧ ∀ H', Same H H' → Q (.bl (fadeD d)) H'
theorem ok_is_fade (T : Txt K mg) : FnOk P w K mg base CX0 3 T.f__is_fade T.d__is_fade ["thing"] (sp_is_fade K) := by
  refine T.F__is_fade.ok sc_is_fade (fun vs H Q E h => ?_) (fun cdv A outer s H vs Q E hr h => ?_)
  · obtain ⟨x, d, rfl, _⟩ := h
    rfl
  · obtain ⟨x, d, rfl, hd, q⟩ := h
    refine ⟨_,
(pss_one (ps_ret (pe_or (pe_call (ok_is_between T) (hr.mono (by decide)) (by rfl) T.g_is_between T.F_is_between.kp T.b_is_between .nil pass0 (pa_cons (pv 0) (pa_cons pe_int (pa_cons pe_int pa_nil)))) (pe_one (pe_call (ok_is_between T) (hr.mono (by decide)) (by rfl) T.g_is_between T.F_is_between.kp T.b_is_between .nil pass0 (pa_cons (pv 0) (pa_cons pe_int (pa_cons pe_int pa_nil))))))))
, ?_⟩
    have q' : ∀ b H', Same H H' → fadeD d = b → Q (.bl b) H' := fun b H' s e => e ▸ q H' s
    refine ⟨x, rfl, x, d, 0, 0, rfl, hd, fun H1 s1 => ⟨_, rfl, ?_⟩⟩
    cases hb : btw d 0 0 with
    | true =>
      refine iteT ?_
      exact q' _ H1 s1 (by unfold fadeD; rw [hb]; rfl)
    | false =>
      refine iteF ?_
      refine ⟨x, rfl, x, d, 2, 99, rfl, dp_same s1 _ _ hd, fun H2 s2 => ?_⟩
      exact q' _ H2 (s1.trans s2) (by unfold fadeD; rw [hb]; rfl)
end
end My

namespace My
open PySem PySem.Spec PyProof.Rows L2
theorem for_enumT {K : PySem.W.Frag} {a : Addr} {xs : List V} {g : TG} {tb : L2.TS} {D : Ends} {σ : L2.St} {H : Hp} (Pv : Nat → L2.St → Hp → Prop) (h0 : Pv 0 σ H)
    (still : ∀ i σ H, i ≤ xs.length → Pv i σ H → SqT K H a xs)
    (turn : ∀ i x σ H T, xs[i]? = some x → Pv i σ H → H T = none → g (.ref T) σ (upd H T (.tup [.int (i : Nat), x])) fun σ2 H2 => tb { D with nx := Pv (i + 1), ct := Pv (i + 1), bk := D.nx } σ2 H2)
    (fin : ∀ σ H, Pv xs.length σ H → D.nx σ H) :
    ∃ W : Nat → Nat → L2.St → Hp → Prop, (∃ m, W 0 m σ H) ∧ ∀ i m σ H, W i m σ H →
      ((Itu K a).stop i H ∧ D.nx σ H) ∨ ((Itu K a).go i H ∧ ∃ N : L2.St → Hp → Prop, (∀ σ' H', N σ' H' → ∃ m', m' < m ∧ W (i + 1) m' σ' H') ∧ ∀ x H', (Itu K a).yld i H x H' → g x σ H' fun σ2 H2 => tb { D with nx := N, ct := N, bk := D.nx } σ2 H2) := by
  refine ⟨fun i m σ H => m + i = xs.length ∧ Pv i σ H, ⟨xs.length, by omega, h0⟩, ?_⟩
  rintro i m σ H ⟨hm, p⟩
  have q := still i σ H (by omega) p
  rcases Nat.lt_or_ge i xs.length with hlt | hge
  · refine Or.inr ⟨⟨xs, xs[i], q, List.getElem?_eq_getElem hlt⟩, Pv (i + 1), fun σ' H' p' => ⟨m - 1, by omega, by omega, p'⟩, ?_⟩
    rintro v H' ⟨T, x, rfl, hT, rfl, hx⟩
    exact turn i x σ H T (hx xs q) p hT
  · have e : i = xs.length := by omega
    exact Or.inl ⟨⟨xs, q, e.symm⟩, fin σ H (e ▸ p)⟩
theorem st_tail {t u : L2.TS} {D : Ends} {σ : L2.St} {H : Hp} (R : L2.St → Hp → Prop) (hR : ∀ σ H, R σ H → u D σ H)
    (h : (∀ σ H, R σ H → u D σ H) → t { D with nx := u D } σ H) : tSeq t u D σ H := h hR
/-- the place of the first thing of which p does not hold -/
def badAt (p : PyData → Bool) : Nat → List PyData → Option Nat
  | _, [] => none
  | i, d :: r => if p d = true then badAt p (i + 1) r else some i
theorem badAt_step {p : PyData → Bool} {ds : List PyData} {i : Nat} {d : PyData} (h : ds[i]? = some d) : badAt p i (ds.drop i) = if p d = true then badAt p (i + 1) (ds.drop (i + 1)) else some i := by
  have hi := (List.getElem?_eq_some_iff.mp h).1
  have e : ds.drop i = d :: ds.drop (i + 1) := by
    rw [List.drop_eq_getElem_cons hi]
    rw [List.getElem?_eq_getElem hi] at h
    rw [Option.some.inj h]
  rw [e]
  rfl
def noOr : Option Nat → PyData
  | none => .none
  | some i => .int i
def faultD (s : Str) : Option Nat → PyData
  | none => .none
  | some i => .tuple [.str s, .int i]
def rowF (s : Str) (lo hi : Int) (p : PyData → Bool) (d : PyData) : PyData := match d with
  | .tuple ds => if tupD (.tuple ds) lo hi = true then faultD s (badAt p 0 ds) else .tuple [.str s, .none]
  | _ => .tuple [.str s, .none]
def stepsF : PyData → PyData := rowF "steps" 1 16 (btw · 1 9999)
def movesF : PyData → PyData := rowF "moves" 2 16 moveD
theorem upd_tup {K : PySem.W.Frag} {H : Hp} {p : Addr} {xs : List V} : SqT K (upd H p (.tup xs)) p xs := .inl (.inl upd_same)
section
variable {P : Program} {w : World} {K : PySem.W.Frag} {mg : Str → Option Value} {base : Heap}
/-- hands back a thing that is f of the argument -/
def spF (K : PySem.W.Frag) (f : PyData → PyData) : Sp := fun vs H Q _ => ∃ (x : V) (d : PyData), vs = [x] ∧ Dp K H x d ∧ ∀ z H', Same H H' → Dp K H' z (f d) → Q z H'
theorem ok_fault_of_steps (T : Txt K mg) : FnOk P w K mg base CX0 3 T.f__fault_of_steps T.d__fault_of_steps ["steps"] (spF K stepsF) := by
  refine T.F__fault_of_steps.ok sc_fault_of_steps (fun vs H Q E h => ?_) (fun cdv A outer s H vs Q E hr h => ?_)
  · obtain ⟨x, d, rfl, _⟩ := h
    rfl
  · obtain ⟨x, d, rfl, hd, q⟩ := h
    have q' : ∀ z H' e, Same H H' → stepsF d = e → Dp K H' z e → Q z H' := fun z H' e s ee hz => q z H' s (ee ▸ hz)
    refine ⟨_,
(pss_cons (ps_if (pt_not (pt_val (pe_call (ok_is_tuple_of T) (hr.mono (by decide)) (by rfl) T.g__is_tuple_of T.F__is_tuple_of.kp T.b__is_tuple_of .nil pass0 (pa_cons (pv 0) (pa_cons pe_int (pa_cons pe_int pa_nil)))))) (pss_one (ps_ret (pe_tup (pa_cons pe_str (pa_cons pe_non pa_nil))))) pss_nil)
      (pss_cons (ps_for PassesOwn.never rfl (My.pi_enumT (by rfl) T.z_enumerate (pa_cons (pv 0) pa_nil)) (pg_tup (by rfl) (pgs_cons (pg_name (i := 1) sc_fault_of_steps.nd rfl (Or.inl rfl)) (pgs_cons (pg_name (i := 2) sc_fault_of_steps.nd rfl (Or.inl rfl)) pgs_nil))) (pss_one (ps_if (pt_not (pt_val (pe_call (ok_is_between T) (hr.mono (by decide)) (by rfl) T.g_is_between T.F_is_between.kp T.b_is_between .nil pass0 (pa_cons (pv 2) (pa_cons pe_int (pa_cons pe_int pa_nil)))))) (pss_one (ps_ret (pe_tup (pa_cons pe_str (pa_cons (pv 1) pa_nil))))) pss_nil)))
      (pss_one (ps_ret pe_non))))
, ?_⟩
    refine ⟨x, rfl, x, d, 1, 16, rfl, hd, fun H1 s1 => ⟨_, rfl, ?_⟩⟩
    cases hb : tupD d 1 16 with
    | false =>
      refine iteT ?_
      refine ⟨by decide, fun p hp => ?_⟩
      refine q' _ _ _ (s1.trans (same_new hp)) ?_ (.tup upd_tup (.cons (.str _) (.cons .non .nil)))
      unfold stepsF rowF
      split
      · rw [hb]; rfl
      · rfl
    | true =>
      refine iteF ?_
      obtain ⟨ds, rfl⟩ : ∃ ds, d = .tuple ds := by
        cases d with
        | tuple ds => exact ⟨ds, rfl⟩
        | _ => cases hb
      obtain ⟨a, xs, rfl, ha, hds⟩ := dp_tup hd
      have hF : stepsF (.tuple ds) = faultD "steps" (badAt (btw · 1 9999) 0 ds) := by
        show (if _ then _ else _) = _
        rw [if_pos hb]
      refine ⟨.ref a, rfl, a, xs, rfl, same_tup s1 ha, ?_⟩
      refine for_enumT (K := K) (a := a) (xs := xs) (fun i σ H' => ∃ y1 y2, σ = [some (.ref a), y1, y2] ∧ Same H H' ∧ badAt (btw · 1 9999) 0 ds = badAt (btw · 1 9999) i (ds.drop i)) ⟨none, none, rfl, s1, rfl⟩ ?_ ?_ ?_
      · rintro i σ H' _ ⟨_, _, _, s2, _⟩
        exact same_tup s2 ha
      · rintro i v σ H' p hi ⟨y1, y2, rfl, s2, hbad⟩ hp
        obtain ⟨dv, hdv, hv⟩ := dpAll_get hds hi
        rw [badAt_step hdv] at hbad
        have s3 := s2.trans (same_new (o := .tup [.int (i : Nat), v]) hp)
        refine ⟨p, _, rfl, upd_tup, rfl, _, _, rfl, _, _, rfl, rfl, ?_⟩
        refine ⟨_, rfl, v, dv, 1, 9999, rfl, dp_same s3 _ _ hv, fun H2 s4 => ⟨_, rfl, ?_⟩⟩
        cases hg : btw dv 1 9999 with
        | true =>
          refine iteF ?_
          rw [hg] at hbad
          exact ⟨_, _, rfl, s3.trans s4, hbad⟩
        | false =>
          refine iteT ?_
          rw [hg] at hbad
          refine ⟨_, rfl, by show 2 ≤ sizeLine; decide, fun p2 hp2 => ?_⟩
          refine q' _ _ _ ((s3.trans s4).trans (same_new hp2)) (hF.trans ?_) (.tup upd_tup (.cons (.str _) (.cons (.int _) .nil)))
          rw [hbad]
          rfl
      · rintro σ H' ⟨y1, y2, rfl, s2, hbad⟩
        refine q' _ _ _ s2 (hF.trans ?_) .non
        rw [hbad, dpAll_len hds, List.drop_length]
        rfl
theorem ok_fault_of_moves (T : Txt K mg) : FnOk P w K mg base CX0 4 T.f__fault_of_moves T.d__fault_of_moves ["moves"] (spF K movesF) := by
  refine T.F__fault_of_moves.ok sc_fault_of_moves (fun vs H Q E h => ?_) (fun cdv A outer s H vs Q E hr h => ?_)
  · obtain ⟨x, d, rfl, _⟩ := h
    rfl
  · obtain ⟨x, d, rfl, hd, q⟩ := h
    have q' : ∀ z H' e, Same H H' → movesF d = e → Dp K H' z e → Q z H' := fun z H' e s ee hz => q z H' s (ee ▸ hz)
    refine ⟨_,
(pss_cons (ps_if (pt_not (pt_val (pe_call (ok_is_tuple_of T) (hr.mono (by decide)) (by rfl) T.g__is_tuple_of T.F__is_tuple_of.kp T.b__is_tuple_of .nil pass0 (pa_cons (pv 0) (pa_cons pe_int (pa_cons pe_int pa_nil)))))) (pss_one (ps_ret (pe_tup (pa_cons pe_str (pa_cons pe_non pa_nil))))) pss_nil)
      (pss_cons (ps_for PassesOwn.never rfl (My.pi_enumT (by rfl) T.z_enumerate (pa_cons (pv 0) pa_nil)) (pg_tup (by rfl) (pgs_cons (pg_name (i := 1) sc_fault_of_moves.nd rfl (Or.inl rfl)) (pgs_cons (pg_name (i := 2) sc_fault_of_moves.nd rfl (Or.inl rfl)) pgs_nil))) (pss_one (ps_if (pt_not (pt_val (pe_call (ok_is_move T) (hr.mono (by decide)) (by rfl) T.g__is_move T.F__is_move.kp T.b__is_move .nil pass0 (pa_cons (pv 2) pa_nil)))) (pss_one (ps_ret (pe_tup (pa_cons pe_str (pa_cons (pv 1) pa_nil))))) pss_nil)))
      (pss_one (ps_ret pe_non))))
, ?_⟩
    refine ⟨x, rfl, x, d, 2, 16, rfl, hd, fun H1 s1 => ⟨_, rfl, ?_⟩⟩
    cases hb : tupD d 2 16 with
    | false =>
      refine iteT ?_
      refine ⟨by decide, fun p hp => ?_⟩
      refine q' _ _ _ (s1.trans (same_new hp)) ?_ (.tup upd_tup (.cons (.str _) (.cons .non .nil)))
      unfold movesF rowF
      split
      · rw [hb]; rfl
      · rfl
    | true =>
      refine iteF ?_
      obtain ⟨ds, rfl⟩ : ∃ ds, d = .tuple ds := by
        cases d with
        | tuple ds => exact ⟨ds, rfl⟩
        | _ => cases hb
      obtain ⟨a, xs, rfl, ha, hds⟩ := dp_tup hd
      have hF : movesF (.tuple ds) = faultD "moves" (badAt moveD 0 ds) := by
        show (if _ then _ else _) = _
        rw [if_pos hb]
      refine ⟨.ref a, rfl, a, xs, rfl, same_tup s1 ha, ?_⟩
      refine for_enumT (K := K) (a := a) (xs := xs) (fun i σ H' => ∃ y1 y2, σ = [some (.ref a), y1, y2] ∧ Same H H' ∧ badAt moveD 0 ds = badAt moveD i (ds.drop i)) ⟨none, none, rfl, s1, rfl⟩ ?_ ?_ ?_
      · rintro i σ H' _ ⟨_, _, _, s2, _⟩
        exact same_tup s2 ha
      · rintro i v σ H' p hi ⟨y1, y2, rfl, s2, hbad⟩ hp
        obtain ⟨dv, hdv, hv⟩ := dpAll_get hds hi
        rw [badAt_step hdv] at hbad
        have s3 := s2.trans (same_new (o := .tup [.int (i : Nat), v]) hp)
        refine ⟨p, _, rfl, upd_tup, rfl, _, _, rfl, _, _, rfl, rfl, ?_⟩
        refine ⟨_, rfl, v, dv, rfl, dp_same s3 _ _ hv, fun H2 s4 => ⟨_, rfl, ?_⟩⟩
        cases hg : moveD dv with
        | true =>
          refine iteF ?_
          rw [hg] at hbad
          exact ⟨_, _, rfl, s3.trans s4, hbad⟩
        | false =>
          refine iteT ?_
          rw [hg] at hbad
          refine ⟨_, rfl, by show 2 ≤ sizeLine; decide, fun p2 hp2 => ?_⟩
          refine q' _ _ _ ((s3.trans s4).trans (same_new hp2)) (hF.trans ?_) (.tup upd_tup (.cons (.str _) (.cons (.int _) .nil)))
          rw [hbad]
          rfl
      · rintro σ H' ⟨y1, y2, rfl, s2, hbad⟩
        refine q' _ _ _ s2 (hF.trans ?_) .non
        rw [hbad, dpAll_len hds, List.drop_length]
        rfl
/-- the five things -/
def codF (low high steps moves fade : PyData) : PyData :=
  if btw low (-32768) 0 = true then
    if btw high 0 32767 = true then
      match stepsF steps with
      | .none => (match movesF moves with
        | .none => if fadeD fade = true then .none else .tuple [.str "fade", .none]
        | e => e)
      | e => e
    else .tuple [.str "high", .none]
  else .tuple [.str "low", .none]
def firstF : PyData → PyData
  | .tuple [low, high, steps, moves, fade] => codF low high steps moves fade
  | _ => .tuple [.str "form", .none]
def isN : PyData → Bool
  | .none => true
  | _ => false
theorem dp_isN {K : PySem.W.Frag} {H : Hp} {z : V} {e : PyData} (h : Dp K H z e) : decide (z = V.non) = isN e := by
  cases h <;> rfl
theorem len5 {ds : List PyData} (h : ds.length = 5) : ∃ a b c d e, ds = [a, b, c, d, e] := by
  match ds, h with
  | [a, b, c, d, e], _ => exact ⟨a, b, c, d, e, rfl⟩
theorem dpAll5 {K : PySem.W.Frag} {H : Hp} {xs : List V} {a b c d e : PyData} (h : DpAll K H xs [a, b, c, d, e]) : ∃ x1 x2 x3 x4 x5, xs = [x1, x2, x3, x4, x5] ∧ Dp K H x1 a ∧ Dp K H x2 b ∧ Dp K H x3 c ∧ Dp K H x4 d ∧ Dp K H x5 e := by
  cases h with
  | cons h1 h => cases h with
    | cons h2 h => cases h with
      | cons h3 h => cases h with
        | cons h4 h => cases h with
          | cons h5 h => cases h with
            | nil => exact ⟨_, _, _, _, _, rfl, h1, h2, h3, h4, h5⟩
theorem ok_first_fault (T : Txt K mg) : FnOk P w K mg base CX0 5 T.f__first_fault T.d__first_fault ["thing"] (spF K firstF) := by
  refine T.F__first_fault.ok sc_first_fault (fun vs H Q E h => ?_) (fun cdv A outer s H vs Q E hr h => ?_)
  · obtain ⟨x, d, rfl, _⟩ := h
    rfl
  · obtain ⟨x, d, rfl, hd, q⟩ := h
    have q' : ∀ z H' e, Same H H' → firstF d = e → Dp K H' z e → Q z H' := fun z H' e s ee hz => q z H' s (ee ▸ hz)
    refine ⟨_,
(pss_cons (ps_if (PW.pt (pw_or (pt_not (pt_val (pe_callB (call_isi) (by rfl) T.z_isinstance (by decide +kernel) (pa_cons (pv 0) (pa_cons (pe_bltn (v := .ty "tuple") (by rfl) T.z_tuple (by decide +kernel) rfl) pa_nil))))) (pw_or1 (pt_cmpR op_ne (pe_callB (call_len_seq) (by rfl) T.z_len (by decide +kernel) (pa_cons (pv 0) pa_nil)) pe_int (nomark _))))) (pss_one (ps_ret (pe_tup (pa_cons pe_str (pa_cons pe_non pa_nil))))) pss_nil)
      (pss_cons (ps_asg (pv 0) (pg_tup (by rfl) (pgs_cons (pg_name (i := 1) sc_first_fault.nd rfl (Or.inl rfl)) (pgs_cons (pg_name (i := 2) sc_first_fault.nd rfl (Or.inl rfl)) (pgs_cons (pg_name (i := 3) sc_first_fault.nd rfl (Or.inl rfl)) (pgs_cons (pg_name (i := 4) sc_first_fault.nd rfl (Or.inl rfl)) (pgs_cons (pg_name (i := 5) sc_first_fault.nd rfl (Or.inl rfl)) pgs_nil)))))))
      (pss_cons (ps_if (pt_not (pt_val (pe_call (ok_is_between T) (hr.mono (by decide)) (by rfl) T.g_is_between T.F_is_between.kp T.b_is_between .nil pass0 (pa_cons (pv 1) (pa_cons (pe_un un_neg pe_int) (pa_cons pe_int pa_nil)))))) (pss_one (ps_ret (pe_tup (pa_cons pe_str (pa_cons pe_non pa_nil))))) pss_nil)
      (pss_cons (ps_if (pt_not (pt_val (pe_call (ok_is_between T) (hr.mono (by decide)) (by rfl) T.g_is_between T.F_is_between.kp T.b_is_between .nil pass0 (pa_cons (pv 2) (pa_cons pe_int (pa_cons pe_int pa_nil)))))) (pss_one (ps_ret (pe_tup (pa_cons pe_str (pa_cons pe_non pa_nil))))) pss_nil)
      (pss_cons (ps_set (i := 6) sc_first_fault.nd rfl (Or.inl rfl) (pe_call (ok_fault_of_steps T) (hr.mono (by decide)) (by rfl) T.g__fault_of_steps T.F__fault_of_steps.kp T.b__fault_of_steps .nil pass0 (pa_cons (pv 3) pa_nil)))
      (pss_cons (ps_if (pt_cmpR op_isN (pv 6) pe_non (nomark _)) (pss_one (ps_set (i := 6) sc_first_fault.nd rfl (Or.inl rfl) (pe_call (ok_fault_of_moves T) (hr.mono (by decide)) (by rfl) T.g__fault_of_moves T.F__fault_of_moves.kp T.b__fault_of_moves .nil pass0 (pa_cons (pv 4) pa_nil)))) pss_nil)
      (pss_cons (ps_if (PW.pt (pw_and (pt_cmpR op_isN (pv 6) pe_non (nomark _)) (pw_and1 (pt_not (pt_val (pe_call (ok_is_fade T) (hr.mono (by decide)) (by rfl) T.g__is_fade T.F__is_fade.kp T.b__is_fade .nil pass0 (pa_cons (pv 5) pa_nil))))))) (pss_one (ps_set (i := 6) sc_first_fault.nd rfl (Or.inl rfl) (pe_tup (pa_cons pe_str (pa_cons pe_non pa_nil))))) pss_nil)
      (pss_one (ps_ret (pv 6))))))))))
, ?_⟩
    refine ⟨x, rfl, x, .ty "tuple", _, _, _, rfl, .ty _, tyx hd, kitT d, _, rfl, ?_⟩
    -- no tuple of five things
    have bad : (∀ a b c e f, d ≠ .tuple [a, b, c, e, f]) → ∀ H1, Same H H1 → ([V.str "form", V.non].length ≤ sizeLine ∧ ∀ p, H1 p = none → Q (.ref p) (upd H1 p (.tup [V.str "form", V.non]))) := fun nd H1 s1 => by
      refine ⟨by decide, fun p hp => q' _ _ _ (s1.trans (same_new hp)) ?_ (.tup upd_tup (.cons (.str _) (.cons .non .nil)))⟩
      unfold firstF
      split
      · exact absurd rfl (nd _ _ _ _ _)
      · rfl
    cases hT : isT d with
    | false =>
      refine iteT ?_
      exact bad (fun a b c e f z => by rw [z] at hT; cases hT) H (Same.refl H)
    | true =>
      refine iteF ?_
      obtain ⟨ds, rfl⟩ : ∃ ds, d = .tuple ds := by
        cases d with
        | tuple ds => exact ⟨ds, rfl⟩
        | _ => cases hT
      obtain ⟨a, xs, rfl, ha, hds⟩ := dp_tup hd
      refine ⟨_, rfl, a, xs, rfl, .inr ha, rfl, _, rfl, ?_⟩
      have hl := dpAll_len hds
      by_cases h5 : ds.length = 5
      · have e5 : decide (V.int (xs.length : Int) = V.int 5) = true := by rw [hl, h5]; rfl
        rw [e5]
        refine iteF ?_
        obtain ⟨low, high, steps, moves, fade, rfl⟩ := len5 h5
        obtain ⟨x1, x2, x3, x4, x5, rfl, d1, d2, d3, d4, d5⟩ := dpAll5 hds
        have hF : firstF (.tuple [low, high, steps, moves, fade]) = codF low high steps moves fade := rfl
        rw [hF] at q'
        refine ⟨_, rfl, a, _, rfl, ha, rfl, _, _, rfl, _, _, rfl, _, _, rfl, _, _, rfl, _, _, rfl, rfl, ?_⟩
        refine ⟨_, rfl, 32768, rfl, x1, low, -32768, 0, rfl, d1, fun H1 s1 => ⟨_, rfl, ?_⟩⟩
        cases b1 : btw low (-32768) 0 with
        | false =>
          refine iteT ?_
          refine ⟨by decide, fun p hp => q' _ _ _ (s1.trans (same_new hp)) ?_ (.tup upd_tup (.cons (.str "low") (.cons .non .nil)))⟩
          unfold codF
          rw [b1]
          rfl
        | true =>
        refine iteF ?_
        refine ⟨_, rfl, x2, high, 0, 32767, rfl, dp_same s1 _ _ d2, fun H2 s2 => ⟨_, rfl, ?_⟩⟩
        have s12 := s1.trans s2
        cases b2 : btw high 0 32767 with
        | false =>
          refine iteT ?_
          refine ⟨by decide, fun p hp => q' _ _ _ (s12.trans (same_new hp)) ?_ (.tup upd_tup (.cons (.str "high") (.cons .non .nil)))⟩
          unfold codF
          rw [b1, b2]
          rfl
        | true =>
        refine iteF ?_
        refine ⟨_, rfl, x3, steps, rfl, dp_same s12 _ _ d3, fun z1 H3 s3 hz1 => ?_⟩
        have s13 := s12.trans s3
        dsimp only
        refine st_tail (fun σ H' => ∃ (z : V) (e : PyData), σ = [some (.ref a), some x1, some x2, some x3, some x4, some x5, some z] ∧ Same H H' ∧ Dp K H' z e ∧
          codF low high steps moves fade = (if isN e = true then (if fadeD fade = true then .none else .tuple [.str "fade", .none]) else e)) ?_ fun tail => ?_
        · rintro σ H4 ⟨z, e, rfl, s4, hz, he⟩
          refine ⟨_, rfl, rfl, _, rfl, ?_⟩
          show if decide (z = V.non) = true then _ else _
          rw [dp_isN hz]
          cases hn : isN e with
          | false =>
            refine iteF ?_
            refine iteF ?_
            refine ⟨_, rfl, q' _ _ _ s4 ?_ hz⟩
            rw [he, hn]
            rfl
          | true =>
            refine iteT ?_
            refine ⟨_, rfl, x5, fade, rfl, dp_same s4 _ _ d5, fun H5 s5 => ⟨_, rfl, ?_⟩⟩
            cases hf : fadeD fade with
            | true =>
              refine iteF ?_
              have en : e = .none := by
                cases e with
                | none => rfl
                | _ => cases hn
              refine ⟨_, rfl, q' _ _ _ (s4.trans s5) ?_ (dp_same s5 _ _ hz)⟩
              rw [he, hn, hf, en]
              rfl
            | false =>
              refine iteT ?_
              refine ⟨by decide, fun p hp => ⟨_, rfl, q' _ _ _ ((s4.trans s5).trans (same_new hp)) ?_ (.tup upd_tup (.cons (.str "fade") (.cons .non .nil)))⟩⟩
              rw [he, hn, hf]
              rfl
        refine ⟨_, rfl, rfl, _, rfl, ?_⟩
        show if decide (z1 = V.non) = true then _ else _
        rw [dp_isN hz1]
        have hC : codF low high steps moves fade = (match stepsF steps with
          | .none => (match movesF moves with
            | .none => if fadeD fade = true then .none else .tuple [.str "fade", .none]
            | e => e)
          | e => e) := by
          unfold codF
          rw [b1, b2]
          rfl
        cases hn : isN (stepsF steps) with
        | false =>
          refine iteF ?_
          refine tail _ _ ⟨z1, stepsF steps, rfl, s13, hz1, ?_⟩
          rw [hC, hn]
          cases e : stepsF steps with
          | none => rw [e] at hn; cases hn
          | _ => rfl
        | true =>
          refine iteT ?_
          refine ⟨_, rfl, x4, moves, rfl, dp_same s13 _ _ d4, fun z2 H4 s4 hz2 => ?_⟩
          refine tail _ _ ⟨z2, movesF moves, rfl, s13.trans s4, hz2, ?_⟩
          rw [hC]
          have en : stepsF steps = .none := by
            cases e : stepsF steps with
            | none => rfl
            | _ => rw [e] at hn; cases hn
          rw [en]
          cases movesF moves <;> rfl
      · have e5 : decide (V.int (xs.length : Int) = V.int 5) = false := by
          rw [hl]
          refine decide_eq_false fun z => h5 ?_
          have := V.int.inj z
          omega
        rw [e5]
        refine iteT ?_
        exact bad (fun a b c e f z => by cases z; exact h5 rfl) H (Same.refl H)
end
end My

/-! the program's own errors: made, raised, caught, told -/
namespace My
open PySem PySem.Spec PyProof.Rows L2
theorem made1 {H : Hp} {a d : Addr} {o1 o2 o3 o5 : HO} (h : H a = none) (n : d ≠ a) : upd (del (upd (upd (upd H a o1) d o2) a o3) a) d o5 = upd H d o5 := by
  funext b
  show (if b = d then some o5 else if b = a then none else if b = a then some o3 else if b = d then some o2 else if b = a then some o1 else H b) = if b = d then some o5 else H b
  by_cases e : b = d
  · rw [if_pos e, if_pos e]
  · simp only [if_neg e]
    by_cases e2 : b = a
    · simp only [if_pos e2]
      rw [e2, h]
    · simp only [if_neg e2]
theorem made2 {H : Hp} {a d : Addr} {o1 o2 o3 o4 o5 : HO} (h : H a = none) (n : d ≠ a) : upd (del (upd (upd (upd (upd H a o1) d o2) a o3) d o4) a) d o5 = upd H d o5 := by
  funext b
  show (if b = d then some o5 else if b = a then none else if b = d then some o4 else if b = a then some o3 else if b = d then some o2 else if b = a then some o1 else H b) = if b = d then some o5 else H b
  by_cases e : b = d
  · rw [if_pos e, if_pos e]
  · rw [if_neg e, if_neg e]
    by_cases e2 : b = a
    · rw [if_pos e2, e2, h, if_neg (fun z => e (e2.trans z))]
    · rw [if_neg e2, if_neg e, if_neg e2, if_neg e, if_neg e2]
/-- refusals: without fields; with one; with two -/
def NilE (C : Addr) (H : Hp) (E : XK) : Prop := ∀ H', Same H H' → E (.ref C) none H'
theorem NilE.same {C : Addr} {H H' : Hp} {E : XK} (s : Same H H') (h : NilE C H E) : NilE C H' E := fun H'' s' => h H'' (s.trans s')
def OneE (C : Addr) (f : Str) (H : Hp) (E : XK) (x : V) : Prop := ∀ d H', Same H H' → H' d = some (.xd [(f, x)]) → E (.ref C) (some d) H'
theorem OneE.same {C : Addr} {f : Str} {H H' : Hp} {E : XK} {x : V} (s : Same H H') (h : OneE C f H E x) : OneE C f H' E x := fun d H'' s' hd => h d H'' (s.trans s') hd
theorem oneE_mk {C : Addr} {f : Str} {H : Hp} {E : XK} {x : V} (h : OneE C f H E x) {a d : Addr} {o1 o2 o3 : HO} (ha : H a = none) (hd : upd H a o1 d = none) (n : d ≠ a) :
    E (.ref C) (some d) (upd (del (upd (upd (upd H a o1) d o2) a o3) a) d (.xd [(f, x)])) := by
  rw [made1 ha n]
  have h0 : H d = none := (upd_ne n).symm.trans hd
  exact h d _ (same_new h0) upd_same
def TwoE (C : Addr) (f g : Str) (H : Hp) (E : XK) (x y : V) : Prop := ∀ d H', Same H H' → H' d = some (.xd [(g, y), (f, x)]) → E (.ref C) (some d) H'
theorem TwoE.same {C : Addr} {f g : Str} {H H' : Hp} {E : XK} {x y : V} (s : Same H H') (h : TwoE C f g H E x y) : TwoE C f g H' E x y := fun d H'' s' hd => h d H'' (s.trans s') hd
theorem twoE_mk {C : Addr} {f g : Str} {H : Hp} {E : XK} {x y : V} (h : TwoE C f g H E x y) {a d : Addr} {o1 o2 o3 o4 : HO} (ha : H a = none) (hd : upd H a o1 d = none) (n : d ≠ a) :
    E (.ref C) (some d) (upd (del (upd (upd (upd (upd H a o1) d o2) a o3) d o4) a) d (.xd [(g, y), (f, x)])) := by
  rw [made2 ha n]
  have h0 : H d = none := (upd_ne n).symm.trans hd
  exact h d _ (same_new h0) upd_same
def sp_init0 (K : PySem.W.Frag) (C : Addr) : Sp := fun vs H Q _ => ∃ (a : Addr) (t : Str), vs = [.ref a, .str t] ∧ H a = some (exo a C none) ∧ Q .non H
def sp_init1 (C : Addr) (f : Str) : Sp := fun vs H Q _ => ∃ (a : Addr) (x : V), vs = [.ref a, x] ∧ H a = some (exo a C none) ∧
  ∀ dx, H dx = none → dx ≠ a → Q .non (upd (upd H dx (exd dx [(f, x)])) a (exo a C (some dx)))
def sp_init2 (C : Addr) (f1 f2 : Str) : Sp := fun vs H Q _ => ∃ (a : Addr) (x y : V), vs = [.ref a, x, y] ∧ H a = some (exo a C none) ∧
  ∀ dx, H dx = none → dx ≠ a → Q .non (upd (upd (upd H dx (exd dx [(f1, x)])) a (exo a C (some dx))) dx (exd dx [(f2, y), (f1, x)]))
section
variable {P : Program} {w : World} {K : PySem.W.Frag} {mg : Str → Option Value} {base : Heap}
theorem oki_BadCoder (T : Txt K mg) : FnOk P w K mg base CX0 2 T.fi_BadCoder T.di_BadCoder ["self", "part", "number"] (sp_init2 T.C_BadCoder "part" "number") := by
  refine T.Fi_BadCoder.ok sci_BadCoder (fun vs H Q E h => ?_) (fun cdv A outer s H vs Q E hr h => ?_)
  · obtain ⟨a, x, y, rfl, _⟩ := h
    rfl
  · obtain ⟨a, x, y, rfl, ha, q⟩ := h
    refine ⟨_, pss_cons (ps_ost (pv 0) (pv 1)) (pss_one (ps_ost (pv 0) (pv 2))), ?_⟩
    refine ⟨_, rfl, _, rfl, a, T.C_BadCoder, rfl, T.o_BadCoder, T.n_BadCoder_part, .inl ⟨ha, fun dx hdx ne => ?_⟩⟩
    refine ⟨_, rfl, _, rfl, a, T.C_BadCoder, rfl, T.o_BadCoder, T.n_BadCoder_number, .inr ⟨dx, _, upd_same, (upd_ne ne).trans upd_same, by show 1 ≤ 900; decide, q dx hdx ne⟩⟩
theorem oki_BadByte (T : Txt K mg) : FnOk P w K mg base CX0 2 T.fi_BadByte T.di_BadByte ["self", "number"] (sp_init1 T.C_BadByte "number") := by
  refine T.Fi_BadByte.ok sci_BadByte (fun vs H Q E h => ?_) (fun cdv A outer s H vs Q E hr h => ?_)
  · obtain ⟨a, x, rfl, _⟩ := h
    rfl
  · obtain ⟨a, x, rfl, ha, q⟩ := h
    refine ⟨_, pss_one (ps_ost (pv 0) (pv 1)), ?_⟩
    exact ⟨_, rfl, _, rfl, a, T.C_BadByte, rfl, T.o_BadByte, T.n_BadByte_number, .inl ⟨ha, fun dx hdx ne => q dx hdx ne⟩⟩
theorem oki_TooGreat (T : Txt K mg) : FnOk P w K mg base CX0 2 T.fi_TooGreat T.di_TooGreat ["self", "most"] (sp_init1 T.C_TooGreat "most") := by
  refine T.Fi_TooGreat.ok sci_TooGreat (fun vs H Q E h => ?_) (fun cdv A outer s H vs Q E hr h => ?_)
  · obtain ⟨a, x, rfl, _⟩ := h
    rfl
  · obtain ⟨a, x, rfl, ha, q⟩ := h
    refine ⟨_, pss_one (ps_put (pv 0) (pv 1)), ?_⟩
    exact ⟨_, rfl, _, rfl, a, T.C_TooGreat, rfl, T.o_TooGreat, T.n_TooGreat_most, ha, q⟩
end
end My

namespace My
open PySem PySem.Spec PyProof.Rows L2
/-! ### coders, states, the move of a code: the mathematics -/
structure Cod where
  low : Int
  high : Int
  steps : List Int
  moves : List (Int × Int)
  fade : Int
def pairI (p : Int × Int) : PyData := .tuple [.int p.1, .int p.2]
def Cod.dat (C : Cod) : PyData := .tuple [.int C.low, .int C.high, .tuple (C.steps.map .int), .tuple (C.moves.map pairI), .int C.fade]
structure Cod.Ok (C : Cod) : Prop where
  l1 : -32768 ≤ C.low
  l2 : C.low ≤ 0
  h1 : 0 ≤ C.high
  h2 : C.high ≤ 32767
  s1 : 1 ≤ C.steps.length
  s2 : C.steps.length ≤ 16
  s3 : ∀ s ∈ C.steps, 1 ≤ s ∧ s ≤ 9999
  m1 : 2 ≤ C.moves.length
  m2 : C.moves.length ≤ 16
  m3 : ∀ p ∈ C.moves, (-32 ≤ p.1 ∧ p.1 ≤ 32) ∧ (-15 ≤ p.2 ∧ p.2 ≤ 15)
  f1 : C.fade = 0 ∨ (2 ≤ C.fade ∧ C.fade ≤ 99)
def rnd (n d : Int) : Int := if n < 0 then -((-n).fdiv d) else n.fdiv d
def lim (n lo hi : Int) : Int := if n < lo then lo else if hi < n then hi else n
def fdd (l f : Int) : Int := if f = 0 then l else l - rnd l f
def Cod.chg (C : Cod) (k p : Nat) : Int := rnd ((C.moves.getD k (0, 0)).1 * C.steps.getD p 0) 8
def Cod.led (C : Cod) (s : Int × Int) (k : Nat) : Int × Int :=
  (lim (fdd s.1 C.fade + C.chg k s.2.toNat) C.low C.high, lim (s.2 + (C.moves.getD k (0, 0)).2) 0 ((C.steps.length : Int) - 1))
def Cod.St (C : Cod) (s : Int × Int) : Prop := C.low ≤ s.1 ∧ s.1 ≤ C.high ∧ 0 ≤ s.2 ∧ s.2 < C.steps.length
theorem lim_in {n lo hi : Int} (h : lo ≤ hi) : lo ≤ lim n lo hi ∧ lim n lo hi ≤ hi := by
  unfold lim
  split
  · omega
  · split <;> omega
theorem Cod.led_St {C : Cod} (O : C.Ok) (s : Int × Int) (k : Nat) : C.St (C.led s k) := by
  have h1 := lim_in (n := fdd s.1 C.fade + C.chg k s.2.toNat) (lo := C.low) (hi := C.high) (by have := O.l2; have := O.h1; omega)
  have h2 := lim_in (n := s.2 + (C.moves.getD k (0, 0)).2) (lo := 0) (hi := (C.steps.length : Int) - 1) (by have := O.s1; omega)
  exact ⟨h1.1, h1.2, h2.1, by show lim _ _ _ < _; omega⟩
theorem badAt_none {p : PyData → Bool} : ∀ {ds : List PyData} {i : Nat}, (∀ d ∈ ds, p d = true) → badAt p i ds = none
  | [], _, _ => rfl
  | d :: r, i, h => by
    show (if p d = true then badAt p (i + 1) r else some i) = none
    rw [if_pos (h d List.mem_cons_self)]
    exact badAt_none fun e he => h e (List.mem_cons_of_mem _ he)
theorem btw_in {n lo hi : Int} (h1 : lo ≤ n) (h2 : n ≤ hi) : btw (.int n) lo hi = true := by
  show (decide _ && decide _) = true
  rw [decide_eq_true h1, decide_eq_true h2]
  rfl
theorem tup_in {ds : List PyData} {lo hi : Int} (h1 : lo ≤ (ds.length : Int)) (h2 : (ds.length : Int) ≤ hi) : tupD (.tuple ds) lo hi = true := by
  show (decide _ && decide _) = true
  rw [decide_eq_true h1, decide_eq_true h2]
  rfl
theorem Cod.Ok.first {C : Cod} (O : C.Ok) : firstF C.dat = .none := by
  have e1 : stepsF (.tuple (C.steps.map .int)) = .none := by
    show (if _ then _ else _) = _
    rw [if_pos (tup_in (by rw [List.length_map]; have := O.s1; omega) (by rw [List.length_map]; have := O.s2; omega)), badAt_none]
    · rfl
    · intro d hd
      obtain ⟨s, hs, rfl⟩ := List.mem_map.mp hd
      exact btw_in (O.s3 s hs).1 (O.s3 s hs).2
  have e2 : movesF (.tuple (C.moves.map pairI)) = .none := by
    show (if _ then _ else _) = _
    rw [if_pos (tup_in (by rw [List.length_map]; have := O.m1; omega) (by rw [List.length_map]; have := O.m2; omega)), badAt_none]
    · rfl
    · intro d hd
      obtain ⟨p, hp, rfl⟩ := List.mem_map.mp hd
      obtain ⟨⟨a1, a2⟩, b1, b2⟩ := O.m3 p hp
      show (btw (.int p.1) (-32) 32 && btw (.int p.2) (-15) 15) = true
      rw [btw_in a1 a2, btw_in b1 b2]
      rfl
  have e3 : fadeD (.int C.fade) = true := by
    unfold fadeD
    rcases O.f1 with h | ⟨h1, h2⟩
    · rw [btw_in (by omega) (by omega)]
      rfl
    · rw [btw_in h1 h2, Bool.or_true]
  show codF (.int C.low) (.int C.high) (.tuple (C.steps.map .int)) (.tuple (C.moves.map pairI)) (.int C.fade) = .none
  unfold codF
  rw [if_pos (btw_in O.l1 O.l2), if_pos (btw_in O.h1 O.h2), e1, e2, if_pos e3]
theorem dpAll_ints {K : PySem.W.Frag} {H : Hp} : ∀ {ns : List Int} {xs : List V}, DpAll K H xs (ns.map .int) → xs = ns.map V.int
  | [], _, h => by cases h; rfl
  | n :: r, _, h => by
    cases h with
    | cons a b =>
      cases a
      rw [dpAll_ints b]
      rfl
theorem dp_int {K : PySem.W.Frag} {H : Hp} {v : V} {n : Int} (h : Dp K H v (.int n)) : v = .int n := by
  cases h
  rfl
theorem dpAll2 {K : PySem.W.Frag} {H : Hp} {xs : List V} {a b : PyData} (h : DpAll K H xs [a, b]) : ∃ x1 x2, xs = [x1, x2] ∧ Dp K H x1 a ∧ Dp K H x2 b := by
  cases h with
  | cons h1 h => cases h with
    | cons h2 h => cases h with
      | nil => exact ⟨_, _, rfl, h1, h2⟩
theorem dp_pair {K : PySem.W.Frag} {H : Hp} {v : V} {p : Int × Int} (h : Dp K H v (pairI p)) : ∃ a, v = .ref a ∧ SqT K H a [.int p.1, .int p.2] := by
  obtain ⟨a, xs, rfl, ha, hd⟩ := dp_tup h
  obtain ⟨x1, x2, rfl, h1, h2⟩ := dpAll2 hd
  rw [dp_int h1, dp_int h2] at ha
  exact ⟨a, rfl, ha⟩
/-- a coder's parts -/
theorem cod_at {K : PySem.W.Frag} {H : Hp} {c : V} {C : Cod} (h : Dp K H c C.dat) : ∃ (a s m : Addr) (ms : List V), c = .ref a ∧ SqT K H a [.int C.low, .int C.high, .ref s, .ref m, .int C.fade] ∧
    SqT K H s (C.steps.map V.int) ∧ SqT K H m ms ∧ DpAll K H ms (C.moves.map pairI) := by
  obtain ⟨a, xs, rfl, ha, hd⟩ := dp_tup h
  obtain ⟨x1, x2, x3, x4, x5, rfl, h1, h2, h3, h4, h5⟩ := dpAll5 hd
  obtain ⟨s, ys, rfl, hs, hsd⟩ := dp_tup h3
  obtain ⟨m, ms, rfl, hm, hmd⟩ := dp_tup h4
  rw [dp_int h1, dp_int h2, dp_int h5] at ha
  rw [dpAll_ints hsd] at hs
  exact ⟨a, s, m, ms, rfl, ha, hs, hm, hmd⟩
theorem move_at {K : PySem.W.Frag} {H : Hp} {C : Cod} {ms : List V} (h : DpAll K H ms (C.moves.map pairI)) {k : Nat} (hk : k < C.moves.length) :
    ∃ q, ms[k]? = some (.ref q) ∧ SqT K H q [.int (C.moves.getD k (0, 0)).1, .int (C.moves.getD k (0, 0)).2] := by
  have e : (C.moves.map pairI)[k]? = some (pairI (C.moves.getD k (0, 0))) := by
    rw [List.getElem?_map, List.getElem?_eq_getElem hk, List.getD_eq_getElem?_getD, List.getElem?_eq_getElem hk]
    rfl
  obtain ⟨x, hx, hd⟩ := dpAll_get' h e
  obtain ⟨q, rfl, hq⟩ := dp_pair hd
  exact ⟨q, hx, hq⟩
theorem step_at {C : Cod} {p : Nat} (hp : p < C.steps.length) : (C.steps.map V.int)[p]? = some (.int (C.steps.getD p 0)) := by
  rw [List.getElem?_map, List.getElem?_eq_getElem hp, List.getD_eq_getElem?_getD, List.getElem?_eq_getElem hp]
  rfl
theorem btw_out {d : PyData} {lo hi : Int} (h : btw d lo hi = true) : ∃ n, d = .int n ∧ lo ≤ n ∧ n ≤ hi := by
  cases d with
  | int n =>
    obtain ⟨a, b⟩ := Bool.and_eq_true_iff.mp (show (decide (lo ≤ n) && decide (n ≤ hi)) = true from h)
    exact ⟨n, rfl, of_decide_eq_true a, of_decide_eq_true b⟩
  | _ => cases h
theorem badAt_all {p : PyData → Bool} : ∀ {ds : List PyData} {i : Nat}, badAt p i ds = none → ∀ d ∈ ds, p d = true
  | [], _, _, _, hd => by cases hd
  | d :: r, i, h, e, he => by
    have h : (if p d = true then badAt p (i + 1) r else some i) = none := h
    by_cases q : p d = true
    · rw [if_pos q] at h
      rcases List.mem_cons.mp he with z | z
      · rw [z]; exact q
      · exact badAt_all h e z
    · rw [if_neg q] at h
      cases h
theorem badAt_lt {p : PyData → Bool} : ∀ {ds : List PyData} {i k : Nat}, badAt p i ds = some k → k < i + ds.length
  | [], _, _, h => by cases h
  | d :: r, i, k, h => by
    have h : (if p d = true then badAt p (i + 1) r else some i) = some k := h
    rw [List.length_cons]
    by_cases e : p d = true
    · rw [if_pos e] at h
      have := badAt_lt h
      omega
    · rw [if_neg e] at h
      cases h
      omega
/-- a fault's form: nothing, or a short word and nothing or a small number -/
def Flt (e : PyData) : Prop := e = .none ∨ ∃ s : Str, s ∈ (["form", "low", "high", "steps", "moves", "fade"] : List Str) ∧ (e = .tuple [.str s, .none] ∨ ∃ k : Nat, k ≤ 16 ∧ e = .tuple [.str s, .int (k : Int)])
theorem rowF_flt {s : Str} {lo hi : Int} {p : PyData → Bool} (hs : s ∈ (["form", "low", "high", "steps", "moves", "fade"] : List Str)) (hh : hi ≤ 16) (d : PyData) : Flt (rowF s lo hi p d) := by
  cases d with
  | tuple ds =>
    show Flt (if tupD (.tuple ds) lo hi = true then faultD s (badAt p 0 ds) else .tuple [.str s, .none])
    by_cases h : tupD (.tuple ds) lo hi = true
    · rw [if_pos h]
      cases e : badAt p 0 ds with
      | none => exact .inl rfl
      | some k =>
        have h1 := badAt_lt e
        have h2 := of_decide_eq_true (Bool.and_eq_true_iff.mp (show (decide (lo ≤ (ds.length : Int)) && decide ((ds.length : Int) ≤ hi)) = true from h)).2
        exact .inr ⟨s, hs, .inr ⟨k, by omega, rfl⟩⟩
    · rw [if_neg h]
      exact .inr ⟨s, hs, .inl rfl⟩
  | _ => exact .inr ⟨s, hs, .inl rfl⟩
theorem stepsF_flt (d : PyData) : Flt (stepsF d) := rowF_flt (by decide +kernel) (by decide) d
theorem movesF_flt (d : PyData) : Flt (movesF d) := rowF_flt (by decide +kernel) (by decide) d
theorem codF_flt (a b c d e : PyData) : Flt (codF a b c d e) := by
  unfold codF
  by_cases h1 : btw a (-32768) 0 = true
  · rw [if_pos h1]
    by_cases h2 : btw b 0 32767 = true
    · rw [if_pos h2]
      rcases stepsF_flt c with z | ⟨s, hs, z | ⟨k, hk, z⟩⟩
      · rw [z]
        rcases movesF_flt d with y | ⟨s, hs, y | ⟨k, hk, y⟩⟩
        · rw [y]
          dsimp only
          by_cases h3 : fadeD e = true
          · rw [if_pos h3]; exact .inl rfl
          · rw [if_neg h3]; exact .inr ⟨"fade", by decide +kernel, .inl rfl⟩
        · rw [y]; exact .inr ⟨s, hs, .inl rfl⟩
        · rw [y]; exact .inr ⟨s, hs, .inr ⟨k, hk, rfl⟩⟩
      · rw [z]; exact .inr ⟨s, hs, .inl rfl⟩
      · rw [z]; exact .inr ⟨s, hs, .inr ⟨k, hk, rfl⟩⟩
    · rw [if_neg h2]; exact .inr ⟨"high", by decide +kernel, .inl rfl⟩
  · rw [if_neg h1]; exact .inr ⟨"low", by decide +kernel, .inl rfl⟩
theorem firstF_flt (d : PyData) : Flt (firstF d) := by
  unfold firstF
  split
  · exact codF_flt ..
  · exact .inr ⟨"form", by decide +kernel, .inl rfl⟩
theorem rowF_none {s : Str} {lo hi : Int} {p : PyData → Bool} {d : PyData} (h : rowF s lo hi p d = .none) : ∃ ds, d = .tuple ds ∧ lo ≤ (ds.length : Int) ∧ (ds.length : Int) ≤ hi ∧ ∀ e ∈ ds, p e = true := by
  cases d with
  | tuple ds =>
    have h : (if tupD (.tuple ds) lo hi = true then faultD s (badAt p 0 ds) else .tuple [.str s, .none]) = .none := h
    by_cases q : tupD (.tuple ds) lo hi = true
    · rw [if_pos q] at h
      obtain ⟨a, b⟩ := Bool.and_eq_true_iff.mp (show (decide (lo ≤ (ds.length : Int)) && decide ((ds.length : Int) ≤ hi)) = true from q)
      cases e : badAt p 0 ds with
      | none => exact ⟨ds, rfl, of_decide_eq_true a, of_decide_eq_true b, badAt_all e⟩
      | some k => rw [e] at h; cases h
    · rw [if_neg q] at h
      cases h
  | _ => cases h
theorem ints_of {lo hi : Int} : ∀ {ds : List PyData}, (∀ e ∈ ds, btw e lo hi = true) → ∃ ns : List Int, ds = ns.map .int ∧ ∀ n ∈ ns, lo ≤ n ∧ n ≤ hi
  | [], _ => ⟨[], rfl, fun _ h => by cases h⟩
  | d :: r, h => by
    obtain ⟨n, rfl, h1, h2⟩ := btw_out (h d List.mem_cons_self)
    obtain ⟨ns, rfl, hn⟩ := ints_of fun e he => h e (List.mem_cons_of_mem _ he)
    refine ⟨n :: ns, rfl, fun k hk => ?_⟩
    rcases List.mem_cons.mp hk with z | z
    · rw [z]; exact ⟨h1, h2⟩
    · exact hn k z
theorem pairs_of : ∀ {ds : List PyData}, (∀ e ∈ ds, moveD e = true) → ∃ ps : List (Int × Int), ds = ps.map pairI ∧ ∀ p ∈ ps, (-32 ≤ p.1 ∧ p.1 ≤ 32) ∧ (-15 ≤ p.2 ∧ p.2 ≤ 15)
  | [], _ => ⟨[], rfl, fun _ h => by cases h⟩
  | d :: r, h => by
    obtain ⟨ps, rfl, hn⟩ := pairs_of fun e he => h e (List.mem_cons_of_mem _ he)
    have hd := h d List.mem_cons_self
    obtain ⟨a, b, rfl, h1, h2⟩ : ∃ a b, d = .tuple [a, b] ∧ btw a (-32) 32 = true ∧ btw b (-15) 15 = true := by
      unfold moveD at hd
      split at hd
      · exact ⟨_, _, rfl, Bool.and_eq_true_iff.mp hd⟩
      · cases hd
    obtain ⟨x, rfl, x1, x2⟩ := btw_out h1
    obtain ⟨y, rfl, y1, y2⟩ := btw_out h2
    refine ⟨(x, y) :: ps, rfl, fun k hk => ?_⟩
    rcases List.mem_cons.mp hk with z | z
    · rw [z]; exact ⟨⟨x1, x2⟩, y1, y2⟩
    · exact hn k z
/-- what has no fault is a coder -/
theorem firstF_cod {d : PyData} (h : firstF d = .none) : ∃ C : Cod, C.Ok ∧ d = C.dat := by
  unfold firstF at h
  split at h
  · rename_i a b c e f
    unfold codF at h
    by_cases h1 : btw a (-32768) 0 = true
    · rw [if_pos h1] at h
      by_cases h2 : btw b 0 32767 = true
      · rw [if_pos h2] at h
        cases hs : stepsF c with
        | none =>
          rw [hs] at h
          dsimp only at h
          cases hm : movesF e with
          | none =>
            rw [hm] at h
            dsimp only at h
            by_cases h3 : fadeD f = true
            · obtain ⟨low, rfl, a1, a2⟩ := btw_out h1
              obtain ⟨high, rfl, b1, b2⟩ := btw_out h2
              obtain ⟨ds, rfl, d1, d2, d3⟩ := rowF_none hs
              obtain ⟨ns, rfl, hn⟩ := ints_of d3
              obtain ⟨es, rfl, e1, e2, e3⟩ := rowF_none hm
              obtain ⟨ps, rfl, hp⟩ := pairs_of e3
              rw [List.length_map] at d1 d2 e1 e2
              obtain ⟨n, rfl, f1⟩ : ∃ n, f = .int n ∧ (n = 0 ∨ (2 ≤ n ∧ n ≤ 99)) := by
                unfold fadeD at h3
                rcases Bool.or_eq_true_iff.mp h3 with z | z
                · obtain ⟨n, rfl, z1, z2⟩ := btw_out z
                  exact ⟨n, rfl, .inl (by omega)⟩
                · obtain ⟨n, rfl, z1, z2⟩ := btw_out z
                  exact ⟨n, rfl, .inr ⟨z1, z2⟩⟩
              exact ⟨⟨low, high, ns, ps, n⟩, ⟨a1, a2, b1, b2, by show 1 ≤ ns.length; omega, by show ns.length ≤ 16; omega, hn, by show 2 ≤ ps.length; omega, by show ps.length ≤ 16; omega, hp, f1⟩, rfl⟩
            · rw [if_neg h3] at h
              cases h
          | _ => rw [hm] at h; cases h
        | _ => rw [hs] at h; cases h
      · rw [if_neg h2] at h
        cases h
    · rw [if_neg h1] at h
      cases h
  · cases h
section
variable {P : Program} {w : World} {K : PySem.W.Frag} {mg : Str → Option Value} {base : Heap}
/-- the two fields of a fault -/
inductive FltV : PyData → V → V → Prop
  | non (s : Str) : FltV (.tuple [.str s, .none]) (.str s) .non
  | int (s : Str) (k : Int) : FltV (.tuple [.str s, .int k]) (.str s) (.int k)
def sp_need_coder (K : PySem.W.Frag) (B : Addr) : Sp := fun vs H Q E => ∃ (x : V) (d : PyData), vs = [x] ∧ Dp K H x d ∧ (firstF d = .none → ∀ H', Same H H' → Q x H') ∧
  (∀ y z, FltV (firstF d) y z → TwoE B "part" "number" H E y z)
theorem ok_need_coder (T : Txt K mg) : FnOk P w K mg base (L2.CX P w) 6 T.f_need_coder T.d_need_coder ["thing"] (sp_need_coder K T.C_BadCoder) := by
  refine T.F_need_coder.okX sc_need_coder (fun vs H Q E h => ?_) (fun cdv A outer s H vs Q E hr h => ?_)
  · obtain ⟨x, d, rfl, _⟩ := h
    rfl
  · obtain ⟨x, d, rfl, hd, q1, q2⟩ := h
    refine ⟨_,
(pss_cons (ps_set (i := 1) sc_need_coder.nd rfl (Or.inl rfl) (pe_call (ok_first_fault T) (hr.mono (by decide)) (by rfl) T.g__first_fault T.F__first_fault.kp T.b__first_fault .nil pass0 (pa_cons (pv 0) pa_nil)))
      (pss_cons (ps_if (pt_cmpR op_notN (pv 1) pe_non (nomark _)) (pss_one (ps_raise rfl (takes_of rfl rfl rfl rfl) (pmk_oex T.o_BadCoder T.i_BadCoder T.t_BadCoder (oki_BadCoder T) (hr.mono (by decide)) T.bi_BadCoder .nil pass0 (by rfl) T.g_BadCoder (pa_cons (pe_ix ix_tup (pv 1) pe_int (fun _ _ => rfl)) (pa_cons (pe_ix ix_tup (pv 1) pe_int (fun _ _ => rfl)) pa_nil))))) pss_nil)
      (pss_one (ps_ret (pv 0)))))
, ?_⟩
    refine ⟨x, rfl, x, d, rfl, hd, fun z H1 s1 hz => ?_⟩
    refine ⟨_, rfl, rfl, _, rfl, ?_⟩
    show if (!decide (z = V.non)) = true then _ else _
    rw [dp_isN hz]
    rcases firstF_flt d with e | ⟨s, _, e | ⟨k, _, e⟩⟩
    · rw [e]
      refine iteF ?_
      exact ⟨x, rfl, q1 e H1 s1⟩
    · rw [e] at hz q2 ⊢
      refine iteT ?_
      obtain ⟨a, xs, rfl, ha, hds⟩ := dp_tup hz
      obtain ⟨x1, x2, rfl, h1, h2⟩ := dpAll2 hds
      cases h1
      cases h2
      exact ⟨_, rfl, a, _, 0, _, rfl, rfl, ha, atI_nat (j := 0) rfl, _, rfl, a, _, 1, _, rfl, rfl, ha, atI_nat (j := 1) rfl, by show 2 ≤ 1000; decide, fun b hb => ⟨b, _, _, rfl, upd_same, fun dd hd n =>
        ⟨rfl, dd, _, (upd_ne n.symm).trans upd_same, upd_same, (upd_ne n).symm.trans hd, twoE_mk ((q2 _ _ (.non s)).same s1) hb hd n⟩⟩⟩
    · rw [e] at hz q2 ⊢
      refine iteT ?_
      obtain ⟨a, xs, rfl, ha, hds⟩ := dp_tup hz
      obtain ⟨x1, x2, rfl, h1, h2⟩ := dpAll2 hds
      cases h1
      cases h2
      exact ⟨_, rfl, a, _, 0, _, rfl, rfl, ha, atI_nat (j := 0) rfl, _, rfl, a, _, 1, _, rfl, rfl, ha, atI_nat (j := 1) rfl, by show 2 ≤ 1000; decide, fun b hb => ⟨b, _, _, rfl, upd_same, fun dd hd n =>
        ⟨rfl, dd, _, (upd_ne n.symm).trans upd_same, upd_same, (upd_ne n).symm.trans hd, twoE_mk ((q2 _ _ (.int s _)).same s1) hb hd n⟩⟩⟩
def stateD (C : Cod) : PyData → Bool
  | .tuple [a, b] => btw a C.low C.high && btw b 0 ((C.steps.length : Int) - 1)
  | _ => false
theorem pairD_two {d : PyData} (h : pairD d = true) : ∃ a b, d = .tuple [a, b] := by
  cases d with
  | tuple ds =>
    match ds, h with
    | [a, b], _ => exact ⟨a, b, rfl⟩
    | [], hp => cases hp
    | [a], hp => cases hp
    | a :: b :: c :: r, hp =>
      have := of_decide_eq_true (show decide (((a :: b :: c :: r).length : Int) = 2) = true from hp)
      simp at this
      omega
  | _ => cases h
end
end My

namespace My
open PySem PySem.Spec PyProof.Rows L2
theorem lim_of {n lo hi : Int} (h : lo ≤ hi) : (if (if hi < n then hi else n) > lo then (if hi < n then hi else n) else lo) = lim n lo hi := by
  unfold lim
  split <;> split <;> split <;> omega
section
variable {P : Program} {w : World} {K : PySem.W.Frag} {mg : Str → Option Value} {base : Heap}
theorem okD0 {x qual : Str} {params : Arguments} {body : List Stmt} {scope : Scope} {dvs : List V} {f : Addr} {fd : FuncData} {N ps : List Str} {k : Nat} {sp : Sp}
    (F : ∃ q : Addr, FunD K x qual params body scope dvs [("state", V.ref q)] f fd) (S : FnScope N ps scope) (len : ∀ vs H Q E, sp vs H Q E → vs.length = ps.length)
    (hbody : ∀ (cdv : Value) (A : Around) (outer : List Env) (s : Shared) (H : Hp) (vs : List V) (Q : VK) (E : XK), Room k (A.deeper (envOfC qual scope s.heap.objs.size f cdv)) → sp vs H Q E →
      ∃ t, PSs (cxOf CX0 P w K mg base N qual scope f cdv A outer s H E).nox body t ∧ t { nx := fun _ H' => Q .non H', rt := Q } (start N vs) H) : FnOk P w K mg base CX0 (k + 1) f fd ps sp := by
  obtain ⟨q, F⟩ := F
  refine F.ok S len fun cdv A outer s H vs Q E hr h => ?_
  obtain ⟨t, ht, hq⟩ := hbody cdv A outer s H vs Q E hr h
  exact ⟨t, ht.nox, hq⟩
def sp_rounded : Sp := fun vs H Q _ => ∃ (n d : Int), vs = [.int n, .int d] ∧ 0 < d ∧ d < 1000 ∧ Q (.int (rnd n d)) H
theorem ok_rounded (T : Txt K mg) : FnOk P w K mg base CX0 2 T.f_rounded T.d_rounded ["number", "divisor"] sp_rounded := by
  refine T.F_rounded.ok sc_rounded (fun vs H Q E h => ?_) (fun cdv A outer s H vs Q E hr h => ?_)
  · obtain ⟨n, d, rfl, _⟩ := h
    rfl
  · obtain ⟨n, d, rfl, h1, h2, q⟩ := h
    have q' : ∀ z, rnd n d = z → Q (.int z) H := fun z e => e ▸ q
    refine ⟨_,
(pss_cons (ps_if (pt_cmpR op_lt (pv 0) pe_int (nomark _)) (pss_one (ps_ret (pe_un un_neg (pe_op op_fdivN (pe_un un_neg (pv 0)) (pv 1))))) pss_nil)
      (pss_one (ps_ret (pe_op op_fdivN (pv 0) (pv 1)))))
, ?_⟩
    refine ⟨_, rfl, n, 0, rfl, rfl, _, rfl, ?_⟩
    refine ite2 (fun e => ?_) (fun e => ?_)
    · have e := of_decide_eq_true e
      refine ⟨_, rfl, n, rfl, _, rfl, -n, d, rfl, rfl, ⟨by omega, by omega⟩, _, rfl, q' _ ?_⟩
      unfold rnd
      rw [if_pos e]
    · have e : ¬ n < 0 := fun z => e (decide_eq_true z)
      refine ⟨_, rfl, _, rfl, n, d, rfl, rfl, ⟨by omega, by omega⟩, q' _ ?_⟩
      unfold rnd
      rw [if_neg e]
def sp_limited : Sp := fun vs H Q _ => ∃ (n lo hi : Int), vs = [.int n, .int lo, .int hi] ∧ lo ≤ hi ∧ Q (.int (lim n lo hi)) H
theorem ok_limited (T : Txt K mg) : FnOk P w K mg base CX0 2 T.f_limited T.d_limited ["number", "least", "most"] sp_limited := by
  refine T.F_limited.ok sc_limited (fun vs H Q E h => ?_) (fun cdv A outer s H vs Q E hr h => ?_)
  · obtain ⟨n, lo, hi, rfl, _⟩ := h
    rfl
  · obtain ⟨n, lo, hi, rfl, h1, q⟩ := h
    refine ⟨_,
(pss_one (ps_ret (pe_callB (call_max2 rfl) (by rfl) T.z_max (by decide +kernel) (pa_cons (pv 1) (pa_cons (pe_callB (call_min2 rfl) (by rfl) T.z_min (by decide +kernel) (pa_cons (pv 0) (pa_cons (pv 2) pa_nil))) pa_nil)))))
, ?_⟩
    refine ⟨_, rfl, _, rfl, _, rfl, n, hi, rfl, lo, _, rfl, ?_⟩
    have e := lim_of (n := n) h1
    show Q (.int (if (if hi < n then hi else n) > lo then (if hi < n then hi else n) else lo)) H
    rw [e]
    exact q
def sp_change_at (K : PySem.W.Frag) : Sp := fun vs H Q _ => ∃ (c : V) (C : Cod) (k p : Nat), vs = [c, .int k, .int p] ∧ C.Ok ∧ Dp K H c C.dat ∧ k < C.moves.length ∧ p < C.steps.length ∧ Q (.int (C.chg k p)) H
theorem ok_change_at (T : Txt K mg) : FnOk P w K mg base CX0 3 T.f_change_at T.d_change_at ["coder", "code", "place"] (sp_change_at K) := by
  refine T.F_change_at.ok sc_change_at (fun vs H Q E h => ?_) (fun cdv A outer s H vs Q E hr h => ?_)
  · obtain ⟨c, C, k, p, rfl, _⟩ := h
    rfl
  · obtain ⟨c, C, k, p, rfl, O, hc, hk, hp, q⟩ := h
    obtain ⟨a, s, m, ms, rfl, ha, hs, hm, hmd⟩ := cod_at hc
    obtain ⟨t, ht, hT⟩ := move_at hmd hk
    refine ⟨_,
(pss_cons (ps_set (i := 3) sc_change_at.nd rfl (Or.inl rfl) (pe_ix ix_tup (pe_ix ix_tup (pe_ix ix_tup (pv 0) pe_int (fun _ _ => rfl)) (pv 1) (fun _ _ => rfl)) pe_int (fun _ _ => rfl)))
      (pss_one (ps_ret (pe_call (ok_rounded T) (hr.mono (by decide)) (by rfl) T.g_rounded T.F_rounded.kp T.b_rounded .nil pass0 (pa_cons (pe_op op_mul (pv 3) (pe_ix ix_tup (pe_ix ix_tup (pv 0) pe_int (fun _ _ => rfl)) (pv 2) (fun _ _ => rfl))) (pa_cons pe_int pa_nil))))))
, ?_⟩
    refine ⟨_, rfl, a, _, 3, _, rfl, rfl, ha, atI_nat (j := 3) rfl, _, rfl, m, _, k, _, rfl, rfl, hm, atI_nat ht, t, _, 0, _, rfl, rfl, hT, atI_nat (j := 0) rfl, ?_⟩
    refine ⟨_, rfl, _, rfl, a, _, 2, _, rfl, rfl, ha, atI_nat (j := 2) rfl, _, rfl, s, _, p, _, rfl, rfl, hs, atI_nat (step_at hp), _, _, rfl, rfl, ?_, ?_⟩
    · have hm3 : (C.moves.getD k (0, 0)) ∈ C.moves := by
        rw [List.getD_eq_getElem?_getD, List.getElem?_eq_getElem hk]
        exact List.getElem_mem hk
      have := O.m3 _ hm3
      exact .inl ⟨by omega, by omega⟩
    exact ⟨_, 8, rfl, by decide, by decide, q⟩
def sp_faded : Sp := fun vs H Q _ => ∃ (l f : Int), vs = [.int l, .int f] ∧ (f = 0 ∨ (2 ≤ f ∧ f ≤ 99)) ∧ Q (.int (fdd l f)) H
theorem ok_faded (T : Txt K mg) : FnOk P w K mg base CX0 3 T.f_faded T.d_faded ["level", "fade"] sp_faded := by
  refine T.F_faded.ok sc_faded (fun vs H Q E h => ?_) (fun cdv A outer s H vs Q E hr h => ?_)
  · obtain ⟨l, f, rfl, _⟩ := h
    rfl
  · obtain ⟨l, f, rfl, h1, q⟩ := h
    have q' : ∀ z, fdd l f = z → Q (.int z) H := fun z e => e ▸ q
    refine ⟨_,
(pss_cons (ps_if (pt_cmpR op_eq (pv 1) pe_int (nomark _)) (pss_one (ps_ret (pv 0))) pss_nil)
      (pss_one (ps_ret (pe_op op_sub (pv 0) (pe_call (ok_rounded T) (hr.mono (by decide)) (by rfl) T.g_rounded T.F_rounded.kp T.b_rounded .nil pass0 (pa_cons (pv 0) (pa_cons (pv 1) pa_nil)))))))
, ?_⟩
    refine ⟨_, rfl, rfl, _, rfl, ?_⟩
    refine ite2 (fun e => ?_) (fun e => ?_)
    · have e : f = 0 := V.int.inj (of_decide_eq_true e)
      refine ⟨_, rfl, q' _ ?_⟩
      unfold fdd
      rw [if_pos e]
    · have e : ¬ f = 0 := fun z => e (decide_eq_true (by rw [z]))
      refine ⟨_, rfl, _, rfl, _, rfl, l, f, rfl, by omega, by omega, _, _, rfl, rfl, q' _ ?_⟩
      unfold fdd
      rw [if_neg e]
def sd (s : Int × Int) : PyData := pairI s
/-- a state's pair, as it is read -/
def sp_state_behind (K : PySem.W.Frag) : Sp := fun vs H Q _ => ∃ (c x : V) (C : Cod) (s : Int × Int) (k : Nat), vs = [c, x, .int k] ∧ C.Ok ∧ Dp K H c C.dat ∧ Dp K H x (pairI s) ∧ C.St s ∧ k < C.moves.length ∧
  ∀ p, H p = none → Q (.ref p) (upd H p (.tup [.int (C.led s k).1, .int (C.led s k).2]))
set_option maxHeartbeats 4000000 in
theorem ok_state_behind (T : Txt K mg) : FnOk P w K mg base CX0 4 T.f_state_behind T.d_state_behind ["coder", "state", "code"] (sp_state_behind K) := by
  refine T.F_state_behind.ok sc_state_behind (fun vs H Q E h => ?_) (fun cdv A outer s H vs Q E hr h => ?_)
  · obtain ⟨c, x, C, s, k, rfl, _⟩ := h
    rfl
  · obtain ⟨c, x, C, st, k, rfl, O, hc, hx, hst, hk, q⟩ := h
    have hc' := hc
    obtain ⟨a, s, m, ms, rfl, ha, hs, hm, hmd⟩ := cod_at hc
    obtain ⟨t, ht, hT⟩ := move_at hmd hk
    obtain ⟨b, rfl, hb⟩ := dp_pair hx
    obtain ⟨i1, i2, i3, i4⟩ := hst
    refine ⟨_,
(pss_cons (ps_asg (pv 0) (pg_tup (by rfl) (pgs_cons (pg_name (i := 3) sc_state_behind.nd rfl (Or.inl rfl)) (pgs_cons (pg_name (i := 4) sc_state_behind.nd rfl (Or.inl rfl)) (pgs_cons (pg_name (i := 5) sc_state_behind.nd rfl (Or.inl rfl)) (pgs_cons (pg_name (i := 6) sc_state_behind.nd rfl (Or.inl rfl)) (pgs_cons (pg_name (i := 7) sc_state_behind.nd rfl (Or.inl rfl)) pgs_nil)))))))
      (pss_cons (ps_asg (pv 1) (pg_tup (by rfl) (pgs_cons (pg_name (i := 8) sc_state_behind.nd rfl (Or.inl rfl)) (pgs_cons (pg_name (i := 9) sc_state_behind.nd rfl (Or.inl rfl)) pgs_nil))))
      (pss_cons (ps_set (i := 10) sc_state_behind.nd rfl (Or.inl rfl) (pe_ix ix_tup (pe_ix ix_tup (pv 6) (pv 2) (fun _ _ => rfl)) pe_int (fun _ _ => rfl)))
      (pss_cons (ps_set (i := 11) sc_state_behind.nd rfl (Or.inl rfl) (pe_op op_add (pe_call (ok_faded T) (hr.mono (by decide)) (by rfl) T.g_faded T.F_faded.kp T.b_faded .nil pass0 (pa_cons (pv 8) (pa_cons (pv 7) pa_nil))) (pe_call (ok_change_at T) (hr.mono (by decide)) (by rfl) T.g_change_at T.F_change_at.kp T.b_change_at .nil pass0 (pa_cons (pv 0) (pa_cons (pv 2) (pa_cons (pv 9) pa_nil))))))
      (pss_one (ps_ret (pe_tup (pa_cons (pe_call (ok_limited T) (hr.mono (by decide)) (by rfl) T.g_limited T.F_limited.kp T.b_limited .nil pass0 (pa_cons (pv 11) (pa_cons (pv 3) (pa_cons (pv 4) pa_nil)))) (pa_cons (pe_call (ok_limited T) (hr.mono (by decide)) (by rfl) T.g_limited T.F_limited.kp T.b_limited .nil pass0 (pa_cons (pe_op op_add (pv 9) (pv 10)) (pa_cons pe_int (pa_cons (pe_op op_sub (pe_callB (call_len_seq) (by rfl) T.z_len (by decide +kernel) (pa_cons (pv 5) pa_nil)) pe_int) pa_nil)))) pa_nil)))))))))
, ?_⟩
    refine ⟨_, rfl, a, _, rfl, ha, rfl, _, _, rfl, _, _, rfl, _, _, rfl, _, _, rfl, _, _, rfl, rfl, ?_⟩
    refine ⟨_, rfl, b, _, rfl, hb, rfl, _, _, rfl, _, _, rfl, rfl, ?_⟩
    refine ⟨_, rfl, _, rfl, m, _, k, _, rfl, rfl, hm, atI_nat ht, t, _, 1, _, rfl, rfl, hT, atI_nat (j := 1) rfl, ?_⟩
    refine ⟨_, rfl, _, rfl, st.1, C.fade, rfl, O.f1, ?_⟩
    have e2 : st.2 = (st.2.toNat : Int) := by omega
    refine ⟨_, rfl, _, rfl, _, rfl, .ref a, C, k, st.2.toNat, by show [V.ref a, V.int k, V.int st.2] = _; rw [← e2], O, hc', hk, by omega, _, _, rfl, rfl, ?_⟩
    refine ⟨_, rfl, _, rfl, _, rfl, _, _, _, rfl, by have := O.l2; have := O.h1; omega, ?_⟩
    refine ⟨.int st.2, rfl, .int (C.moves.getD k (0, 0)).2, rfl, st.2, (C.moves.getD k (0, 0)).2, rfl, rfl, .ref s, rfl, s, C.steps.map V.int, rfl, .inr hs, ((C.steps.map V.int).length : Int), 1, rfl, rfl, ?_⟩
    refine ⟨st.2 + (C.moves.getD k (0, 0)).2, 0, ((C.steps.map V.int).length : Int) - 1, rfl, ?_, ?_⟩
    · show (0 : Int) ≤ ((C.steps.map V.int).length : Int) - 1
      rw [List.length_map]
      have := O.s1
      omega
    refine ⟨by show 2 ≤ sizeLine; decide, fun p hp => ?_⟩
    have := q p hp
    unfold Cod.led at this
    have e : ((C.steps.map V.int).length : Int) = (C.steps.length : Int) := by rw [List.length_map]
    rw [← e] at this
    exact this
end
end My

namespace My
open PySem PySem.Spec PyProof.Rows L2
def Cod.run (C : Cod) (s : Int × Int) : List Nat → Int × Int
  | [] => s
  | k :: r => Cod.run C (C.led s k) r
def Cod.lev (C : Cod) (s : Int × Int) : List Nat → List Int
  | [] => []
  | k :: r => (C.led s k).1 :: Cod.lev C (C.led s k) r
theorem run_snoc {C : Cod} : ∀ (r : List Nat) (s : Int × Int) (k : Nat), C.run s (r ++ [k]) = C.led (C.run s r) k
  | [], _, _ => rfl
  | j :: r, s, k => run_snoc r (C.led s j) k
theorem run_app {C : Cod} : ∀ (r : List Nat) (s : Int × Int) (q : List Nat), C.run s (r ++ q) = C.run (C.run s r) q
  | [], _, _ => rfl
  | j :: r, s, q => run_app r (C.led s j) q
theorem lev_snoc {C : Cod} : ∀ (r : List Nat) (s : Int × Int) (k : Nat), C.lev s (r ++ [k]) = C.lev s r ++ [(C.led (C.run s r) k).1]
  | [], _, _ => rfl
  | j :: r, s, k => by
    show (C.led s j).1 :: C.lev (C.led s j) (r ++ [k]) = _
    rw [lev_snoc r (C.led s j) k]
    rfl
theorem lev_app {C : Cod} : ∀ (r : List Nat) (s : Int × Int) (q : List Nat), C.lev s (r ++ q) = C.lev s r ++ C.lev (C.run s r) q
  | [], _, _ => rfl
  | j :: r, s, q => by
    show (C.led s j).1 :: C.lev (C.led s j) (r ++ q) = _
    rw [lev_app r (C.led s j) q]
    rfl
theorem lev_len {C : Cod} : ∀ (r : List Nat) (s : Int × Int), (C.lev s r).length = r.length
  | [], _ => rfl
  | j :: r, s => congrArg (· + 1) (lev_len r (C.led s j))
theorem run_St {C : Cod} (O : C.Ok) : ∀ (r : List Nat) {s : Int × Int}, C.St s → C.St (C.run s r)
  | [], _, h => h
  | k :: r, s, _ => run_St O r (C.led_St O s k)
theorem lev_in {C : Cod} (O : C.Ok) : ∀ (r : List Nat) (s : Int × Int), ∀ z ∈ C.lev s r, C.low ≤ z ∧ z ≤ C.high
  | [], _, _, h => by cases h
  | k :: r, s, z, h => by
    rcases List.mem_cons.mp h with e | e
    · rw [e]
      have := C.led_St O s k
      exact ⟨this.1, this.2.1⟩
    · exact lev_in O r _ z e
def rowI (r : List Nat) : PyData := .tuple (r.map fun k : Nat => PyData.int (k : Int))
def rowV (r : List Nat) : List V := r.map fun k : Nat => V.int (k : Int)
structure Cod.Row (C : Cod) (r : List Nat) : Prop where
  len : r.length ≤ 2000
  lt : ∀ k ∈ r, k < C.moves.length
theorem Cod.St.ok {C : Cod} {s : Int × Int} (h : C.St s) : stateD C (pairI s) = true := by
  show (btw (.int s.1) _ _ && btw (.int s.2) _ _) = true
  rw [btw_in h.1 h.2.1, btw_in h.2.2.1 (by have := h.2.2.2; omega)]
  rfl
theorem dpAll_row {K : PySem.W.Frag} {H : Hp} : ∀ {r : List Nat} {xs : List V}, DpAll K H xs (r.map fun k : Nat => PyData.int (k : Int)) → xs = rowV r
  | [], _, h => by cases h; rfl
  | n :: r, _, h => by
    cases h with
    | cons a b =>
      cases a
      rw [dpAll_row b]
      rfl
theorem row_at {K : PySem.W.Frag} {H : Hp} {v : V} {r : List Nat} (h : Dp K H v (rowI r)) : ∃ a, v = .ref a ∧ SqT K H a (rowV r) := by
  obtain ⟨a, xs, rfl, ha, hd⟩ := dp_tup h
  rw [dpAll_row hd] at ha
  exact ⟨a, rfl, ha⟩
theorem rowV_get {r : List Nat} {i : Nat} {x : V} (h : (rowV r)[i]? = some x) : ∃ k, r[i]? = some k ∧ x = .int (k : Int) := by
  unfold rowV at h
  rw [List.getElem?_map] at h
  cases e : r[i]? with
  | none => rw [e] at h; cases h
  | some k => rw [e] at h; exact ⟨k, rfl, (Option.some.inj h).symm⟩
theorem take_snoc {α : Type} {r : List α} {i : Nat} {k : α} (h : r[i]? = some k) : r.take (i + 1) = r.take i ++ [k] := by
  rw [List.take_add_one, h]
  rfl
/-- a tuple stands while a list is changed -/
theorem sqt_set {K : PySem.W.Frag} {H : Hp} {p a : Addr} {ys xs : List V} {o : HO} (hp : H p = some (.lst ys)) (h : SqT K H a xs) : SqT K (upd H p o) a xs := by
  rcases h with (h | ⟨u, h⟩) | h
  · exact .inl (.inl ((upd_ne (ne_of h hp nofun)).trans h))
  · exact .inl (.inr ⟨u, (upd_ne (ne_of h hp nofun)).trans h⟩)
  · exact .inr h
theorem dp_mkpair {K : PySem.W.Frag} {H : Hp} {a : Addr} {s : Int × Int} (h : SqT K H a [.int s.1, .int s.2]) : Dp K H (.ref a) (pairI s) := .tup h (.cons (.int _) (.cons (.int _) .nil))
theorem dp_tints {K : PySem.W.Frag} {H : Hp} {a : Addr} {ns : List Int} (h : SqT K H a (ns.map V.int)) : Dp K H (.ref a) (.tuple (ns.map .int)) := by
  refine .tup h ?_
  clear h
  induction ns with
  | nil => exact .nil
  | cons n r ih => exact .cons (.int n) ih
end My

namespace My
open PySem PySem.Spec PyProof.Rows L2
theorem dg_l {H : Hp} {m c l : Addr} {k : Int} (h : H m = some (.dK (dd c l k))) : DGet H m (.str "left") (some (.ref l)) := by
  have e := DGet.k (k := .inr "left") h
  rw [dd_l] at e
  exact e
theorem dg_c {H : Hp} {m c l : Addr} {k : Int} (h : H m = some (.dK (dd c l k))) : DGet H m (.str "cells") (some (.ref c)) := by
  have e := DGet.k (k := .inr "cells") h
  rw [dd_c] at e
  exact e
theorem dg_a {H : Hp} {m c l : Addr} {k : Int} (h : H m = some (.dK (dd c l k))) : DGet H m (.str "at") (some (.int k)) := by
  have e := DGet.k (k := .inr "at") h
  rw [dd_a] at e
  exact e
theorem dp_l {H : Hp} {m c l p : Addr} {k : Int} (h : H m = some (.dK (dd c l k))) : DPut H m (.str "left") (.ref p) (upd H m (.dK (dd c p k))) := by
  have e := DPut.k (k := .inr "left") (v := .ref p) h (by show 3 < sizeLine; decide)
  rw [dd_pl] at e
  exact e
theorem dp_a {H : Hp} {m c l : Addr} {k z : Int} (h : H m = some (.dK (dd c l k))) : DPut H m (.str "at") (.int z) (upd H m (.dK (dd c l z))) := by
  have e := DPut.k (k := .inr "at") (v := .int z) h (by show 3 < sizeLine; decide)
  rw [dd_pa] at e
  exact e
def pis (ns : List Int) : List PyData := ns.map .int
theorem dp_ints {K : PySem.W.Frag} {H : Hp} : ∀ ns : List Int, DpAll K H (ns.map V.int) (pis ns)
  | [] => .nil
  | n :: r => .cons (.int n) (dp_ints r)
theorem lay_ints : ∀ ns : List Int, PyData.canLayAll0 (pis ns) = true ∧ PyData.depthAll (pis ns) = 0
  | [] => ⟨rfl, rfl⟩
  | n :: r => by
    obtain ⟨h1, h2⟩ := lay_ints r
    exact ⟨by show ((PyData.int n).canLay0 && PyData.canLayAll0 (pis r)) = true; rw [h1]; rfl, by show max 0 (PyData.depthAll (pis r)) = 0; rw [h2]; rfl⟩
theorem shaped_ints (ns : List Int) : SeqAt.shaped (.list (pis ns)) = true := by
  obtain ⟨h1, h2⟩ := lay_ints ns
  show (PyData.canLayAll0 (pis ns) && decide (PyData.depthAll (pis ns) + 1 ≤ 64)) = true
  rw [h1, h2]
  rfl
theorem eqv_nil (ns : List Int) : PyData.eqv (.list (pis ns)) (.list []) = ns.isEmpty := by
  cases ns <;> rfl
section
variable {P : Program} {w : World} {K : PySem.W.Frag} {mg : Str → Option Value} {base : Heap}
theorem ixN_nat {n j : Nat} (h : j < n) : ixN n (j : Int) = some j := by
  unfold ixN
  rw [if_pos (by omega), if_pos (by omega)]
  simp
def sp_law_next : Sp := fun vs H Q _ => ∃ (m c l : Addr) (n : Nat) (many : Int), vs = [.ref m, .int many] ∧ 0 < many ∧ many < 2 ^ 100 ∧ Dr H m c l (n + 1) ∧
  ∀ (r : Int) (l' : Addr) (H' : Hp), 0 ≤ r → r < many → Kp m l H l' H' → Dr H' m c l' n → Q (.int r) H'
theorem ok_law_next (T : Txt K mg) : FnOk P w K mg base CX0 2 T.f__law_next T.d__law_next ["m", "many"] sp_law_next := by
  refine T.F__law_next.ok sc_law_next (fun vs H Q E h => ?_) (fun cdv A outer s H vs Q E hr h => ?_)
  · obtain ⟨m, c, l, n, many, rfl, _⟩ := h
    rfl
  · obtain ⟨m, c, l, n, many, rfl, p1, p2, D, q⟩ := h
    have hu := hu_of hr
    refine ⟨_,
(pss_cons (ps_while PassesOwn.never (PW.pt (pw_and (pt_cmpR (op_neD hr.units) (pe_dget hu (pv 0) pe_str (fun _ _ => rfl)) (pe_lst pa_nil) (nomark _)) (pw_and1 (pt_cmpR op_eq (pe_ix ix_list (pe_dget hu (pv 0) pe_str (fun _ _ => rfl)) pe_int (fun _ _ => rfl)) pe_int (nomark _))))) (pss_one (ps_dput hu (pv 0) pe_str (pe_slice sl_list (pe_dget hu (pv 0) pe_str (fun _ _ => rfl)) (po_some pe_int) po_none) rfl)))
      (pss_cons (ps_if (pt_cmpR (op_neD hr.units) (pe_dget hu (pv 0) pe_str (fun _ _ => rfl)) (pe_lst pa_nil) (nomark _)) (pss_cons (ps_set (i := 2) sc_law_next.nd rfl (Or.inl rfl) (pe_callTy call_int1 (by rfl) T.z_int (by decide +kernel) (pa_cons (pe_ix ix_list (pe_dget hu (pv 0) pe_str (fun _ _ => rfl)) pe_int (fun _ _ => rfl)) pa_nil)))
      (pss_cons (ps_asg (pe_op op_fdivW (pv 2) (pv 1)) (pg_sub (pe_dget hu (pv 0) pe_str (fun _ _ => rfl)) pe_int set_list))
      (pss_one (ps_ret (pe_op op_modN (pv 2) (pv 1)))))) pss_nil)
      (pss_cons (ps_set (i := 3) sc_law_next.nd rfl (Or.inl rfl) (pe_op op_add (pe_dget hu (pv 0) pe_str (fun _ _ => rfl)) pe_int))
      (pss_cons (ps_dput hu (pv 0) pe_str (pv 3) rfl)
      (pss_cons (ps_set (i := 4) sc_law_next.nd rfl (Or.inl rfl) (pe_ifExp (pt_cmpR (op_neD hr.units) (pe_dget hu (pv 0) pe_str (fun _ _ => rfl)) (pe_lst pa_nil) (nomark _)) (pe_ix ix_list (pe_dget hu (pv 0) pe_str (fun _ _ => rfl)) (pe_op op_modN (pe_callTy call_int1 (by rfl) T.z_int (by decide +kernel) (pa_cons (pv 3) pa_nil)) (pe_callB (call_len_seq) (by rfl) T.z_len (by decide +kernel) (pa_cons (pe_dget hu (pv 0) pe_str (fun _ _ => rfl)) pa_nil))) (fun _ _ => rfl)) pe_int))
      (pss_cons (ps_set (i := 5) sc_law_next.nd rfl (Or.inl rfl) (pe_op op_mul (pe_callTy call_int1 (by rfl) T.z_int (by decide +kernel) (pa_cons (pe_op op_add (pe_op op_add (pe_op op_modN (pe_callTy call_int1 (by rfl) T.z_int (by decide +kernel) (pa_cons (pv 4) pa_nil)) pe_int) (pe_op op_mul pe_int (pv 3))) (pe_op op_mul (pe_op op_mul pe_int (pv 3)) (pv 3))) pa_nil)) pe_int))
      (pss_cons (ps_set (i := 5) sc_law_next.nd rfl (Or.inl rfl) (pe_op op_mul (pe_callTy call_int1 (by rfl) T.z_int (by decide +kernel) (pa_cons (pe_op op_add (pe_op op_modN (pe_callTy call_int1 (by rfl) T.z_int (by decide +kernel) (pa_cons (pv 5) pa_nil)) pe_int) (pe_op op_mul pe_int (pv 3))) pa_nil)) pe_int))
      (pss_one (ps_ret (pe_op op_modN (pe_callTy call_int1 (by rfl) T.z_int (by decide +kernel) (pa_cons (pe_op op_fdivN (pe_op op_modN (pe_callTy call_int1 (by rfl) T.z_int (by decide +kernel) (pa_cons (pv 5) pa_nil)) pe_int) pe_int) pa_nil)) (pv 1)))))))))))
, ?_⟩
    refine st_tail (fun σ H' => ∃ (l' : Addr), σ = [some (.ref m), some (.int many), none, none, none, none] ∧ Kp m l H l' H' ∧ Dr H' m c l' (n + 1)) ?_ fun tail => ?_
    · rintro σ H1 ⟨l1, rfl, kp, D1⟩
      obtain ⟨cs, ls, k, h1, h2, h3, ncl, lc, ll, pos, k0, kn⟩ := D1.ex
      have nml : m ≠ l1 := ne_of h1 h3 nofun
      have nmc : m ≠ c := ne_of h1 h2 nofun
      -- if m['left'] != []
      refine ⟨_, rfl, m, .ref l1, rfl, dg_l h1, Nat.zero_le _, fun p hp => ?_⟩
      have g1 := same_new (o := .lst []) hp _ _ h1
      have g2 := same_new (o := .lst []) hp _ _ h2
      have g3 := same_new (o := .lst []) hp _ _ h3
      refine ⟨.list (pis ls), .list [], .lst (SqL.of g3) (dp_ints ls), .lst (SqL.of upd_same) .nil, shaped_ints ls, by rfl, _, rfl, ?_⟩
      rw [eqv_nil]
      have kp2 : Kp m l H l1 (upd H1 p (.lst [])) := kp.trans (Kp.new hp)
      have D2 : Dr (upd H1 p (.lst [])) m c l1 (n + 1) := D1.new hp
      cases ls with
      | cons x r =>
        refine iteT ?_
        have x0 : 0 ≤ x := pos x List.mem_cons_self
        refine ⟨_, rfl, m, .ref l1, rfl, dg_l g1, l1, _, 0, .int x, rfl, rfl, SqL.of g3, atI_nat (j := 0) rfl, .inl ⟨x, rfl, ?_⟩⟩
        -- m['left'][0] = rest // many
        refine ⟨_, rfl, _, rfl, x, many, rfl, rfl, wide_div (b := 100) p1 (by omega) (by decide) (by decide), _, rfl, m, .ref l1, rfl, dg_l g1, l1, _, 0, 0, rfl, rfl, g3, ixN_nat (j := 0) (by simp), ?_⟩
        refine ⟨_, rfl, _, rfl, x, many, rfl, rfl, by omega, ?_⟩
        show Q (.int (x.fmod many)) (upd (upd H1 p (.lst [])) l1 (.lst (((x / many) :: r).map V.int)))
        rw [Int.fmod_eq_emod_of_nonneg x (by omega)]
        refine q _ l1 _ (Int.emod_nonneg _ (by omega)) (Int.emod_lt_of_pos _ p1) ⟨fun b o hb n1 n2 => ?_, kp2.nw, fun b hb => ?_⟩ ⟨cs, (x / many) :: r, k, ?_, ?_, ?_, ncl, lc, ll, ?_, k0, by omega⟩
        · have e := kp2.st b o hb n1 n2
          rw [upd_ne (kp2.off hb n2)]
          exact e
        · refine kp2.dm b ?_
          unfold upd at hb ⊢
          split at hb
          · cases hb
          · exact hb
        · rw [upd_ne nml]; exact g1
        · rw [upd_ne ncl]; exact g2
        · exact upd_same
        · intro y hy
          rcases List.mem_cons.mp hy with e | e
          · rw [e]; exact Int.ediv_nonneg x0 (by omega)
          · exact pos y (List.mem_cons_of_mem _ e)
      | nil =>
        refine iteF ?_
        refine ⟨_, rfl, m, .int k, rfl, dg_a g1, _, _, rfl, rfl, _, rfl, _, rfl, m, _, rfl, dp_a g1, ?_⟩
        have a1 : (upd (upd H1 p (.lst [])) m (.dK (dd c l1 (k + 1)))) m = some (.dK (dd c l1 (k + 1))) := upd_same
        have a2 := (upd_ne (H := upd H1 p (.lst [])) (o := .dK (dd c l1 (k + 1))) nmc.symm).trans g2
        have a3 := (upd_ne (H := upd H1 p (.lst [])) (o := .dK (dd c l1 (k + 1))) nml.symm).trans g3
        have kp3 : Kp m l H l1 (upd (upd H1 p (.lst [])) m (.dK (dd c l1 (k + 1)))) := ⟨fun b o hb n1 n2 => (upd_ne n1).trans (kp2.st b o hb n1 n2), kp2.nw, fun b hb => kp2.dm b (by
          unfold upd at hb ⊢
          split at hb
          · cases hb
          · exact hb)⟩
        have D3 : Dr (upd (upd H1 p (.lst [])) m (.dK (dd c l1 (k + 1)))) m c l1 n := ⟨cs, [], k + 1, a1, a2, a3, ncl, lc, ll, pos, by omega, by omega⟩
        generalize upd (upd H1 p (.lst [])) m (.dK (dd c l1 (k + 1))) = H3 at a1 a2 a3 kp3 D3
        -- cell
        dsimp only
        refine st_tail (fun σ H' => ∃ (z : Int), σ = [some (.ref m), some (.int many), none, some (.int (k + 1)), some (.int z), none] ∧ Kp m l H l1 H' ∧ Dr H' m c l1 n) ?_ fun tail => ?_
        · rintro σ H4 ⟨z, rfl, kp4, D4⟩
          have kb : k + 1 ≤ 1000000 := by omega
          refine ⟨_, rfl, .inl ⟨z, rfl, _, _, rfl, rfl, (show (2147483629 : Int) ≠ 0 by decide), _, rfl, _, _, rfl, rfl, .inl ⟨by decide, by decide⟩, _, _, rfl, rfl, _, rfl, _, _, rfl, rfl, .inl ⟨by decide, by decide⟩,
            _, rfl, _, _, rfl, rfl, .inl ⟨by show -(2 ^ 64) < 19 * (k + 1); omega, by show 19 * (k + 1) < 2 ^ 64; omega⟩, _, _, rfl, rfl, .inl ⟨_, rfl, _, _, rfl, rfl, .inr ⟨by decide, by decide⟩, ?_⟩⟩⟩
          refine ⟨_, rfl, .inl ⟨_, rfl, _, _, rfl, rfl, (show (2147483647 : Int) ≠ 0 by decide), _, rfl, _, _, rfl, rfl, .inl ⟨by decide, by decide⟩, _, _, rfl, rfl, .inl ⟨_, rfl, _, _, rfl, rfl, .inr ⟨by decide, by decide⟩, ?_⟩⟩⟩
          refine ⟨_, rfl, .inl ⟨_, rfl, _, _, rfl, rfl, (show (2147483587 : Int) ≠ 0 by decide), _, _, rfl, rfl, ⟨by decide, by decide⟩, .inl ⟨_, rfl, _, rfl, _, _, rfl, rfl, by omega, ?_⟩⟩⟩
          refine q _ l1 _ ?_ ?_ kp4 D4
          · rw [Int.fmod_eq_emod_of_nonneg _ (by omega)]
            exact Int.emod_nonneg _ (by omega)
          · rw [Int.fmod_eq_emod_of_nonneg _ (by omega)]
            exact Int.emod_lt_of_pos _ p1
        refine ⟨_, rfl, m, .ref c, rfl, dg_c a1, Nat.zero_le _, fun p' hp' => ?_⟩
        have b1 := same_new (o := .lst []) hp' _ _ a1
        have b2 := same_new (o := .lst []) hp' _ _ a2
        refine ⟨.list (pis cs), .list [], .lst (SqL.of b2) (dp_ints cs), .lst (SqL.of upd_same) .nil, shaped_ints cs, by rfl, _, rfl, ?_⟩
        rw [eqv_nil]
        have kp4 : Kp m l H l1 (upd H3 p' (.lst [])) := kp3.trans (Kp.new hp')
        have D4 : Dr (upd H3 p' (.lst [])) m c l1 n := D3.new hp'
        cases cs with
        | nil =>
          refine iteF ?_
          exact tail _ _ ⟨3, rfl, kp4, D4⟩
        | cons y r =>
          refine iteT ?_
          obtain ⟨j, z, hj⟩ : ∃ (j : Nat) (z : Int), (k + 1).fmod (((y :: r).map V.int).length : Int) = (j : Int) ∧ ((y :: r).map V.int)[j]? = some (.int z) := by
            have hl : (0 : Int) < (((y :: r).map V.int).length : Int) := by
              show (0 : Int) < (((r.map V.int).length + 1 : Nat) : Int)
              omega
            rw [Int.fmod_eq_emod_of_nonneg _ (by omega)]
            have e1 := Int.emod_nonneg (k + 1) (b := (((y :: r).map V.int).length : Int)) (by omega)
            have e2 := Int.emod_lt_of_pos (k + 1) hl
            have hj : ((k + 1) % (((y :: r).map V.int).length : Int)).toNat < (y :: r).length := by
              have : ((y :: r).map V.int).length = (y :: r).length := List.length_map ..
              omega
            refine ⟨((k + 1) % (((y :: r).map V.int).length : Int)).toNat, (y :: r)[((k + 1) % (((y :: r).map V.int).length : Int)).toNat], by omega, ?_⟩
            rw [List.getElem?_map, List.getElem?_eq_getElem hj]
            rfl
          refine ⟨_, rfl, m, .ref c, rfl, dg_c b1, _, rfl, .inl ⟨_, rfl, _, rfl, m, .ref c, rfl, dg_c b1, c, _, rfl, .inl (SqL.of b2), _, _, rfl, rfl, by show (((y :: r).map V.int).length : Int) ≠ 0; simp; omega, c, _, _, .int z, rfl, rfl, SqL.of b2, ?_, ?_⟩⟩
          · show atI _ ((k + 1).fmod (((y :: r).map V.int).length : Int)) = some _
            rw [hj.1]
            exact atI_nat hj.2
          exact tail _ _ ⟨z, rfl, kp4, D4⟩
    -- the loop
    refine ⟨fun cnt σ H' => ∃ (l' : Addr) (cs ls : List Int) (k : Int), σ = [some (.ref m), some (.int many), none, none, none, none] ∧ Kp m l H l' H' ∧ ls.length = cnt ∧
      H' m = some (.dK (dd c l' k)) ∧ H' c = some (.lst (cs.map V.int)) ∧ H' l' = some (.lst (ls.map V.int)) ∧ c ≠ l' ∧
      cs.length ≤ 63 ∧ ls.length ≤ 63 ∧ (∀ x ∈ ls, 0 ≤ x) ∧ 0 ≤ k ∧ k + ((n + 1 : Nat) : Int) ≤ 1000000, ?_, ?_⟩
    · obtain ⟨cs, ls, k, r⟩ := D.ex
      exact ⟨ls.length, l, cs, ls, k, rfl, Kp.refl m l H, rfl, r⟩
    rintro cnt σ H1 ⟨l1, cs, ls, k, rfl, kp, hcnt, h1, h2, h3, ncl, lc, ll, pos, k0, kn⟩
    have nml : m ≠ l1 := ne_of h1 h3 nofun
    have nmc : m ≠ c := ne_of h1 h2 nofun
    refine ⟨_, rfl, m, .ref l1, rfl, dg_l h1, Nat.zero_le _, fun p hp => ?_⟩
    have g1 := same_new (o := .lst []) hp _ _ h1
    have g2 := same_new (o := .lst []) hp _ _ h2
    have g3 := same_new (o := .lst []) hp _ _ h3
    have kp2 : Kp m l H l1 (upd H1 p (.lst [])) := kp.trans (Kp.new hp)
    have D2 : Dr (upd H1 p (.lst [])) m c l1 (n + 1) := ⟨cs, ls, k, g1, g2, g3, ncl, lc, ll, pos, k0, kn⟩
    refine ⟨.list (pis ls), .list [], .lst (SqL.of g3) (dp_ints ls), .lst (SqL.of upd_same) .nil, shaped_ints ls, by rfl, _, rfl, ?_⟩
    rw [eqv_nil]
    cases ls with
    | nil =>
      refine iteF ?_
      refine iteF ?_
      exact tail _ _ ⟨l1, rfl, kp2, D2⟩
    | cons x r =>
      refine iteT ?_
      refine ⟨_, rfl, m, .ref l1, rfl, dg_l g1, l1, _, 0, .int x, rfl, rfl, SqL.of g3, atI_nat (j := 0) rfl, rfl, _, rfl, ?_⟩
      refine ite2 (fun e => ?_) (fun e => tail _ _ ⟨l1, rfl, kp2, D2⟩)
      generalize upd H1 p (.lst []) = H3 at g1 g2 g3 kp2 D2
      refine ⟨_, fun σ' H' hN => hN, ?_⟩
      refine ⟨_, rfl, m, .ref l1, rfl, dg_l g1, 1, rfl, l1, _, rfl, SqL.of g3, fun p2 hp2 => ⟨_, rfl, m, _, rfl, dp_l (same_new hp2 _ _ g1), ?_⟩⟩
      have np1 : p2 ≠ m := (ne_of_none g1 hp2).symm
      have np2 : p2 ≠ c := (ne_of_none g2 hp2).symm
      refine ⟨r.length, by rw [← hcnt]; simp, p2, cs, r, k, rfl, ⟨fun b o hb q1 q2 => ?_, ?_, fun b hb => ?_⟩, rfl, upd_same, (upd_ne nmc.symm).trans ((upd_ne np2.symm).trans g2), (upd_ne np1).trans ?_, np2.symm, lc, by simp at ll ⊢; omega, fun y hy => pos y (List.mem_cons_of_mem _ hy), k0, kn⟩
      · have e := kp2.st b o hb q1 q2
        rw [upd_ne q1, upd_ne (ne_of_none e hp2)]
        exact e
      · exact .inr (kp2.dm _ hp2)
      · refine kp2.dm b ?_
        unfold upd at hb
        split at hb
        · cases hb
        · split at hb
          · cases hb
          · exact hb
      · rw [upd_same]
        unfold cutV
        rw [HT.sIx_none, show HT.sIx ((x :: r).map V.int).length 0 (some 1) = min 1 ((x :: r).map V.int).length from HT.sIx_nat _ 0 1, show min 1 ((x :: r).map V.int).length = 1 by simp]
        show some (HO.lst (List.take (((x :: r).map V.int).length - 1) (r.map V.int))) = _
        rw [List.take_of_length_le (by simp)]
def sp_law_begun (K : PySem.W.Frag) : Sp := fun vs H Q _ => ∃ (a : Addr) (ns : List Int), vs = [.ref a] ∧ SqL K H a (ns.map V.int) ∧ ns.length ≤ 63 ∧
  ∀ (m c l : Addr) (H' : Hp), Same H H' → H m = none → H c = none → H l = none → Dr H' m c l 900000 → Q (.ref m) H'
theorem ok_law_begun (T : Txt K mg) : FnOk P w K mg base CX0 2 T.f__law_begun T.d__law_begun ["script"] (sp_law_begun K) := by
  refine T.F__law_begun.ok sc_law_begun (fun vs H Q E h => ?_) (fun cdv A outer s H vs Q E hr h => ?_)
  · obtain ⟨a, ns, rfl, _⟩ := h
    rfl
  · obtain ⟨a, ns, rfl, hS, hl, q⟩ := h
    have hu := hu_of hr
    refine ⟨_,
(pss_one (ps_ret (pe_disp (pps_cons pe_str (pe_callTy call_list_of (by rfl) T.z_list (by decide +kernel) (pa_cons (pv 0) pa_nil)) (pps_cons pe_str (pe_lc (own := [("cell", 1)]) rfl sc_law_begun.nd (pi_list (pv 0)) (blkOk_by (own := [("cell", 1)]) (N := ["script", "cell"]) (sc := defScope s_law_begun) (by decide +kernel)) (fun _ _ _ _ _ => (pg_name (i := 1) sc_law_begun.nd rfl (Or.inl rfl))) (fun _ _ _ _ _ => pts_one (pt_cmpR op_ge (pv 1) (pe_op op_pow pe_int pe_int) (nomark _))) (fun _ _ _ _ _ => (pv 1))) (pps_cons pe_str pe_int pps_nil))) (by rfl) (by rfl) (fun z => by cases z) (by decide))))
, ?_⟩
    intro p hp
    have s1 : Same H (upd H p (.dK [])) := same_new hp
    refine ⟨.ref a, rfl, a, _, rfl, .inl (s1.seq hS), fun c hc => ?_⟩
    have s2 := s1.trans (same_new (o := .lst (ns.map V.int)) hc)
    have ncp : p ≠ c := fun e => by rw [← e, upd_same] at hc; cases hc
    have e1 : upd (upd H p (.dK [])) c (.lst (ns.map V.int)) p = some (.dK []) := (upd_ne ncp).trans upd_same
    have e2 : upd (upd H p (.dK [])) c (.lst (ns.map V.int)) c = some (.lst (ns.map V.int)) := upd_same
    have hc0 : H c = none := s1.free hc
    generalize upd (upd H p (.dK [])) c (.lst (ns.map V.int)) = H1 at s2 e1 e2
    refine ⟨.ref a, rfl, a, rfl, ⟨_, s2.seq hS⟩, fun l hD => ?_⟩
    have nlp : p ≠ l := ne_of_none e1 hD
    have nlc : c ≠ l := ne_of_none e2 hD
    have hl0 : H l = none := s2.free hD
    refine lc_list (K := K) (a := a) (xs := ns.map V.int) (fun i H' => ∃ ls : List Int, ls.length ≤ i ∧ (∀ x ∈ ls, 0 ≤ x) ∧ H' = upd H1 l (.lst (ls.map V.int))) ⟨[], by simp, by simp, rfl⟩ ?_ ?_ ?_
    · rintro i H' _ ⟨ls, _, _, rfl⟩
      exact (same_new hD).seq (s2.seq hS)
    · rintro i x H' hx ⟨ls, h1, h2, rfl⟩
      obtain ⟨z, rfl⟩ : ∃ z, x = V.int z := by
        rw [List.getElem?_map] at hx
        cases e : ns[i]? with
        | none => rw [e] at hx; cases hx
        | some z => rw [e] at hx; exact ⟨z, (Option.some.inj hx).symm⟩
      have hi : i < 63 := by
        have := (List.getElem?_eq_some_iff.mp hx).1
        rw [List.length_map] at this
        omega
      refine ⟨rfl, _, rfl, 10, 18, rfl, rfl, ⟨by decide, by decide, by decide⟩, z, 1000000000000000000, rfl, rfl, _, rfl, ?_⟩
      refine ite2 (fun e => ?_) (fun e => ⟨ls, by omega, h2, rfl⟩)
      refine ⟨.int z, rfl, _, upd_same, ?_, ls ++ [z], ?_, ?_, ?_⟩
      · rw [List.length_map]; exact small1000 (by omega)
      · simp; omega
      · intro y hy
        rcases List.mem_append.mp hy with k | k
        · exact h2 y k
        · rw [List.mem_singleton.mp k]
          have := of_decide_eq_true e
          omega
      · rw [upd_upd, List.map_append]
        rfl
    · rintro H' ⟨ls, h1, h2, rfl⟩
      refine ⟨(upd_ne nlp).trans e1, [(Sum.inr "cells", V.ref c), (Sum.inr "left", V.ref l), (Sum.inr "at", V.int 0)], rfl, by show 3 ≤ 15; decide, ?_⟩
      rw [dd_mk]
      refine q p c l _ (fun b o hb => ?_) hp hc0 hl0 ⟨ns, ls, 0, upd_same, ?_, ?_, nlc, hl, by rw [List.length_map] at h1; omega, h2, by decide, by decide⟩
      · rw [upd_ne (ne_of_none hb hp), upd_ne (ne_of_none hb hl0)]
        exact s2 _ _ hb
      · rw [upd_ne ncp.symm, upd_ne nlc]; exact e2
      · rw [upd_ne nlp.symm, upd_same]
end
end My

namespace My
open PySem PySem.Spec PyProof.Rows L2
theorem dpAll_app {K : PySem.W.Frag} {H : Hp} : ∀ {xs ys : List V} {ds es : List PyData}, DpAll K H xs ds → DpAll K H ys es → DpAll K H (xs ++ ys) (ds ++ es)
  | _, _, _, _, .nil, h => h
  | _, _, _, _, .cons a b, h => .cons a (dpAll_app b h)
theorem pairs_set {K : PySem.W.Frag} {H : Hp} {p : Addr} {zs : List V} {o : HO} (hp : H p = some (.lst zs)) : ∀ {ss : List (Int × Int)} {xs : List V}, DpAll K H xs (ss.map pairI) → DpAll K (upd H p o) xs (ss.map pairI)
  | [], _, h => by cases h; exact .nil
  | s :: r, _, h => by
    cases h with
    | cons a b =>
      obtain ⟨t, rfl, ht⟩ := dp_pair a
      exact .cons (dp_mkpair (sqt_set hp ht)) (pairs_set hp b)
/-! ### what stands through draws: tuples -/
def Tp : HO → Prop
  | .tup _ => True
  | .frz _ _ => True
  | _ => False
def Keep (H H' : Hp) : Prop := ∀ b o, H b = some o → Tp o → H' b = some o
theorem Keep.refl (H : Hp) : Keep H H := fun _ _ h _ => h
theorem Keep.trans {H H1 H2 : Hp} (a : Keep H H1) (b : Keep H1 H2) : Keep H H2 := fun c o h t => b c o (a c o h t) t
theorem keep_same {H H' : Hp} (s : Same H H') : Keep H H' := fun b o h _ => s b o h
theorem keep_set {H : Hp} {p : Addr} {ys : List V} {o : HO} (hp : H p = some (.lst ys)) : Keep H (upd H p o) := fun b u h t => by
  have nb : b ≠ p := fun e => by
    rw [e, hp] at h
    cases h
    exact t
  rw [upd_ne nb]
  exact h
theorem keep_draw {m c l l' n : Addr} {H H' : Hp} (k : Kp m l H l' H') (d : Dr H m c l n) : Keep H H' := fun b o h t => by
  obtain ⟨cs, ls, z, h1, h2, h3, r⟩ := d.ex
  refine k.st b o h (fun e => ?_) (fun e => ?_)
  · rw [e, h1] at h
    cases h
    exact t
  · rw [e, h3] at h
    cases h
    exact t
theorem Keep.tup {K : PySem.W.Frag} {H H' : Hp} {a : Addr} {xs : List V} (k : Keep H H') (h : SqT K H a xs) : SqT K H' a xs := by
  rcases h with (h | ⟨u, h⟩) | h
  · exact .inl (.inl (k _ _ h trivial))
  · exact .inl (.inr ⟨u, k _ _ h trivial⟩)
  · exact .inr h
mutual
def noL : PyData → Bool
  | .list _ => false
  | .tuple ds => noLs ds
  | _ => true
def noLs : List PyData → Bool
  | [] => true
  | d :: r => noL d && noLs r
end
mutual
theorem dp_keep {K : PySem.W.Frag} {H H' : Hp} (s : Keep H H') : ∀ (d : PyData) (v : V), noL d = true → Dp K H v d → Dp K H' v d
  | .none, _, _, h => by cases h; exact .non
  | .bool _, _, _, h => by cases h; exact .bl _
  | .int _, _, _, h => by cases h; exact .int _
  | .str _, _, _, h => by cases h; exact .str _
  | .list ds, _, n, h => by cases n
  | .tuple ds, _, n, h => by
    cases h with
    | tup a b => exact .tup (s.tup a) (dpAll_keep s ds _ n b)
  | .dict _, _, _, h => by cases h
theorem dpAll_keep {K : PySem.W.Frag} {H H' : Hp} (s : Keep H H') : ∀ (ds : List PyData) (vs : List V), noLs ds = true → DpAll K H vs ds → DpAll K H' vs ds
  | [], _, _, h => by cases h; exact .nil
  | d :: ds, _, n, h => by
    cases h with
    | cons a b =>
      obtain ⟨n1, n2⟩ := Bool.and_eq_true_iff.mp (show (noL d && noLs ds) = true from n)
      exact .cons (dp_keep s d _ n1 a) (dpAll_keep s ds _ n2 b)
end
theorem noLs_all : ∀ {ds : List PyData}, (∀ d ∈ ds, noL d = true) → noLs ds = true
  | [], _ => rfl
  | d :: r, h => by
    show (noL d && noLs r) = true
    rw [h d List.mem_cons_self, noLs_all fun e he => h e (List.mem_cons_of_mem _ he)]
    rfl
theorem noL_pair (p : Int × Int) : noL (pairI p) = true := rfl
theorem noLs_pairs (ps : List (Int × Int)) : noLs (ps.map pairI) = true := noLs_all fun d hd => by
  obtain ⟨p, _, rfl⟩ := List.mem_map.mp hd
  rfl
theorem noLs_ints (ns : List Int) : noLs (ns.map .int) = true := noLs_all fun d hd => by
  obtain ⟨p, _, rfl⟩ := List.mem_map.mp hd
  rfl
theorem noL_row (r : List Nat) : noL (rowI r) = true := noLs_all fun d hd => by
  obtain ⟨p, _, rfl⟩ := List.mem_map.mp hd
  rfl
theorem noL_cod (C : Cod) : noL C.dat = true := by
  show (true && (true && (noLs (C.steps.map .int) && (noLs (C.moves.map pairI) && (true && true))))) = true
  rw [noLs_ints, noLs_pairs]
  rfl
/-- an own list through a draw -/
theorem Kp.own {m l l' : Addr} {H H' : Hp} (k : Kp m l H l' H') {p : Addr} {o : HO} (h : H p = some o) (n1 : p ≠ m) (n2 : p ≠ l) : H' p = some o ∧ p ≠ l' := ⟨k.st p o h n1 n2, k.off h n2⟩
/-- a change of an own list: for what stood ahead of it -/
theorem Kp.set {m l l' : Addr} {H H' : Hp} (k : Kp m l H l' H') {p : Addr} {o : HO} (h : H p = none) : Kp m l H l' (upd H' p o) := by
  refine ⟨fun b u hb n1 n2 => ?_, k.nw, fun b hb => ?_⟩
  · rw [upd_ne (ne_of_none hb h)]
    exact k.st b u hb n1 n2
  · unfold upd at hb
    split at hb
    · cases hb
    · exact k.dm b hb
/-- a list of one's own, apart from the drawer -/
structure Own (H : Hp) (m c l p : Addr) (xs : List V) : Prop where
  st : H p = some (.lst xs)
  nm : p ≠ m
  nc : p ≠ c
  nl : p ≠ l
theorem own_mk {H : Hp} {m c l p n : Nat} {xs : List V} (D : Dr H m c l n) (hp : H p = none) : Own (upd H p (.lst xs)) m c l p xs := by
  obtain ⟨cs, ls, z, e1, e2, e3, _⟩ := D.ex
  exact ⟨upd_same, (ne_of_none e1 hp).symm, (ne_of_none e2 hp).symm, (ne_of_none e3 hp).symm⟩
theorem Own.kp {H H' : Hp} {m c l l' p : Addr} {xs : List V} (o : Own H m c l p xs) (k : Kp m l H l' H') : Own H' m c l' p xs := ⟨k.st p _ o.st o.nm o.nl, o.nm, o.nc, k.off o.st o.nl⟩
theorem Own.same {H H' : Hp} {m c l p : Addr} {xs : List V} (o : Own H m c l p xs) (s : Same H H') : Own H' m c l p xs := ⟨s _ _ o.st, o.nm, o.nc, o.nl⟩
theorem Own.set {H : Hp} {m c l p q : Addr} {xs : List V} {u : HO} (o : Own H m c l p xs) (h : p ≠ q) : Own (upd H q u) m c l p xs := ⟨(upd_ne h).trans o.st, o.nm, o.nc, o.nl⟩
theorem Own.put {H : Hp} {m c l p : Addr} {xs ys : List V} (o : Own H m c l p xs) : Own (upd H p (.lst ys)) m c l p ys := ⟨upd_same, o.nm, o.nc, o.nl⟩
theorem Dr.put {H : Hp} {m c l n p : Nat} {xs ys : List V} (D : Dr H m c l n) (o : Own H m c l p xs) : Dr (upd H p (.lst ys)) m c l n := D.set o.nm o.nc o.nl
theorem Own.ne {H : Hp} {m c l p q : Addr} {xs : List V} (o : Own H m c l p xs) (h : H q = none) : p ≠ q := ne_of_none o.st h
theorem at3 {a b c : V} {g : Int} (h0 : 0 ≤ g) (h1 : g < 3) : ∃ v, atI [a, b, c] g = some v ∧ (v = a ∨ v = b ∨ v = c) := by
  have hg : g = 0 ∨ g = 1 ∨ g = 2 := by omega
  rcases hg with e | e | e <;> subst e
  · exact ⟨a, atI_nat (j := 0) rfl, .inl rfl⟩
  · exact ⟨b, atI_nat (j := 1) rfl, .inr (.inl rfl)⟩
  · exact ⟨c, atI_nat (j := 2) rfl, .inr (.inr rfl)⟩
theorem at4 {a b c d : V} {g : Int} (h0 : 0 ≤ g) (h1 : g < 4) : ∃ v, atI [a, b, c, d] g = some v ∧ (v = a ∨ v = b ∨ v = c ∨ v = d) := by
  have hg : g = 0 ∨ g = 1 ∨ g = 2 ∨ g = 3 := by omega
  rcases hg with e | e | e | e <;> subst e
  · exact ⟨a, atI_nat (j := 0) rfl, .inl rfl⟩
  · exact ⟨b, atI_nat (j := 1) rfl, .inr (.inl rfl)⟩
  · exact ⟨c, atI_nat (j := 2) rfl, .inr (.inr (.inl rfl))⟩
  · exact ⟨d, atI_nat (j := 3) rfl, .inr (.inr (.inr rfl))⟩
section
variable {P : Program} {w : World} {K : PySem.W.Frag} {mg : Str → Option Value} {base : Heap}
theorem yes_turn {te : TE} {σ : L2.St} {H : Hp} {Q : VK} {R : Hp → Prop} (h : te σ H Q) : tYes σ H fun b H3 => if b = true then te σ H3 Q else R H3 := by
  show if true = true then te σ H Q else R H
  rw [if_pos rfl]
  exact h
/-- n draws at most, behind which z stands for something of which G holds -/
def spDraw (args : Addr → List V → Prop) (n : Nat) (G : Hp → V → Prop) : Sp := fun vs H Q _ => ∃ (m c l : Addr) (k : Nat), args m vs ∧ Dr H m c l (k + n) ∧
  ∀ z l' H', Kp m l H l' H' → Dr H' m c l' k → G H' z → Q z H'
/-- what a drawn coder is like -/
structure Small (C : Cod) (wide places codes : Int) : Prop where
  lo : -wide ≤ C.low ∧ C.low ≤ 0
  hi : 0 ≤ C.high ∧ C.high ≤ wide
  st : 1 ≤ C.steps.length ∧ (C.steps.length : Int) ≤ places
  ss : ∀ s ∈ C.steps, 1 ≤ s ∧ s ≤ 2 * wide + 2
  mv : 2 ≤ C.moves.length ∧ (C.moves.length : Int) ≤ codes
  mm : ∀ p ∈ C.moves, (-16 ≤ p.1 ∧ p.1 ≤ 16) ∧ (-2 ≤ p.2 ∧ p.2 ≤ 2)
  fd : C.fade = 0 ∨ (2 ≤ C.fade ∧ C.fade ≤ 5)
theorem Small.ok {C : Cod} {wide places codes : Int} (h : Small C wide places codes) (h1 : wide ≤ 4000) (h2 : places ≤ 16) (h3 : codes ≤ 16) : C.Ok := by
  obtain ⟨⟨a1, a2⟩, ⟨b1, b2⟩, ⟨c1, c2⟩, d, ⟨e1, e2⟩, f, g⟩ := h
  refine ⟨by omega, a2, b1, by omega, c1, by omega, fun s hs => ?_, e1, by omega, fun p hp => ?_, by omega⟩
  · have := d s hs
    omega
  · have := f p hp
    omega
end
end My

namespace My
open PySem PySem.Spec PyProof.Rows L2
/-! ### the size of what is written out -/
structure Sh (k n : Nat) (d : PyData) : Prop where
  sh : d.showable = true
  nd : d.hasDict = false
  dp : d.depth ≤ k
  le : d.shown.length ≤ n
theorem Sh.mono {k n k' n' : Nat} {d : PyData} (h : Sh k n d) (h1 : k ≤ k') (h2 : n ≤ n') : Sh k' n' d := ⟨h.sh, h.nd, Nat.le_trans h.dp h1, Nat.le_trans h.le h2⟩
theorem sh_int {i : Int} (h : i.natAbs < 2 ^ 64) : Sh 0 1921 (.int i) := by
  have hl : i.natAbs.log2 < 1920 := Nat.lt_trans (PySem.Flt.log2_lt_of (by decide) h) (by decide)
  exact ⟨decide_eq_true hl, rfl, Nat.le_refl _, int_text_len_1921 hl⟩
theorem sh_all {k n : Nat} : ∀ {ds : List PyData}, (∀ d ∈ ds, Sh k n d) → PyData.showableAll ds = true ∧ PyData.hasDictAll ds = false ∧ PyData.depthAll ds ≤ k ∧ piled (PyData.shownAll ds) ≤ ds.length * (n + 2) ∧ (PyData.shownAll ds).length = ds.length
  | [], _ => ⟨rfl, rfl, Nat.zero_le _, Nat.zero_le _, rfl⟩
  | d :: r, h => by
    obtain ⟨h1, h2, h3, h4, h5⟩ := sh_all fun e he => h e (List.mem_cons_of_mem d he)
    have hd := h d List.mem_cons_self
    refine ⟨?_, ?_, ?_, ?_, ?_⟩
    · show (d.showable && PyData.showableAll r) = true
      rw [hd.sh, h1]
      rfl
    · show (d.hasDict || PyData.hasDictAll r) = false
      rw [hd.nd, h2]
      rfl
    · show max d.depth (PyData.depthAll r) ≤ k
      exact Nat.max_le.mpr ⟨hd.dp, h3⟩
    · show piled (d.shown :: PyData.shownAll r) ≤ (r.length + 1) * (n + 2)
      rw [piled_cons, Nat.succ_mul]
      have := hd.le
      omega
    · show (PyData.shownAll r).length + 1 = r.length + 1
      rw [h5]
theorem sh_tup {k n : Nat} {ds : List PyData} (h : ∀ d ∈ ds, Sh k n d) : Sh (k + 1) (ds.length * (n + 2) + 3) (.tuple ds) := by
  obtain ⟨h1, h2, h3, h4, h5⟩ := sh_all h
  refine ⟨h1, h2, Nat.succ_le_succ h3, ?_⟩
  show (tupleText (PyData.shownAll ds)).length ≤ _
  unfold tupleText
  rw [strLen_append, strLen_append]
  have e1 : ((("(" : String) : Str)).length = 1 := rfl
  have e3 : (((if (PyData.shownAll ds).length == 1 then ",)" else ")" : String) : Str)).length ≤ 2 := by split <;> decide
  rw [e1]
  by_cases hn : PyData.shownAll ds = []
  · rw [hn] at e3 ⊢
    have : (Str.join ", " []).length = 0 := rfl
    omega
  · have := join_length_add (PyData.shownAll ds) hn
    omega
theorem sh_list2 {k n : Nat} {a b : PyData} (h1 : Sh k n a) (h2 : Sh k n b) : Sh (k + 1) (2 * n + 4) (.list [a, b]) := by
  refine ⟨?_, ?_, ?_, ?_⟩
  · show (a.showable && (b.showable && true)) = true
    rw [h1.sh, h2.sh]
    rfl
  · show (a.hasDict || (b.hasDict || false)) = false
    rw [h1.nd, h2.nd]
    rfl
  · show max a.depth (max b.depth 0) + 1 ≤ k + 1
    have := h1.dp
    have := h2.dp
    omega
  · show (listText [a.shown, b.shown]).length ≤ _
    have e : listText [a.shown, b.shown] = (((((Str.ofString "[" ++ Str.ofString "") ++ a.shown) ++ Str.ofString ", ") ++ b.shown) ++ Str.ofString "]") := rfl
    rw [e, strLen_append, strLen_append, strLen_append, strLen_append, strLen_append]
    have e0 : (Str.ofString "").length = 0 := by decide
    have e1 : (Str.ofString "[").length = 1 := by decide
    have e2 : (Str.ofString "]").length = 1 := by decide
    have e3 : (Str.ofString ", ").length = 2 := by decide
    have := h1.le
    have := h2.le
    omega
theorem sh_ints {ns : List Int} (h : ∀ z ∈ ns, z.natAbs < 2 ^ 64) : Sh 1 (ns.length * 1923 + 3) (.tuple (ns.map .int)) := by
  have := sh_tup (k := 0) (n := 1921) (ds := ns.map .int) fun d hd => by
    obtain ⟨z, hz, rfl⟩ := List.mem_map.mp hd
    exact sh_int (h z hz)
  rw [List.length_map] at this
  exact this
theorem sh_pair {s : Int × Int} (h1 : s.1.natAbs < 2 ^ 64) (h2 : s.2.natAbs < 2 ^ 64) : Sh 1 4000 (pairI s) :=
  (sh_tup (k := 0) (n := 1921) (ds := [.int s.1, .int s.2]) fun d hd => by
    rcases List.mem_cons.mp hd with e | e
    · rw [e]; exact sh_int h1
    · rw [List.mem_singleton.mp e]; exact sh_int h2).mono (Nat.le_refl _) (by simp)
theorem sz_line {n : Nat} (h : n ≤ 1000000) : n ≤ sizeLine := Nat.le_trans h (by decide)
/-! ### slices and sums of tuples -/
theorem cut_take {xs : List V} {n : Nat} (h : n ≤ xs.length) : cutV xs none (some (n : Int)) = xs.take n := by
  unfold cutV
  rw [HT.sIx_none, HT.sIx_nat, Nat.min_eq_left h]
  rfl
theorem cut_drop {xs : List V} {n : Nat} (h : n ≤ xs.length) : cutV xs (some (n : Int)) none = xs.drop n := by
  unfold cutV
  rw [HT.sIx_none, HT.sIx_nat, Nat.min_eq_left h]
  exact List.take_of_length_le (by simp)
theorem dp_row {K : PySem.W.Frag} {H : Hp} {a : Addr} {r : List Nat} (h : SqT K H a (rowV r)) : Dp K H (.ref a) (rowI r) := by
  refine .tup h ?_
  clear h
  induction r with
  | nil => exact .nil
  | cons n r ih => exact .cons (.int n) ih
theorem sl_take {K : PySem.W.Frag} {H : Hp} {a : Addr} {r : List Nat} {n : Nat} {Q : VK} (h : SqT K H a (rowV r)) (hn : n ≤ r.length) (k : ∀ v H', Same H H' → Dp K H' v (rowI (r.take n)) → Q v H') :
    rSlA K (.ref a) none (some (n : Int)) H Q := by
  have hl : (rowV r).length = r.length := List.length_map ..
  refine ⟨a, rowV r, rfl, h, fun ⟨_, e⟩ => ?_, fun _ p hp => ?_⟩
  · rw [HT.sIx_nat, hl, Nat.min_eq_left hn] at e
    refine k _ H (Same.refl H) ?_
    rw [e, List.take_length]
    exact dp_row h
  · refine k _ _ (same_new hp) ?_
    rw [cut_take (by omega), show (rowV r).take n = rowV (r.take n) from List.map_take.symm]
    exact dp_row upd_tup
theorem sl_drop {K : PySem.W.Frag} {H : Hp} {a : Addr} {r : List Nat} {n : Nat} {Q : VK} (h : SqT K H a (rowV r)) (hn : n ≤ r.length) (k : ∀ v H', Same H H' → Dp K H' v (rowI (r.drop n)) → Q v H') :
    rSlA K (.ref a) (some (n : Int)) none H Q := by
  have hl : (rowV r).length = r.length := List.length_map ..
  refine ⟨a, rowV r, rfl, h, fun ⟨e, _⟩ => ?_, fun _ p hp => ?_⟩
  · rw [HT.sIx_nat, hl, Nat.min_eq_left hn] at e
    refine k _ H (Same.refl H) ?_
    rw [e]
    exact dp_row h
  · refine k _ _ (same_new hp) ?_
    rw [cut_drop (by omega), show (rowV r).drop n = rowV (r.drop n) from List.map_drop.symm]
    exact dp_row upd_tup
theorem cat_ints {K : PySem.W.Frag} {H : Hp} {a b : Addr} {ns ms : List Int} {Q : VK} (ha : SqT K H a (ns.map V.int)) (hb : SqT K H b (ms.map V.int)) (hl : ns.length + ms.length ≤ sizeLine)
    (k : ∀ v H', Same H H' → Dp K H' v (.tuple ((ns ++ ms).map .int)) → Q v H') : rCatA K (.ref a) (.ref b) H Q := by
  refine ⟨a, b, _, _, rfl, rfl, ha, hb, by rw [List.length_map, List.length_map]; exact hl, fun e => ?_, fun _ e => ?_, fun _ _ p hp => ?_⟩
  · have e' : ns = [] := List.map_eq_nil_iff.mp e
    refine k _ H (Same.refl H) ?_
    rw [e']
    exact dp_tints hb
  · have e' : ms = [] := List.map_eq_nil_iff.mp e
    refine k _ H (Same.refl H) ?_
    rw [e', List.append_nil]
    exact dp_tints ha
  · refine k _ _ (same_new hp) (dp_tints ?_)
    rw [List.map_append]
    exact upd_tup
theorem dp_last {K : PySem.W.Frag} {H : Hp} {xs : List V} {ps : List (Int × Int)} {s : Int × Int} (h : DpAll K H xs ((ps ++ [s]).map pairI)) : ∃ ys z, xs = ys ++ [z] ∧ Dp K H z (pairI s) := by
  have hl := dpAll_len h
  have hne : xs ≠ [] := by
    intro e
    rw [e] at hl
    simp at hl
  obtain ⟨z, hz, hd⟩ := dpAll_get' h (i := ps.length) (d := pairI s) (by rw [List.map_append, List.getElem?_append_right (by simp)]; simp)
  refine ⟨xs.dropLast, z, ?_, hd⟩
  have hxl : xs.length = ps.length + 1 := by rw [hl]; simp
  have : xs.getLast hne = z := by
    rw [List.getLast_eq_getElem]
    have e : xs[xs.length - 1]? = some z := by rw [hxl]; exact hz
    exact (List.getElem?_eq_some_iff.mp e).2
  rw [← this]
  exact (List.dropLast_concat_getLast hne).symm
/-- repr(..) of data that is small -/
theorem rr {K : PySem.W.Frag} {H : Hp} {v : V} {d : PyData} {k n : Nat} {Q : VK} (h : Dp K H v d) (s : Sh k n d) (hk : k ≤ 60) (hn : n ≤ 1000000) (q : Q (.str d.shown) H) : rRepr K [v] H Q :=
  ⟨v, d, rfl, h, s.sh, s.nd, Nat.le_trans s.dp hk, sz_line (Nat.le_trans s.le hn), q⟩
/-- x != y of equal texts -/
theorem ne_same {x : Str} {A B : Hp → Prop} {H : Hp} (q : B H) : rNe (.str x) (.str x) H fun v H' => ∃ c, v = .bl c ∧ if c = true then A H' else B H' := by
  refine ⟨rfl, false, ?_, iteF q⟩
  show V.bl (!decide (V.str x = V.str x)) = V.bl false
  rw [decide_eq_true rfl]
  rfl
theorem eq_same {x : Str} {H : Hp} {Q : VK} (q : Q (.bl true) H) : rEq (.str x) (.str x) H Q := by
  refine ⟨rfl, ?_⟩
  rw [decide_eq_true rfl]
  exact q
section
variable {P : Program} {w : World} {K : PySem.W.Frag} {mg : Str → Option Value} {base : Heap}
def sp_law_some_state (K : PySem.W.Frag) : Sp := fun vs H Q _ => ∃ (m c l : Addr) (k : Nat) (x : V) (C : Cod), vs = [.ref m, x] ∧ C.Ok ∧ Dp K H x C.dat ∧ Dr H m c l (k + 2) ∧
  ∀ z s l' H', Kp m l H l' H' → Dr H' m c l' k → C.St s → Dp K H' z (pairI s) → Q z H'
theorem ok_law_some_state (T : Txt K mg) : FnOk P w K mg base CX0 3 T.f__law_some_state T.d__law_some_state ["m", "coder"] (sp_law_some_state K) := by
  refine T.F__law_some_state.ok sc_law_some_state (fun vs H Q E h => ?_) (fun cdv A outer s H vs Q E hr h => ?_)
  · obtain ⟨m, c, l, k, x, C, rfl, _⟩ := h
    rfl
  · obtain ⟨m, c, l, k, x, C, rfl, O, hc, D, q⟩ := h
    obtain ⟨a, s, mm, ms, rfl, ha, hs, hm, hmd⟩ := cod_at hc
    have := O.l1
    have := O.l2
    have := O.h1
    have := O.h2
    have := O.s1
    have := O.s2
    refine ⟨_,
(pss_one (ps_ret (pe_tup (pa_cons (pe_op op_add (pe_ix ix_tup (pv 1) pe_int (fun _ _ => rfl)) (pe_call (ok_law_next T) (hr.mono (by decide)) (by rfl) T.g__law_next T.F__law_next.kp T.b__law_next .nil pass0 (pa_cons (pv 0) (pa_cons (pe_op op_add (pe_op op_sub (pe_ix ix_tup (pv 1) pe_int (fun _ _ => rfl)) (pe_ix ix_tup (pv 1) pe_int (fun _ _ => rfl))) pe_int) pa_nil)))) (pa_cons (pe_call (ok_law_next T) (hr.mono (by decide)) (by rfl) T.g__law_next T.F__law_next.kp T.b__law_next .nil pass0 (pa_cons (pv 0) (pa_cons (pe_callB (call_len_seq) (by rfl) T.z_len (by decide +kernel) (pa_cons (pe_ix ix_tup (pv 1) pe_int (fun _ _ => rfl)) pa_nil)) pa_nil))) pa_nil)))))
, ?_⟩
    refine ⟨_, rfl, a, _, 0, _, rfl, rfl, ha, atI_nat (j := 0) rfl, ?_⟩
    refine ⟨_, rfl, _, rfl, a, _, 1, _, rfl, rfl, ha, atI_nat (j := 1) rfl, _, rfl, a, _, 0, _, rfl, rfl, ha, atI_nat (j := 0) rfl, C.high, C.low, rfl, rfl, _, _, rfl, rfl, m, c, l, k + 1, C.high - C.low + 1, rfl, by omega, by omega, D,
      fun r l1 H1 r0 r1 kp1 D1 => ⟨C.low, r, rfl, rfl, ?_⟩⟩
    have K1 := keep_draw kp1 D
    refine ⟨_, rfl, _, rfl, a, _, 2, _, rfl, rfl, K1.tup ha, atI_nat (j := 2) rfl, s, _, rfl, .inr (K1.tup hs), m, c, l1, k, ((C.steps.map V.int).length : Int), rfl, ?_, ?_, D1, fun p l2 H2 p0 p1 kp2 D2 => ⟨by show 2 ≤ sizeLine; decide, fun z hz => ?_⟩⟩
    · rw [List.length_map]; omega
    · rw [List.length_map]; omega
    rw [List.length_map] at p1
    exact q _ (C.low + r, p) l2 _ ((kp1.trans kp2).trans (Kp.new hz)) (D2.new hz) ⟨by show C.low ≤ C.low + r; omega, by show C.low + r ≤ C.high; omega, p0, p1⟩ (dp_mkpair upd_tup)
end
section
variable {P : Program} {w : World} {K : PySem.W.Frag} {mg : Str → Option Value} {base : Heap}
def sp_law_row (K : PySem.W.Frag) : Sp := fun vs H Q _ => ∃ (m c l : Addr) (k : Nat) (x : V) (C : Cod) (many : Nat), vs = [.ref m, x, .int many] ∧ many ≤ 900 ∧ C.Ok ∧ Dp K H x C.dat ∧ Dr H m c l (k + many + 1) ∧
  ∀ z row l' H', Kp m l H l' H' → Dr H' m c l' k → C.Row row → row.length ≤ many → Dp K H' z (rowI row) → Q z H'
theorem ok_law_row (T : Txt K mg) : FnOk P w K mg base CX0 3 T.f__law_row T.d__law_row ["m", "coder", "many"] (sp_law_row K) := by
  refine T.F__law_row.ok sc_law_row (fun vs H Q E h => ?_) (fun cdv A outer s H vs Q E hr h => ?_)
  · obtain ⟨m, c, l, k, x, C, many, rfl, _⟩ := h
    rfl
  · obtain ⟨m, c, l, k, x, C, many, rfl, hmany, O, hc, D, q⟩ := h
    obtain ⟨a, s, mm, ms, rfl, ha, hs, hm, hmd⟩ := cod_at hc
    have := O.m1
    have := O.m2
    refine ⟨_,
(pss_one (ps_ret (pe_callTy call_tuple_of (by rfl) T.z_tuple (by decide +kernel) (pa_cons (pe_lc (own := [("k", 3)]) rfl sc_law_row.nd (pi_range1 (by rfl) T.z_range (pa_cons (pe_call (ok_law_next T) (hr.mono (by decide)) (by rfl) T.g__law_next T.F__law_next.kp T.b__law_next .nil pass0 (pa_cons (pv 0) (pa_cons (pe_op op_add (pv 2) pe_int) pa_nil))) pa_nil)) (blkOk_by (own := [("k", 3)]) (N := ["m", "coder", "many", "k"]) (sc := defScope s_law_row) (by decide +kernel)) (fun _ _ _ _ _ => (pg_name (i := 3) sc_law_row.nd rfl (Or.inl rfl))) (fun _ _ _ _ _ => pts_nil) (fun _ _ _ _ _ => (pe_call (ok_law_next T) (hr.mono (by decide)) (by rfl) T.g__law_next T.F__law_next.kp T.b__law_next .nil pass0 (pa_cons (pv 0) (pa_cons (pe_callB (My.call_lenK (K := K)) (by rfl) T.z_len (by decide +kernel) (pa_cons (pe_ix (My.ix_tupK (K := K)) (pv 1) pe_int (fun _ _ => rfl)) pa_nil)) pa_nil))))) pa_nil))))
, ?_⟩
    refine ⟨_, rfl, _, rfl, _, _, rfl, rfl, m, c, l, k + many, (many : Int) + 1, rfl, by omega, by omega, D, fun n l1 H1 n0 n1 kp1 D1 => ⟨n, rfl, by omega, by omega, fun S hS => ?_⟩⟩
    have K1 := keep_draw kp1 D
    obtain ⟨cs3, ls3, z3, e31, e32, e33, _⟩ := D1.ex
    have hml : ms.length = C.moves.length := by rw [dpAll_len hmd, List.length_map]
    refine lc_range (lo := 0) (n := n.toNat) (fun i H' => ∃ (l' : Addr) (rs : List Nat), H' S = some (.lst (rowV rs)) ∧ rs.length = i ∧ (∀ r ∈ rs, r < C.moves.length) ∧ Kp m l1 H1 l' H' ∧ Keep H1 H' ∧ Dr H' m c l' (k + many - i) ∧ S ≠ m ∧ S ≠ c ∧ S ≠ l')
      ⟨l1, [], upd_same, rfl, by simp, Kp.new hS, keep_same (same_new hS), D1.new hS, (ne_of_none e31 hS).symm, (ne_of_none e32 hS).symm, (ne_of_none e33 hS).symm⟩ ?_ ?_
    · rintro i H' hi ⟨l', rs, hL, hlen, hrs, kp, kk, D2, nm, nc, nl⟩
      refine ⟨rfl, yes_turn ?_⟩
      have kt := K1.trans kk
      refine ⟨_, rfl, _, rfl, a, _, 3, _, rfl, rfl, kt.tup ha, atI_nat (j := 3) rfl, mm, _, rfl, .inr (kt.tup hm), m, c, l', k + many - (i + 1), (ms.length : Int), rfl, by omega, by omega, ?_, fun r l'' H'' r0 r1 kp' D' => ?_⟩
      · have e : k + many - (i + 1) + 1 = k + many - i := by omega
        rw [e]
        exact D2
      obtain ⟨hL', nl'⟩ := kp'.own hL nm nl
      refine ⟨_, hL', ?_, l'', rs ++ [r.toNat], ?_, by simp [hlen], ?_, (kp.trans kp').set hS, (kk.trans (keep_draw kp' D2)).trans (keep_set hL'), D'.set nm nc nl', nm, nc, nl'⟩
      · show (rs.map _).length < _
        rw [List.length_map]
        exact small1000 (by omega)
      · rw [upd_same]
        unfold rowV
        rw [List.map_append]
        have e : r = ((r.toNat : Nat) : Int) := by omega
        show _ = some (HO.lst (_ ++ [V.int ((r.toNat : Nat) : Int)]))
        rw [← e]
      · intro z hz
        rcases List.mem_append.mp hz with h | h
        · exact hrs z h
        · rw [List.mem_singleton.mp h]
          omega
    · rintro H4 ⟨l4, rs, hL, hlen, hrs, kp4, kk, D4, nm, nc, nl⟩
      refine ⟨S, _, rfl, .inl ⟨SqL.of hL, fun t ht => ?_⟩⟩
      exact q _ rs l4 _ ((kp1.trans kp4).trans (Kp.new ht)) ((D4.less (by omega)).new ht) ⟨by omega, hrs⟩ (by omega) (dp_row upd_tup)
end
end My

/-! how long the texts of data are -/
namespace My
open PySem PySem.Spec PyProof.Rows L2
theorem textFrom_le {n : Nat} : ∀ (ts : List Str) (k : Nat) (acc : Str), (∀ t ∈ ts, t.length ≤ n) → (textFrom k acc ts).length ≤ acc.length + ts.length * (n + 2)
  | [], k, acc, _ => by show acc.length ≤ _; omega
  | t :: ts, k, acc, h => by
    have ht := h t List.mem_cons_self
    have hr := textFrom_le ts (k + 1) (acc ++ (if k > 0 then ", " else "" : String) ++ t) fun e he => h e (List.mem_cons_of_mem _ he)
    show (textFrom (k + 1) (acc ++ (if k > 0 then ", " else "" : String) ++ t) ts).length ≤ _
    have e : (((if k > 0 then ", " else "" : String) : Str)).length ≤ 2 := by split <;> decide
    rw [strLen_append, strLen_append] at hr
    rw [List.length_cons, Nat.succ_mul]
    omega
theorem shown_all {n : Nat} : ∀ {ds : List PyData}, (∀ d ∈ ds, d.shown.length ≤ n) → ∀ t ∈ PyData.shownAll ds, t.length ≤ n
  | [], _, _, ht => by cases ht
  | d :: r, h, t, ht => by
    rcases List.mem_cons.mp (show t ∈ d.shown :: PyData.shownAll r from ht) with e | e
    · rw [e]; exact h d List.mem_cons_self
    · exact shown_all (fun e he => h e (List.mem_cons_of_mem _ he)) t e
theorem sh_list {k n : Nat} {ds : List PyData} (h : ∀ d ∈ ds, Sh k n d) : Sh (k + 1) (ds.length * (n + 2) + 2) (.list ds) := by
  obtain ⟨h1, h2, h3, h4, h5⟩ := sh_all h
  refine ⟨h1, h2, Nat.succ_le_succ h3, ?_⟩
  show (listText (PyData.shownAll ds)).length ≤ _
  unfold listText
  rw [strLen_append]
  have e1 : ((("[" : String) : Str)).length = 1 := rfl
  have e2 : ((("]" : String) : Str)).length = 1 := rfl
  have := textFrom_le (n := n) (PyData.shownAll ds) 0 "[" (shown_all fun d hd => (h d hd).le)
  rw [h5] at this
  omega
theorem sh_cod {C : Cod} (O : C.Ok) : Sh 3 400000 C.dat := by
  have a : Sh 2 70000 (.tuple (C.steps.map .int)) := (sh_ints fun z hz => by
    have := O.s3 z hz
    omega).mono (by decide) (by have := O.s2; omega)
  have b : Sh 2 70000 (.tuple (C.moves.map pairI)) := by
    refine (sh_tup (k := 1) (n := 4000) (ds := C.moves.map pairI) fun d hd => ?_).mono (Nat.le_refl _) (by rw [List.length_map]; have := O.m2; omega)
    obtain ⟨p, hp, rfl⟩ := List.mem_map.mp hd
    have := O.m3 p hp
    exact sh_pair (by omega) (by omega)
  have l := O.l1
  have l2 := O.l2
  have h1 := O.h1
  have h2 := O.h2
  have i : ∀ z : Int, z.natAbs < 2 ^ 64 → Sh 2 70000 (.int z) := fun z hz => (sh_int hz).mono (by decide) (by decide)
  refine (sh_tup (k := 2) (n := 70000) (ds := [.int C.low, .int C.high, .tuple (C.steps.map .int), .tuple (C.moves.map pairI), .int C.fade]) fun d hd => ?_).mono (Nat.le_refl _) (by simp)
  rcases List.mem_cons.mp hd with e | hd
  · rw [e]; exact i _ (by omega)
  rcases List.mem_cons.mp hd with e | hd
  · rw [e]; exact i _ (by omega)
  rcases List.mem_cons.mp hd with e | hd
  · rw [e]; exact a
  rcases List.mem_cons.mp hd with e | hd
  · rw [e]; exact b
  · rw [List.mem_singleton.mp hd]; exact i _ (by have := O.f1; omega)
theorem sh_non : Sh 0 2000 .none := ⟨rfl, rfl, Nat.le_refl _, by decide +kernel⟩
theorem sh_bl : Sh 0 2000 (.bool true) := ⟨rfl, rfl, Nat.le_refl _, by decide +kernel⟩
theorem sh_bf : Sh 0 2000 (.bool false) := ⟨rfl, rfl, Nat.le_refl _, by decide +kernel⟩
theorem sh_i {i : Int} (h : i.natAbs < 2 ^ 64) : Sh 0 2000 (.int i) := (sh_int h).mono (Nat.le_refl _) (by decide)
theorem all0 {p : PyData → Prop} : ∀ d ∈ ([] : List PyData), p d := fun _ h => by cases h
theorem all1 {p : PyData → Prop} {a : PyData} {r : List PyData} (h : p a) (hr : ∀ d ∈ r, p d) : ∀ d ∈ a :: r, p d := fun d hd => by
  rcases List.mem_cons.mp hd with e | e
  · rw [e]; exact h
  · exact hr d e
/-- of at most three small things -/
theorem sh_t {k n : Nat} {ds : List PyData} (hl : ds.length ≤ 3) (h : ∀ d ∈ ds, Sh k n d) : Sh (k + 1) (3 * (n + 2) + 3) (.tuple ds) :=
  (sh_tup h).mono (Nat.le_refl _) (Nat.add_le_add_right (Nat.mul_le_mul_right _ hl) _)
theorem sh_l {k n : Nat} {ds : List PyData} (hl : ds.length ≤ 3) (h : ∀ d ∈ ds, Sh k n d) : Sh (k + 1) (3 * (n + 2) + 3) (.list ds) :=
  (sh_list h).mono (Nat.le_refl _) (Nat.add_le_add (Nat.mul_le_mul_right _ hl) (by decide))
end My

namespace My
open PySem PySem.Spec PyProof.Rows L2
section
variable {P : Program} {w : World} {K : PySem.W.Frag} {mg : Str → Option Value} {base : Heap}
theorem ok_law_parted (T : Txt K mg) : FnOk P w K mg base CX0 2 T.f__law_parted T.d__law_parted ["number", "by"] sp_rounded := by
  refine T.F__law_parted.ok sc_law_parted (fun vs H Q E h => ?_) (fun cdv A outer s H vs Q E hr h => ?_)
  · obtain ⟨n, d, rfl, _⟩ := h
    rfl
  · obtain ⟨n, d, rfl, h1, h2, q⟩ := h
    have q' : ∀ z, rnd n d = z → Q (.int z) H := fun z e => e ▸ q
    refine ⟨_,
(pss_one (ps_ret (pe_ifExp (pt_cmpR op_ge (pv 0) pe_int (nomark _)) (pe_op op_fdivN (pv 0) (pv 1)) (pe_op op_sub pe_int (pe_op op_fdivN (pe_op op_sub pe_int (pv 0)) (pv 1))))))
, ?_⟩
    refine ⟨_, rfl, n, 0, rfl, rfl, _, rfl, ?_⟩
    refine ite2 (fun e => ?_) (fun e => ?_)
    · have e := of_decide_eq_true e
      refine ⟨_, rfl, _, rfl, n, d, rfl, rfl, ⟨by omega, by omega⟩, q' _ ?_⟩
      unfold rnd
      rw [if_neg (by omega)]
    · have e : ¬ 0 ≤ n := fun z => e (decide_eq_true z)
      refine ⟨_, rfl, 0, n, rfl, rfl, _, rfl, _, d, rfl, rfl, ⟨by omega, by omega⟩, 0, _, rfl, rfl, q' _ ?_⟩
      unfold rnd
      rw [if_pos (by omega), Int.zero_sub, Int.zero_sub]
theorem ok_law_limited (T : Txt K mg) : FnOk P w K mg base CX0 2 T.f__law_limited T.d__law_limited ["number", "least", "most"] sp_limited := by
  refine T.F__law_limited.ok sc_law_limited (fun vs H Q E h => ?_) (fun cdv A outer s H vs Q E hr h => ?_)
  · obtain ⟨n, lo, hi, rfl, _⟩ := h
    rfl
  · obtain ⟨n, lo, hi, rfl, h1, q⟩ := h
    have q' : ∀ z, lim n lo hi = z → Q (.int z) H := fun z e => e ▸ q
    refine ⟨_,
(pss_one (ps_ret (pe_ifExp (pt_cmpR op_lt (pv 0) (pv 1) (nomark _)) (pv 1) (pe_ifExp (pt_cmpR op_gt (pv 0) (pv 2) (nomark _)) (pv 2) (pv 0)))))
, ?_⟩
    refine ⟨_, rfl, _, rfl, n, lo, rfl, rfl, _, rfl, ?_⟩
    refine ite2 (fun e => ?_) (fun e => ?_)
    · have e := of_decide_eq_true e
      refine ⟨_, rfl, q' _ ?_⟩
      unfold lim
      rw [if_pos e]
    · have e : ¬ n < lo := fun z => e (decide_eq_true z)
      refine ⟨_, rfl, _, rfl, n, hi, rfl, rfl, _, rfl, ?_⟩
      refine ite2 (fun e' => ?_) (fun e' => ?_)
      · have e' := of_decide_eq_true e'
        refine ⟨_, rfl, q' _ ?_⟩
        unfold lim
        rw [if_neg e, if_pos (by omega)]
      · have e' : ¬ hi < n := fun z => e' (decide_eq_true z)
        refine ⟨_, rfl, q' _ ?_⟩
        unfold lim
        rw [if_neg e, if_neg (by omega)]
set_option maxHeartbeats 4000000 in
theorem ok_law_led (T : Txt K mg) : FnOk P w K mg base CX0 3 T.f__law_led T.d__law_led ["coder", "here", "code"] (sp_state_behind K) := by
  refine T.F__law_led.ok sc_law_led (fun vs H Q E h => ?_) (fun cdv A outer s H vs Q E hr h => ?_)
  · obtain ⟨c, x, C, s, k, rfl, _⟩ := h
    rfl
  · obtain ⟨c, x, C, st, k, rfl, O, hc, hx, hst, hk, q⟩ := h
    obtain ⟨a, s, m, ms, rfl, ha, hs, hm, hmd⟩ := cod_at hc
    obtain ⟨t, ht, hT⟩ := move_at hmd hk
    obtain ⟨b, rfl, hb⟩ := dp_pair hx
    obtain ⟨i1, i2, i3, i4⟩ := hst
    have e2 : st.2 = (st.2.toNat : Int) := by omega
    refine ⟨_,
(pss_cons (ps_asg (pe_ix ix_tup (pe_ix ix_tup (pv 0) pe_int (fun _ _ => rfl)) (pv 2) (fun _ _ => rfl)) (pg_tup (by rfl) (pgs_cons (pg_name (i := 3) sc_law_led.nd rfl (Or.inl rfl)) (pgs_cons (pg_name (i := 4) sc_law_led.nd rfl (Or.inl rfl)) pgs_nil))))
      (pss_cons (ps_set (i := 5) sc_law_led.nd rfl (Or.inl rfl) (pe_ix ix_tup (pv 1) pe_int (fun _ _ => rfl)))
      (pss_cons (ps_if (pt_cmpR op_ne (pe_ix ix_tup (pv 0) pe_int (fun _ _ => rfl)) pe_int (nomark _)) (pss_one (ps_set (i := 5) sc_law_led.nd rfl (Or.inl rfl) (pe_op op_sub (pv 5) (pe_call (ok_law_parted T) (hr.mono (by decide)) (by rfl) T.g__law_parted T.F__law_parted.kp T.b__law_parted .nil pass0 (pa_cons (pv 5) (pa_cons (pe_ix ix_tup (pv 0) pe_int (fun _ _ => rfl)) pa_nil)))))) pss_nil)
      (pss_cons (ps_set (i := 5) sc_law_led.nd rfl (Or.inl rfl) (pe_op op_add (pv 5) (pe_call (ok_law_parted T) (hr.mono (by decide)) (by rfl) T.g__law_parted T.F__law_parted.kp T.b__law_parted .nil pass0 (pa_cons (pe_op op_mul (pv 3) (pe_ix ix_tup (pe_ix ix_tup (pv 0) pe_int (fun _ _ => rfl)) (pe_ix ix_tup (pv 1) pe_int (fun _ _ => rfl)) (fun _ _ => rfl))) (pa_cons pe_int pa_nil)))))
      (pss_one (ps_ret (pe_tup (pa_cons (pe_call (ok_law_limited T) (hr.mono (by decide)) (by rfl) T.g__law_limited T.F__law_limited.kp T.b__law_limited .nil pass0 (pa_cons (pv 5) (pa_cons (pe_ix ix_tup (pv 0) pe_int (fun _ _ => rfl)) (pa_cons (pe_ix ix_tup (pv 0) pe_int (fun _ _ => rfl)) pa_nil)))) (pa_cons (pe_call (ok_law_limited T) (hr.mono (by decide)) (by rfl) T.g__law_limited T.F__law_limited.kp T.b__law_limited .nil pass0 (pa_cons (pe_op op_add (pe_ix ix_tup (pv 1) pe_int (fun _ _ => rfl)) (pv 4)) (pa_cons pe_int (pa_cons (pe_op op_sub (pe_callB (call_len_seq) (by rfl) T.z_len (by decide +kernel) (pa_cons (pe_ix ix_tup (pv 0) pe_int (fun _ _ => rfl)) pa_nil)) pe_int) pa_nil)))) pa_nil)))))))))
, ?_⟩
    refine ⟨_, rfl, a, _, 3, _, rfl, rfl, ha, atI_nat (j := 3) rfl, _, rfl, m, _, k, _, rfl, rfl, hm, atI_nat ht, t, _, rfl, hT, rfl, _, _, rfl, _, _, rfl, rfl, ?_⟩
    refine ⟨_, rfl, b, _, 0, _, rfl, rfl, hb, atI_nat (j := 0) rfl, ?_⟩
    dsimp only
    refine st_tail (fun σ H' => σ = [some (.ref a), some (.ref b), some (.int k), some (.int (C.moves.getD k (0, 0)).1), some (.int (C.moves.getD k (0, 0)).2), some (.int (fdd st.1 C.fade))] ∧ H' = H) ?_ fun tail => ?_
    · rintro σ H' ⟨rfl, rfl⟩
      refine ⟨_, rfl, _, rfl, .ref a, rfl, a, _, 2, _, rfl, rfl, ha, atI_nat (j := 2) rfl, _, rfl, b, _, 1, _, rfl, rfl, hb, atI_nat (j := 1) rfl, s, _, st.2, .int (C.steps.getD st.2.toNat 0), rfl, rfl, hs, ?_, _, _, rfl, rfl, ?_, ?_⟩
      · rw [e2]
        exact atI_nat (step_at (by omega))
      · have hm3 : (C.moves.getD k (0, 0)) ∈ C.moves := by
          rw [List.getD_eq_getElem?_getD, List.getElem?_eq_getElem hk]
          exact List.getElem_mem hk
        have := O.m3 _ hm3
        exact .inl ⟨by omega, by omega⟩
      refine ⟨_, 8, rfl, by decide, by decide, _, _, rfl, rfl, ?_⟩
      refine ⟨_, rfl, _, rfl, a, _, 0, _, rfl, rfl, ha, atI_nat (j := 0) rfl, _, rfl, a, _, 1, _, rfl, rfl, ha, atI_nat (j := 1) rfl, _, _, _, rfl, by have := O.l2; have := O.h1; omega, ?_⟩
      refine ⟨_, rfl, b, _, 1, _, rfl, rfl, hb, atI_nat (j := 1) rfl, .int (C.moves.getD k (0, 0)).2, rfl, _, _, rfl, rfl, .ref a, rfl, a, _, 2, _, rfl, rfl, ha, atI_nat (j := 2) rfl, s, C.steps.map V.int, rfl, .inr hs, ((C.steps.map V.int).length : Int), 1, rfl, rfl, ?_⟩
      refine ⟨st.2 + (C.moves.getD k (0, 0)).2, 0, ((C.steps.map V.int).length : Int) - 1, rfl, ?_, ?_⟩
      · show (0 : Int) ≤ ((C.steps.map V.int).length : Int) - 1
        rw [List.length_map]
        have := O.s1
        omega
      refine ⟨by show 2 ≤ sizeLine; decide, fun p hp => ?_⟩
      have := q p hp
      unfold Cod.led at this
      have e : ((C.steps.map V.int).length : Int) = (C.steps.length : Int) := by rw [List.length_map]
      rw [← e] at this
      exact this
    · refine ⟨_, rfl, a, _, 4, _, rfl, rfl, ha, atI_nat (j := 4) rfl, rfl, _, rfl, ?_⟩
      show if (!decide (V.int C.fade = V.int 0)) = true then _ else _
      by_cases e : C.fade = 0
      · rw [e]
        refine iteF ?_
        refine tail _ _ ⟨?_, rfl⟩
        unfold fdd
        rw [if_pos e]
        rfl
      · have e' : decide (V.int C.fade = V.int 0) = false := decide_eq_false fun z => e (V.int.inj z)
        rw [e']
        refine iteT ?_
        refine ⟨.int st.1, rfl, .int st.1, rfl, .ref a, rfl, a, _, 4, _, rfl, rfl, ha, atI_nat (j := 4) rfl, st.1, C.fade, rfl, by have := O.f1; omega, by have := O.f1; omega, st.1, rnd st.1 C.fade, rfl, rfl, ?_⟩
        refine tail _ _ ⟨?_, rfl⟩
        unfold fdd
        rw [if_neg e]
        rfl
/-- the states of a row, the beginning one too -/
def Cod.path (C : Cod) (s : Int × Int) : List Nat → List (Int × Int)
  | [] => [s]
  | k :: r => s :: Cod.path C (C.led s k) r
theorem path_snoc {C : Cod} : ∀ (r : List Nat) (s : Int × Int) (k : Nat), C.path s (r ++ [k]) = C.path s r ++ [C.led (C.run s r) k]
  | [], _, _ => rfl
  | j :: r, s, k => by
    show s :: C.path (C.led s j) (r ++ [k]) = _
    rw [path_snoc r (C.led s j) k]
    rfl
theorem path_last {C : Cod} : ∀ (r : List Nat) (s : Int × Int), ∃ l, C.path s r = l ++ [C.run s r]
  | [], s => ⟨[], rfl⟩
  | j :: r, s => by
    obtain ⟨l, e⟩ := path_last r (C.led s j)
    exact ⟨s :: l, by show s :: C.path (C.led s j) r = _; rw [e]; rfl⟩
theorem path_len {C : Cod} : ∀ (r : List Nat) (s : Int × Int), (C.path s r).length = r.length + 1
  | [], _ => rfl
  | j :: r, s => congrArg (· + 1) (path_len r (C.led s j))
theorem path_get {C : Cod} : ∀ (r : List Nat) (s : Int × Int) (i : Nat), i ≤ r.length → (C.path s r)[i]? = some (C.run s (r.take i))
  | [], _, 0, _ => rfl
  | [], _, i + 1, h => by simp at h
  | j :: r, s, 0, _ => rfl
  | j :: r, s, i + 1, h => by
    show (C.path (C.led s j) r)[i]? = _
    exact path_get r _ i (by simpa using h)
theorem path_tail {C : Cod} : ∀ (r : List Nat) (s : Int × Int), ((C.path s r).drop 1).map (·.1) = C.lev s r
  | [], _ => rfl
  | [k], _ => rfl
  | k :: j :: r, s => by
    have ih := path_tail (C := C) (j :: r) (C.led s k)
    show (C.path (C.led s k) (j :: r)).map (·.1) = (C.led s k).1 :: C.lev (C.led s k) (j :: r)
    rw [← ih]
    rfl
def sp_law_walked (K : PySem.W.Frag) : Sp := fun vs H Q _ => ∃ (c x r : V) (C : Cod) (row : List Nat) (s : Int × Int), vs = [c, x, r] ∧ C.Ok ∧ Dp K H c C.dat ∧ Dp K H r (rowI row) ∧ C.Row row ∧ Dp K H x (pairI s) ∧ C.St s ∧
  ∀ p xs H', Same H H' → H p = none → H' p = some (.lst xs) → DpAll K H' xs ((C.path s row).map pairI) → Q (.ref p) H'
theorem ok_law_walked (T : Txt K mg) : FnOk P w K mg base CX0 4 T.f__law_walked T.d__law_walked ["coder", "here", "row"] (sp_law_walked K) := by
  refine T.F__law_walked.ok sc_law_walked (fun vs H Q E h => ?_) (fun cdv A outer s H vs Q E hr h => ?_)
  · obtain ⟨c, x, r, C, row, s, rfl, _⟩ := h
    rfl
  · obtain ⟨c, x, r, C, row, st, rfl, O, hc, hrow, R, hx, hst, q⟩ := h
    refine ⟨_,
(pss_cons (ps_set (i := 3) sc_law_walked.nd rfl (Or.inl rfl) (pe_lst (pa_cons (pv 1) pa_nil)))
      (pss_cons (ps_for PassesOwn.never rfl (pi_tup (pv 2)) (pg_name (i := 4) sc_law_walked.nd rfl (Or.inl rfl)) (pss_one (ps_expr (pe_bm PySem.F.plainAttrs_list PySem.F.slot_list_append PySem.F.type_list_append mt_append (pv 3) (pa_cons (pe_call (ok_law_led T) (hr.mono (by decide)) (by rfl) T.g__law_led T.F__law_led.kp T.b__law_led .nil pass0 (pa_cons (pv 0) (pa_cons (pe_ix ix_list (pv 3) (pe_un un_neg pe_int) (fun _ _ => rfl)) (pa_cons (pv 4) pa_nil)))) pa_nil)))))
      (pss_one (ps_ret (pv 3)))))
, ?_⟩
    refine ⟨x, rfl, by show 1 ≤ sizeLine; decide, fun l hl => ?_⟩
    have s1 := same_new (o := .lst [x]) hl
    obtain ⟨a, rfl, ha⟩ := row_at hrow
    refine ⟨.ref a, rfl, a, rfl, ⟨_, same_tup s1 ha⟩, ?_⟩
    refine for_tup (K := K) (a := a) (xs := rowV row) (fun i σ H' => ∃ xs y, σ = [some c, some x, some (.ref a), some (.ref l), y] ∧ Same H H' ∧ H' l = some (.lst xs) ∧ DpAll K H' xs ((C.path st (row.take i)).map pairI))
      ⟨[x], none, rfl, s1, upd_same, .cons (dp_same s1 _ _ hx) .nil⟩ ?_ ?_ ?_
    · rintro i σ H' _ ⟨_, _, _, s2, _⟩
      exact same_tup s2 ha
    · rintro i v σ H' hi ⟨xs, y, rfl, s2, hL, hD⟩
      obtain ⟨k, hk, rfl⟩ := rowV_get hi
      obtain ⟨ps, hps⟩ := path_last (C := C) (row.take i) st
      obtain ⟨x1, x2, rfl, z, e2, hz⟩ : ∃ x1 x2, xs = x1 ++ x2 ∧ ∃ z, x2 = [z] ∧ Dp K H' z (pairI (C.run st (row.take i))) := by
        have hl2 := dpAll_len hD
        rw [hps] at hD hl2
        have hne : xs ≠ [] := by
          intro e
          rw [e] at hl2
          simp at hl2
        refine ⟨xs.dropLast, [xs.getLast hne], (List.dropLast_concat_getLast hne).symm, _, rfl, ?_⟩
        obtain ⟨z, hz, hd⟩ := dpAll_get' hD (i := ps.length) (d := pairI (C.run st (row.take i))) (by rw [List.map_append, List.getElem?_append_right (by simp)]; simp)
        have hxl : xs.length = ps.length + 1 := by rw [hl2]; simp
        have : xs.getLast hne = z := by
          rw [List.getLast_eq_getElem]
          have e : xs[xs.length - 1]? = some z := by rw [hxl]; exact hz
          exact (List.getElem?_eq_some_iff.mp e).2
        rw [this]
        exact hd
      subst e2
      have hlen : i < 2000 := by
        have h1 := (List.getElem?_eq_some_iff.mp hk).1
        have := R.len
        omega
      refine ⟨.ref l, rfl, .inl ⟨rfl, _, SqL.of hL⟩, c, rfl, .ref l, rfl, 1, rfl, l, _, -1, z, rfl, rfl, SqL.of hL, atI_last _ _, .int k, rfl, c, z, C, _, k, rfl, O, dp_same s2 _ _ hc, hz, run_St O _ hst, R.lt k (List.mem_of_getElem? hk), fun p hp => ?_⟩
      have s3 := s2.trans (same_new (o := .tup [.int (C.led (C.run st (row.take i)) k).1, .int (C.led (C.run st (row.take i)) k).2]) hp)
      have hL3 := same_new (o := .tup [.int (C.led (C.run st (row.take i)) k).1, .int (C.led (C.run st (row.take i)) k).2]) hp _ _ hL
      have hD3 := dpAll_same (same_new (o := .tup [.int (C.led (C.run st (row.take i)) k).1, .int (C.led (C.run st (row.take i)) k).2]) hp) _ _ hD
      refine ⟨l, _, _, rfl, rfl, hL3, ?_, ?_⟩
      · rw [dpAll_len hD, List.length_map, path_len, List.length_take]
        exact Nat.lt_of_le_of_lt (Nat.add_le_add_right (Nat.min_le_left _ _) 1) (by have : i + 1 ≤ 2000 := hlen; exact Nat.lt_of_le_of_lt this (by decide))
      · refine ⟨_, _, rfl, fun b o hb => ?_, upd_same, ?_⟩
        · rw [upd_ne (ne_of_none hb hl)]
          exact s3 b o hb
        · rw [take_snoc hk, path_snoc, List.map_append]
          exact dpAll_app (pairs_set hL3 hD3) (.cons (dp_mkpair (sqt_set hL3 upd_tup)) .nil)
    · rintro σ H' ⟨xs, y, rfl, s2, hL, hD⟩
      have e : row.take (rowV row).length = row := by
        unfold rowV
        rw [List.length_map, List.take_length]
      rw [e] at hD
      exact ⟨.ref l, rfl, q l xs H' s2 hl hL hD⟩
end
end My

namespace My
open PySem PySem.Spec PyProof.Rows L2
/-! ### what rows do to places and levels -/
def Cod.plc (C : Cod) (p : Int) (k : Nat) : Int := lim (p + (C.moves.getD k (0, 0)).2) 0 ((C.steps.length : Int) - 1)
def Cod.pl (C : Cod) (p : Int) : List Nat → Int
  | [] => p
  | k :: r => Cod.pl C (C.plc p k) r
def Cod.chs (C : Cod) (p : Int) : List Nat → List Int
  | [] => []
  | k :: r => C.chg k p.toNat :: Cod.chs C (C.plc p k) r
def Cod.lvc (C : Cod) (l c : Int) : Int := lim (fdd l C.fade + c) C.low C.high
def Cod.lv (C : Cod) (l : Int) : List Int → Int
  | [] => l
  | c :: r => Cod.lv C (C.lvc l c) r
theorem run_split {C : Cod} : ∀ (row : List Nat) (l p : Int), C.run (l, p) row = (C.lv l (C.chs p row), C.pl p row)
  | [], _, _ => rfl
  | k :: r, l, p => run_split r (C.lvc l (C.chg k p.toNat)) (C.plc p k)
theorem run_eq {C : Cod} (row : List Nat) (s : Int × Int) : C.run s row = (C.lv s.1 (C.chs s.2 row), C.pl s.2 row) := run_split row s.1 s.2
theorem pl_snoc {C : Cod} : ∀ (r : List Nat) (p : Int) (k : Nat), C.pl p (r ++ [k]) = C.plc (C.pl p r) k
  | [], _, _ => rfl
  | j :: r, p, k => pl_snoc r (C.plc p j) k
theorem chs_snoc {C : Cod} : ∀ (r : List Nat) (p : Int) (k : Nat), C.chs p (r ++ [k]) = C.chs p r ++ [C.chg k (C.pl p r).toNat]
  | [], _, _ => rfl
  | j :: r, p, k => congrArg (C.chg j p.toNat :: ·) (chs_snoc r (C.plc p j) k)
theorem chs_len {C : Cod} : ∀ (r : List Nat) (p : Int), (C.chs p r).length = r.length
  | [], _ => rfl
  | _ :: r, _ => congrArg (· + 1) (chs_len r _)
theorem lv_snoc {C : Cod} : ∀ (r : List Int) (l c : Int), C.lv l (r ++ [c]) = C.lvc (C.lv l r) c
  | [], _, _ => rfl
  | j :: r, l, c => lv_snoc r (C.lvc l j) c
def Cod.pIn (C : Cod) (p : Int) : Prop := 0 ≤ p ∧ p ≤ (C.steps.length : Int) - 1
def Cod.lIn (C : Cod) (l : Int) : Prop := C.low ≤ l ∧ l ≤ C.high
theorem plc_in {C : Cod} (O : C.Ok) (p : Int) (k : Nat) : C.pIn (C.plc p k) := lim_in (by have := O.s1; omega)
theorem lvc_in {C : Cod} (O : C.Ok) (l c : Int) : C.lIn (C.lvc l c) := lim_in (by have := O.l2; have := O.h1; omega)
theorem pl_in {C : Cod} (O : C.Ok) : ∀ (r : List Nat) {p : Int}, C.pIn p → C.pIn (C.pl p r)
  | [], _, h => h
  | k :: r, p, _ => pl_in O r (plc_in O p k)
theorem lv_in {C : Cod} (O : C.Ok) : ∀ (r : List Int) {l : Int}, C.lIn l → C.lIn (C.lv l r)
  | [], _, h => h
  | c :: r, l, _ => lv_in O r (lvc_in O l c)
theorem lim_mono {a b lo hi : Int} (h : a ≤ b) (hl : lo ≤ hi) : lim a lo hi ≤ lim b lo hi := by
  unfold lim
  split <;> split <;> (try split) <;> omega
theorem lim_step {a b lo hi : Int} (h : a ≤ b) (h1 : b ≤ a + 1) (hl : lo ≤ hi) : lim b lo hi ≤ lim a lo hi + 1 := by
  unfold lim
  split <;> split <;> (try split) <;> omega
theorem div_next {a f : Int} (hf : 2 ≤ f) : (a + 1) / f ≤ a / f + 1 := by
  have h : (a + f) / f = a / f + 1 := Int.add_ediv_of_dvd_right (Int.dvd_refl f) |>.trans (by rw [Int.ediv_self (by omega)])
  rw [← h]
  exact Int.ediv_le_ediv (by omega) (by omega)
theorem rnd_next {a f : Int} (hf : 2 ≤ f) : rnd a f ≤ rnd (a + 1) f ∧ rnd (a + 1) f ≤ rnd a f + 1 := by
  unfold rnd
  split
  · rename_i h
    rw [Int.fdiv_eq_ediv_of_nonneg _ (by omega)]
    split
    · rw [Int.fdiv_eq_ediv_of_nonneg _ (by omega)]
      have h1 := div_next (a := -(a + 1)) hf
      have h2 : -(a + 1) / f ≤ -a / f := Int.ediv_le_ediv (by omega) (by omega)
      rw [show -(a + 1) + 1 = -a by omega] at h1
      omega
    · rw [Int.fdiv_eq_ediv_of_nonneg _ (by omega)]
      have e : a = -1 := by omega
      subst e
      have h0 : (0 : Int) / f = 0 := Int.zero_ediv f
      have h1 : (1 : Int) / f = 0 := Int.ediv_eq_zero_of_lt (by omega) (by omega)
      simp [h0, h1]
  · rename_i h
    rw [if_neg (by omega), Int.fdiv_eq_ediv_of_nonneg _ (by omega), Int.fdiv_eq_ediv_of_nonneg _ (by omega)]
    exact ⟨Int.ediv_le_ediv (by omega) (by omega), div_next hf⟩
theorem fdd_next {a f : Int} (hf : f = 0 ∨ 2 ≤ f) : fdd a f ≤ fdd (a + 1) f ∧ fdd (a + 1) f ≤ fdd a f + 1 := by
  unfold fdd
  split
  · omega
  · have := rnd_next (a := a) (f := f) (by omega)
    omega
theorem lvc_next {C : Cod} (O : C.Ok) (l c : Int) : C.lvc l c ≤ C.lvc (l + 1) c ∧ C.lvc (l + 1) c ≤ C.lvc l c + 1 := by
  have h := fdd_next (a := l) (f := C.fade) (by have := O.f1; omega)
  have hl : C.low ≤ C.high := by have := O.l2; have := O.h1; omega
  exact ⟨lim_mono (by omega) hl, lim_step (by omega) (by omega) hl⟩
theorem mono_of_next {f : Int → Int} (h : ∀ a, f a ≤ f (a + 1)) {a b : Int} (hab : a ≤ b) : f a ≤ f b := by
  obtain ⟨n, rfl⟩ : ∃ n : Nat, b = a + n := ⟨(b - a).toNat, by omega⟩
  clear hab
  induction n with
  | zero => simp
  | succ n ih =>
    have := h (a + n)
    rw [show a + ((n + 1 : Nat) : Int) = a + n + 1 by omega]
    omega
theorem lv_next {C : Cod} (O : C.Ok) : ∀ (r : List Int) (l m : Int), l ≤ m → m ≤ l + 1 → C.lv l r ≤ C.lv m r ∧ C.lv m r ≤ C.lv l r + 1
  | [], l, m, h1, h2 => ⟨h1, h2⟩
  | c :: r, l, m, h1, h2 => by
    have h : m = l ∨ m = l + 1 := by omega
    rcases h with e | e
    · subst e
      exact ⟨Int.le_refl _, by omega⟩
    · subst e
      have := lvc_next O l c
      exact lv_next O r _ _ this.1 this.2
theorem lv_mono {C : Cod} (O : C.Ok) (r : List Int) {a b : Int} (h : a ≤ b) : C.lv a r ≤ C.lv b r :=
  mono_of_next (f := fun l => C.lv l r) (fun a => (lv_next O r a (a + 1) (by omega) (by omega)).1) h
theorem pl_mono {C : Cod} (O : C.Ok) : ∀ (r : List Nat) {a b : Int}, a ≤ b → C.pl a r ≤ C.pl b r
  | [], _, _, h => h
  | k :: r, a, b, h => pl_mono O r (lim_mono (by omega) (by have := O.s1; omega))
/-- without a fade: three integers tell the map -/
theorem lv_limits {C : Cod} (O : C.Ok) (h0 : C.fade = 0) (l : Int) (hl : C.lIn l) : ∀ (r : List Int),
    C.lv l r = lim (l + r.sum) (C.lv C.low r) (C.lv C.high r) := by
  have key : ∀ (n : Nat) (r : List Int), r.length = n → C.lv l r = lim (l + r.sum) (C.lv C.low r) (C.lv C.high r) ∧ C.lv C.low r ≤ C.lv C.high r := by
    intro n
    induction n with
    | zero =>
      intro r hr
      have e : r = [] := List.length_eq_zero_iff.mp hr
      subst e
      have := hl.1
      have := hl.2
      refine ⟨?_, by show C.low ≤ C.high; omega⟩
      show l = lim (l + 0) C.low C.high
      unfold lim
      rw [if_neg (by omega), if_neg (by omega)]
      omega
    | succ n ih =>
      intro r hr
      obtain ⟨q, c, rfl⟩ : ∃ q c, r = q ++ [c] := ⟨r.dropLast, r.getLast (by intro e; rw [e] at hr; cases hr), (List.dropLast_concat_getLast _).symm⟩
      have hq : q.length = n := by simp at hr; exact hr
      obtain ⟨e, hle⟩ := ih q hq
      rw [lv_snoc, lv_snoc, lv_snoc, e]
      have hs : (q ++ [c]).sum = q.sum + c := by simp
      rw [hs]
      unfold Cod.lvc fdd
      rw [if_pos h0, if_pos h0, if_pos h0]
      have hlh : C.low ≤ C.high := by have := O.l2; have := O.h1; omega
      generalize C.lv C.low q = A at *
      generalize C.lv C.high q = B at *
      generalize q.sum = S
      refine ⟨?_, lim_mono (by omega) hlh⟩
      unfold lim
      (repeat' split) <;> omega
  exact fun r => (key r.length r rfl).1
theorem lv_lim_le {C : Cod} (O : C.Ok) (r : List Int) : C.lv C.low r ≤ C.lv C.high r := lv_mono O r (by have := O.l2; have := O.h1; omega)
/-! ### repetitions -/
def itr (f : Int → Int) : Nat → Int → Int
  | 0, x => x
  | n + 1, x => f (itr f n x)
theorem itr_in {f : Int → Int} {lo hi x : Int} (hf : ∀ y, lo ≤ y ∧ y ≤ hi → lo ≤ f y ∧ f y ≤ hi) (hx : lo ≤ x ∧ x ≤ hi) : ∀ n, lo ≤ itr f n x ∧ itr f n x ≤ hi
  | 0 => hx
  | n + 1 => hf _ (itr_in hf hx n)
theorem itr_le {f : Int → Int} {lo hi x : Int} (hf : ∀ y, lo ≤ y ∧ y ≤ hi → lo ≤ f y ∧ f y ≤ hi) (hm : ∀ a b, a ≤ b → f a ≤ f b) (hx : lo ≤ x ∧ x ≤ hi)
    {n : Nat} (h : ∀ j < n, itr f (j + 1) x ≠ itr f j x) : (n : Int) ≤ hi - lo := by
  rcases Int.le_total x (f x) with hd | hd
  · have up : ∀ j, itr f j x ≤ itr f (j + 1) x := by
      intro j
      induction j with
      | zero => exact hd
      | succ j ih => exact hm _ _ ih
    have : ∀ j ≤ n, x + (j : Int) ≤ itr f j x := by
      intro j
      induction j with
      | zero => intro _; show x + 0 ≤ x; omega
      | succ j ih =>
        intro hj
        have h1 := ih (by omega)
        have h2 := up j
        have h3 := h j (by omega)
        omega
    have h1 := this n (Nat.le_refl _)
    have h2 := itr_in hf hx n
    omega
  · have dn : ∀ j, itr f (j + 1) x ≤ itr f j x := by
      intro j
      induction j with
      | zero => exact hd
      | succ j ih => exact hm _ _ ih
    have : ∀ j ≤ n, itr f j x ≤ x - (j : Int) := by
      intro j
      induction j with
      | zero => intro _; show x ≤ x - 0; omega
      | succ j ih =>
        intro hj
        have h1 := ih (by omega)
        have h2 := dn j
        have h3 := h j (by omega)
        omega
    have h1 := this n (Nat.le_refl _)
    have h2 := itr_in hf hx n
    omega
theorem itr_rest {f : Int → Int} {x : Int} {n : Nat} (h : itr f (n + 1) x = itr f n x) : ∀ k, itr f (n + k) x = itr f n x
  | 0 => rfl
  | k + 1 => by
    show f (itr f (n + k) x) = _
    rw [itr_rest h k]
    exact h
def Cod.rep (C : Cod) (row : List Nat) (s : Int × Int) : Nat → Int × Int
  | 0 => s
  | n + 1 => C.run (Cod.rep C row s n) row
theorem rep_St {C : Cod} (O : C.Ok) {row : List Nat} {s : Int × Int} (h : C.St s) : ∀ n, C.St (C.rep row s n)
  | 0 => h
  | n + 1 => run_St O row (rep_St O h n)
theorem rep_pl {C : Cod} {row : List Nat} {s : Int × Int} : ∀ n, (C.rep row s n).2 = itr (fun p => C.pl p row) n s.2
  | 0 => rfl
  | n + 1 => by
    show (C.run (C.rep row s n) row).2 = C.pl (itr (fun p => C.pl p row) n s.2) row
    rw [run_eq, ← rep_pl n]
theorem rep_lv {C : Cod} {row : List Nat} {s : Int × Int} {P : Nat} (hP : (C.rep row s (P + 1)).2 = (C.rep row s P).2) :
    ∀ j, C.rep row s (P + j) = (itr (fun l => C.lv l (C.chs (C.rep row s P).2 row)) j (C.rep row s P).1, (C.rep row s P).2)
  | 0 => rfl
  | j + 1 => by
    show C.run (C.rep row s (P + j)) row = _
    rw [rep_lv hP j, run_eq]
    have e : C.pl (C.rep row s P).2 row = (C.rep row s P).2 := by
      have : (C.run (C.rep row s P) row).2 = (C.rep row s P).2 := hP
      rw [run_eq] at this
      exact this
    rw [e]
    rfl
theorem rep_rest {C : Cod} {row : List Nat} {s : Int × Int} {T : Nat} (h : C.rep row s (T + 1) = C.rep row s T) : ∀ k, C.rep row s (T + k) = C.rep row s T
  | 0 => rfl
  | k + 1 => by
    show C.run (C.rep row s (T + k)) row = _
    rw [rep_rest h k]
    exact h
/-- the places come to rest behind just P repetitions -/
structure Rests (C : Cod) (row : List Nat) (s : Int × Int) (P : Nat) : Prop where
  mv : ∀ j < P, (C.rep row s (j + 1)).2 ≠ (C.rep row s j).2
  st : (C.rep row s (P + 1)).2 = (C.rep row s P).2
/-- the row settles behind just T repetitions, the place with P of them -/
structure Settles (C : Cod) (row : List Nat) (s : Int × Int) (T P : Nat) : Prop where
  mv : ∀ j < T, C.rep row s (j + 1) ≠ C.rep row s j
  st : C.rep row s (T + 1) = C.rep row s T
  pl : (C.rep row s (P + 1)).2 = (C.rep row s P).2
  pT : P ≤ T
  pm : (P : Int) ≤ (C.steps.length : Int) - 1
  tm : (T : Int) ≤ (C.steps.length : Int) - 1 + (C.high - C.low)
theorem places_le {C : Cod} (O : C.Ok) {row : List Nat} {s : Int × Int} (hs : C.St s) {n : Nat} (h : ∀ j < n, (C.rep row s (j + 1)).2 ≠ (C.rep row s j).2) : (n : Int) ≤ (C.steps.length : Int) - 1 := by
  have := itr_le (f := fun p => C.pl p row) (lo := 0) (hi := (C.steps.length : Int) - 1) (x := s.2) (fun y hy => pl_in O row hy) (fun a b hab => pl_mono O row hab) ⟨hs.2.2.1, by have := hs.2.2.2; omega⟩
    (n := n) (fun j hj => by rw [← rep_pl, ← rep_pl]; exact h j hj)
  omega
theorem levels_le {C : Cod} (O : C.Ok) {cs : List Int} {l : Int} (hl : C.lIn l) {n : Nat} (h : ∀ j < n, itr (fun l => C.lv l cs) (j + 1) l ≠ itr (fun l => C.lv l cs) j l) : (n : Int) ≤ C.high - C.low :=
  itr_le (f := fun l => C.lv l cs) (fun _ hy => lv_in O cs hy) (fun _ _ hab => lv_mono O cs hab) hl h
theorem settles_of {C : Cod} (O : C.Ok) {row : List Nat} {s : Int × Int} (hs : C.St s) {P Q : Nat} (r : Rests C row s P)
    (mv : ∀ j < Q, itr (fun l => C.lv l (C.chs (C.rep row s P).2 row)) (j + 1) (C.rep row s P).1 ≠ itr (fun l => C.lv l (C.chs (C.rep row s P).2 row)) j (C.rep row s P).1)
    (st : itr (fun l => C.lv l (C.chs (C.rep row s P).2 row)) (Q + 1) (C.rep row s P).1 = itr (fun l => C.lv l (C.chs (C.rep row s P).2 row)) Q (C.rep row s P).1) : Settles C row s (P + Q) P := by
  have h1 := places_le O hs r.mv
  have hS := rep_St O (row := row) hs P
  have h2 := levels_le O ⟨hS.1, hS.2.1⟩ mv
  refine ⟨fun j hj e => ?_, ?_, r.st, by omega, h1, by omega⟩
  · rcases Nat.lt_or_ge j P with h | h
    · exact r.mv j h (by rw [e])
    · obtain ⟨i, rfl⟩ : ∃ i, j = P + i := ⟨j - P, by omega⟩
      have e' : C.rep row s (P + (i + 1)) = C.rep row s (P + i) := e
      rw [rep_lv r.st, rep_lv r.st] at e'
      exact mv i (by omega) (congrArg Prod.fst e')
  · show C.rep row s (P + (Q + 1)) = _
    rw [rep_lv r.st, rep_lv r.st, st]
end My

namespace My
open PySem PySem.Spec PyProof.Rows L2
theorem same_put {H H' : Hp} {p : Addr} {o : HO} (s : Same H H') (h : H p = none) : Same H (upd H' p o) := fun b u e => by
  rw [upd_ne (ne_of_none e h)]
  exact s b u e
theorem cut2 (a b c d e : V) : cutV [a, b, c, d, e] none (some 2) = [a, b] := rfl
theorem cut3 (a b c d e : V) : cutV [a, b, c, d, e] none (some 3) = [a, b, c] := rfl
def Cod.reps (C : Cod) (row : List Nat) (s : Int × Int) (n : Nat) : List (Int × Int) := (List.range n).map (C.rep row s)
theorem reps_succ {C : Cod} {row : List Nat} {s : Int × Int} (n : Nat) : C.reps row s (n + 1) = C.reps row s n ++ [C.rep row s n] := by
  unfold Cod.reps
  rw [List.range_succ, List.map_append]
  rfl
theorem reps_len {C : Cod} {row : List Nat} {s : Int × Int} (n : Nat) : (C.reps row s n).length = n := by
  unfold Cod.reps
  rw [List.length_map, List.length_range]
/-- what one more repetition makes of a level, without a fade by three integers -/
def Cod.lim3 (C : Cod) (cs : List Int) : Int × Int × Int := (cs.sum, C.lv C.low cs, C.lv C.high cs)
section
variable {P : Program} {w : World} {K : PySem.W.Frag} {mg : Str → Option Value} {base : Heap}
def sp_row_behind (K : PySem.W.Frag) : Sp := fun vs H Q _ => ∃ (c r x : V) (C : Cod) (row : List Nat) (s : Int × Int), vs = [c, r, x] ∧ C.Ok ∧ Dp K H c C.dat ∧ Dp K H r (rowI row) ∧ (∀ k ∈ row, k < C.moves.length) ∧ Dp K H x (pairI s) ∧ C.St s ∧
  ∀ z H', Same H H' → Dp K H' z (pairI (C.run s row)) → Q z H'
theorem ok_state_behind_row (T : Txt K mg) : FnOk P w K mg base CX0 5 T.f_state_behind_row T.d_state_behind_row ["coder", "row", "state"] (sp_row_behind K) := by
  refine T.F_state_behind_row.ok sc_state_behind_row (fun vs H Q E h => ?_) (fun cdv A outer s H vs Q E hr h => ?_)
  · obtain ⟨c, r, x, C, row, s, rfl, _⟩ := h
    rfl
  · obtain ⟨c, r, x, C, row, st, rfl, O, hc, hrow, R, hx, hst, q⟩ := h
    refine ⟨_,
(pss_cons (ps_set (i := 3) sc_state_behind_row.nd rfl (Or.inl rfl) (pv 2))
      (pss_cons (ps_for PassesOwn.never rfl (pi_tup (pv 1)) (pg_name (i := 4) sc_state_behind_row.nd rfl (Or.inl rfl)) (pss_one (ps_set (i := 3) sc_state_behind_row.nd rfl (Or.inl rfl) (pe_call (ok_state_behind T) (hr.mono (by decide)) (by rfl) T.g_state_behind T.F_state_behind.kp T.b_state_behind .nil pass0 (pa_cons (pv 0) (pa_cons (pv 3) (pa_cons (pv 4) pa_nil)))))))
      (pss_one (ps_ret (pv 3)))))
, ?_⟩
    obtain ⟨a, rfl, ha⟩ := row_at hrow
    refine ⟨x, rfl, .ref a, rfl, a, rfl, ⟨_, ha⟩, ?_⟩
    refine for_tup (K := K) (a := a) (xs := rowV row) (fun i σ H' => ∃ z y, σ = [some c, some (.ref a), some x, some z, y] ∧ Same H H' ∧ Dp K H' z (pairI (C.run st (row.take i)))) ⟨x, none, rfl, Same.refl H, hx⟩ ?_ ?_ ?_
    · rintro i σ H' _ ⟨_, _, _, s2, _⟩
      exact same_tup s2 ha
    · rintro i v σ H' hi ⟨z, y, rfl, s2, hz⟩
      obtain ⟨k, hk, rfl⟩ := rowV_get hi
      refine ⟨c, rfl, z, rfl, .int k, rfl, c, z, C, _, k, rfl, O, dp_same s2 _ _ hc, hz, run_St O _ hst, R k (List.mem_of_getElem? hk), fun p hp => ?_⟩
      refine ⟨.ref p, _, rfl, s2.trans (same_new hp), ?_⟩
      rw [take_snoc hk, run_snoc]
      exact dp_mkpair upd_tup
    · rintro σ H' ⟨z, y, rfl, s2, hz⟩
      have e : row.take (rowV row).length = row := by
        unfold rowV
        rw [List.length_map, List.take_length]
      rw [e] at hz
      exact ⟨z, rfl, q z H' s2 hz⟩
end
end My

namespace My
open PySem PySem.Spec PyProof.Rows L2
/-! ### what is right passes -/
def rowD (C : Cod) : PyData → Bool
  | .tuple ds => decide (ds.length ≤ 2000) && ds.all fun d => btw d 0 ((C.moves.length : Int) - 1)
  | _ => false
theorem Cod.Row.ok {C : Cod} {r : List Nat} (h : C.Row r) : rowD C (rowI r) = true := by
  show (decide _ && _) = true
  rw [decide_eq_true (by rw [List.length_map]; exact h.len), Bool.true_and, List.all_eq_true]
  intro d hd
  obtain ⟨k, hk, rfl⟩ := List.mem_map.mp hd
  have := h.lt k hk
  exact btw_in (by omega) (by omega)
section
variable {P : Program} {w : World} {K : PySem.W.Frag} {mg : Str → Option Value} {base : Heap}
end
end My

/-! refusals of rows and states -/
namespace My
open PySem PySem.Spec PyProof.Rows L2
/-- a thing handed in as a row: a tuple of data, or anything but a tuple -/
def Th (K : PySem.W.Frag) (H : Hp) (x : V) : Option (List PyData) → Prop
  | none => ∃ T : String, TyX K H x (.type T) ∧ PySem.W.kitOne K (.type T) (.type "tuple") = some false
  | some ds => Dp K H x (.tuple ds)
theorem Th.same {K : PySem.W.Frag} {H H' : Hp} {x : V} {r : Option (List PyData)} (s : Same H H') (h : Th K H x r) : Th K H' x r := by
  cases r with
  | some ds => exact dp_same s _ _ h
  | none =>
    obtain ⟨T, h1, h2⟩ := h
    refine ⟨T, ?_, h2⟩
    cases h1 with
    | base h =>
      cases h with
      | non => exact .base .non
      | bl b => exact .base (.bl b)
      | int i => exact .base (.int i)
      | str x => exact .base (.str x)
      | flt x => exact .base (.flt x)
      | lst e => exact .base (.lst (s _ _ e))
      | frz e => exact .base (.frz (s _ _ e))
      | tup e => exact .base (.tup (s _ _ e))
      | dK e => exact .base (.dK (s _ _ e))
      | dT e => exact .base (.dT (s _ _ e))
    | byt b => exact .byt b
    | set e => exact .set (s _ _ e)
    | kList e c => exact .kList e c
    | kTuple e c => exact .kTuple e c
    | kDict e c => exact .kDict e c
    | fTuple e => exact .fTuple (s _ _ e)
    | fDict e => exact .fDict (s _ _ e)
def codeD (C : Cod) (d : PyData) : Bool := btw d 0 ((C.moves.length : Int) - 1)
/-- the place of the first thing that cannot stand in a row -/
def rowBad (C : Cod) : Nat → List PyData → Option Nat
  | _, [] => none
  | i, d :: r => if (decide (i = 2000) || !codeD C d) = true then some i else rowBad C (i + 1) r
theorem rowBad_step {C : Cod} {ds : List PyData} {i : Nat} {d : PyData} (h : ds[i]? = some d) : rowBad C i (ds.drop i) = if (decide (i = 2000) || !codeD C d) = true then some i else rowBad C (i + 1) (ds.drop (i + 1)) := by
  have hi := (List.getElem?_eq_some_iff.mp h).1
  have e : ds.drop i = d :: ds.drop (i + 1) := by
    rw [List.drop_eq_getElem_cons hi]
    rw [List.getElem?_eq_getElem hi] at h
    rw [Option.some.inj h]
  rw [e]
  rfl
def rowRes (C : Cod) : Option (List PyData) → Option (Int × Int)
  | none => some (0, 0)
  | some ds => (rowBad C 0 ds).map fun (i : Nat) => ((1 : Int), (i : Int) + 1)
theorem rowRes_bad {C : Cod} {ds : List PyData} {i : Nat} (h : rowBad C 0 ds = some i) : rowRes C (some ds) = some (1, (i : Int) + 1) := by
  show (rowBad C 0 ds).map _ = _
  rw [h]
  rfl
theorem rowRes_ok {C : Cod} {ds : List PyData} (h : rowBad C 0 ds = none) : rowRes C (some ds) = none := by
  show (rowBad C 0 ds).map _ = _
  rw [h]
  rfl
theorem codeD_out {C : Cod} {d : PyData} (h : codeD C d = true) : ∃ k : Nat, d = .int (k : Int) ∧ k < C.moves.length := by
  cases d with
  | int n =>
    obtain ⟨a, b⟩ := Bool.and_eq_true_iff.mp (show (decide (0 ≤ n) && decide (n ≤ (C.moves.length : Int) - 1)) = true from h)
    have a := of_decide_eq_true a
    have b := of_decide_eq_true b
    exact ⟨n.toNat, by congr 1; omega, by omega⟩
  | _ => cases h
theorem rowBad_none {C : Cod} : ∀ {ds : List PyData} {i : Nat}, i ≤ 2000 → rowBad C i ds = none → i + ds.length ≤ 2000 ∧ ∃ row : List Nat, ds = row.map (fun k : Nat => PyData.int (k : Int)) ∧ ∀ k ∈ row, k < C.moves.length
  | [], i, hi, _ => ⟨hi, [], rfl, fun _ h => by cases h⟩
  | d :: r, i, hi, h => by
    replace h : (if (decide (i = 2000) || !codeD C d) = true then some i else rowBad C (i + 1) r) = none := h
    by_cases e : (decide (i = 2000) || !codeD C d) = true
    · rw [if_pos e] at h
      cases h
    · rw [if_neg e] at h
      have e : (decide (i = 2000) || !codeD C d) = false := by
        cases hb : (decide (i = 2000) || !codeD C d) with
        | true => exact absurd hb e
        | false => rfl
      obtain ⟨e1, e2⟩ := Bool.or_eq_false_iff.mp e
      have e1 := of_decide_eq_false e1
      have e2 : codeD C d = true := by
        cases hb : codeD C d with
        | true => rfl
        | false => rw [hb] at e2; cases e2
      obtain ⟨k, rfl, hk⟩ := codeD_out e2
      obtain ⟨h1, row, rfl, h2⟩ := rowBad_none (by omega) h
      refine ⟨by rw [List.length_cons]; omega, k :: row, rfl, fun j hj => ?_⟩
      rcases List.mem_cons.mp hj with z | z
      · rw [z]; exact hk
      · exact h2 j z
theorem rowRes_row {C : Cod} {r : Option (List PyData)} (h : rowRes C r = none) : ∃ row : List Nat, r = some (row.map (fun k : Nat => PyData.int (k : Int))) ∧ C.Row row := by
  cases r with
  | none => cases h
  | some ds =>
    have h : (rowBad C 0 ds).map (fun (i : Nat) => ((1 : Int), (i : Int) + 1)) = none := h
    cases e : rowBad C 0 ds with
    | some i => rw [e] at h; cases h
    | none =>
      obtain ⟨h1, row, rfl, h2⟩ := rowBad_none (by omega) e
      rw [List.length_map] at h1
      exact ⟨row, rfl, by omega, h2⟩
theorem stateD_out {C : Cod} {d : PyData} (h : stateD C d = true) : ∃ s, d = pairI s ∧ C.St s := by
  cases d with
  | tuple ds =>
    match ds, h with
    | [a, b], h =>
      obtain ⟨h1, h2⟩ := Bool.and_eq_true_iff.mp (show (btw a C.low C.high && btw b 0 ((C.steps.length : Int) - 1)) = true from h)
      obtain ⟨n, rfl, a1, a2⟩ := btw_out h1
      obtain ⟨p, rfl, b1, b2⟩ := btw_out h2
      exact ⟨(n, p), rfl, a1, a2, b1, by show p < C.steps.length; omega⟩
  | _ => cases h
/-- a refusal with BadRow(i, j): a new dict, all else stands -/
def RowE (C : Addr) (H : Hp) (E : XK) (i j : Int) : Prop := ∀ d H', Same H H' → H' d = some (.xd [("word", V.int j), ("row", V.int i)]) → E (.ref C) (some d) H'
theorem RowE.same {C : Addr} {H H' : Hp} {E : XK} {i j : Int} (s : Same H H') (h : RowE C H E i j) : RowE C H' E i j := fun d H'' s' hd => h d H'' (s.trans s') hd
theorem rowE_mk {C : Addr} {H : Hp} {E : XK} {i j : Int} (h : RowE C H E i j) {a d : Addr} {o1 o2 o3 o4 : HO} (ha : H a = none) (hd : upd H a o1 d = none) (n : d ≠ a) :
    E (.ref C) (some d) (upd (del (upd (upd (upd (upd H a o1) d o2) a o3) d o4) a) d (.xd [("word", V.int j), ("row", V.int i)])) := by
  rw [made2 ha n]
  have h0 : H d = none := (upd_ne n).symm.trans hd
  exact h d _ (same_new h0) upd_same
section
variable {P : Program} {w : World} {K : PySem.W.Frag} {mg : Str → Option Value} {base : Heap}
theorem okDX {x qual : Str} {params : Arguments} {body : List Stmt} {scope : Scope} {f : Addr} {fd : FuncData} {N ps : List Str} {k : Nat} {sp : Sp}
    (F : ∃ q, FunD K x qual params body scope [] [("state", V.ref q)] f fd) (S : FnScope N ps scope) (len : ∀ vs H Q E, sp vs H Q E → vs.length = ps.length)
    (hbody : ∀ (cdv : Value) (A : Around) (outer : List Env) (s : Shared) (H : Hp) (vs : List V) (Q : VK) (E : XK), Room k (A.deeper (envOfC qual scope s.heap.objs.size f cdv)) → sp vs H Q E →
      ∃ t, PSs (cxOf (L2.CX P w) P w K mg base N qual scope f cdv A outer s H E) body t ∧ t { nx := fun _ H' => Q .non H', rt := Q } (start N vs) H) : FnOk P w K mg base (L2.CX P w) (k + 1) f fd ps sp := by
  obtain ⟨q, F⟩ := F
  exact F.ok S len hbody
/-- a refusal with OutOfPlace: the heap stands -/
def spNeed (K : PySem.W.Frag) (O : Addr) (f : Cod → PyData → Bool) : Sp := fun vs H Q E => ∃ (c x : V) (C : Cod) (d : PyData), vs = [c, x] ∧ Dp K H c C.dat ∧ Dp K H x d ∧
  (f C d = true → ∀ H', Same H H' → Q .non H') ∧ (f C d = false → ∀ H', Same H H' → E (.ref O) none H')
end
end My

/-! _law_outcome(lambda: ..): what is raised is told. -/
namespace My
open PySem PySem.Spec PyProof.Rows L2 LamX
/-! rules within a lambda: the written part by its own name -/
theorem op_catAK {X : Cx} {K : PySem.W.Frag} (h : X.K = K := by rfl) : OpR X (binaryOp .Add) (rCatA K) := by
  subst h
  exact op_catA
theorem sl_tupAK {X : Cx} {K : PySem.W.Frag} (h : X.K = K := by rfl) : SlR X (rSlA K) := by
  subst h
  exact sl_tupA
def rListOf (K : PySem.W.Frag) : List V → Hp → VK → Prop := fun xs H Q => ∃ p ys, xs = [.ref p] ∧ (SqL K H p ys ∨ SqT K H p ys) ∧ ∀ l, H l = none → Q (.ref l) (upd H l (.lst ys))
theorem call_list_ofK {X : Cx} {K : PySem.W.Frag} (h : X.K = K := by rfl) : CallR X (.type "list") (rListOf K) := by
  subst h
  exact call_list_of
inductive Fl
  | coder (p n : PyData)
  | row (i j : PyData)
  | paper (p n : PyData)
  | byte (n : PyData)
  | great (n : PyData)
  | place
  | seam
  | nothing
def Fl.dat : Fl → PyData
  | .coder p n => .tuple [.str "coder", p, n]
  | .row i j => .tuple [.str "row", i, j]
  | .paper p n => .tuple [.str "paper", p, n]
  | .byte n => .tuple [.str "byte", n]
  | .great n => .tuple [.str "great", n]
  | .place => .tuple [.str "place", .none]
  | .seam => .tuple [.str "seam", .none]
  | .nothing => .tuple [.str "nothing", .none]
section
variable {P : Program} {w : World} {K : PySem.W.Frag} {mg : Str → Option Value} {base : Heap}
/-- what the exception of that class, with that dict, tells -/
def IsFl (T : Txt K mg) (cls : Value) (d : Option Addr) (H : Hp) : Fl → Prop
  | .coder p n => cls = .ref T.C_BadCoder ∧ ∃ dd vp vn, d = some dd ∧ H dd = some (.xd [("number", vn), ("part", vp)]) ∧ Dp K H vp p ∧ Dp K H vn n
  | .byte n => cls = .ref T.C_BadByte ∧ ∃ dd vn, d = some dd ∧ H dd = some (.xd [("number", vn)]) ∧ Dp K H vn n
  | .great n => cls = .ref T.C_TooGreat ∧ ∃ dd vn, d = some dd ∧ H dd = some (.xd [("most", vn)]) ∧ Dp K H vn n
  | _ => False
def sp_law_fault (T : Txt K mg) : Sp := fun vs H Q _ => ∃ (a : Addr) (D : Addr) (d : Option Addr) (f : Fl), vs = [.ref a] ∧ Exc H a D d ∧ IsFl T (.ref D) d H f ∧ ∀ z H', Same H H' → Dp K H' z f.dat → Q z H'
theorem ok_law_fault (T : Txt K mg) : FnOk P w K mg base CX0 2 T.f__law_fault T.d__law_fault ["e"] (sp_law_fault T) := by
  refine T.F__law_fault.ok sc_law_fault (fun vs H Q E h => ?_) (fun cdv A outer s H vs Q E hr h => ?_)
  · obtain ⟨a, D, d, f, rfl, _⟩ := h
    rfl
  · obtain ⟨a, D, d, f, rfl, he, hf, kq⟩ := h
    refine ⟨_,
(pss_cons (ps_set (i := 1) sc_law_fault.nd rfl (Or.inl rfl) (pe_lst pa_nil))
      (pss_cons (ps_if (pt_val (pe_callB (My.call_isT) (by rfl) T.z_isinstance (by decide +kernel) (pa_cons (pv 0) (pa_cons (pe_glob (v := .ref T.C_BadCoder) (by rfl) T.g_BadCoder rfl) pa_nil)))) (pss_one (ps_expr (pe_bm PySem.F.plainAttrs_list PySem.F.slot_list_append PySem.F.type_list_append mt_append (pv 1) (pa_cons (pe_tup (pa_cons pe_str (pa_cons (My.pe_xfT (pv 0)) (pa_cons (My.pe_xfT (pv 0)) pa_nil)))) pa_nil)))) pss_nil)
      (pss_cons (ps_if (pt_val (pe_callB (My.call_isT) (by rfl) T.z_isinstance (by decide +kernel) (pa_cons (pv 0) (pa_cons (pe_glob (v := .ref T.C_BadRow) (by rfl) T.g_BadRow rfl) pa_nil)))) (pss_one (ps_expr (pe_bm PySem.F.plainAttrs_list PySem.F.slot_list_append PySem.F.type_list_append mt_append (pv 1) (pa_cons (pe_tup (pa_cons pe_str (pa_cons (My.pe_xfT (pv 0)) (pa_cons (My.pe_xfT (pv 0)) pa_nil)))) pa_nil)))) pss_nil)
      (pss_cons (ps_if (pt_val (pe_callB (My.call_isT) (by rfl) T.z_isinstance (by decide +kernel) (pa_cons (pv 0) (pa_cons (pe_glob (v := .ref T.C_BadPaper) (by rfl) T.g_BadPaper rfl) pa_nil)))) (pss_one (ps_expr (pe_bm PySem.F.plainAttrs_list PySem.F.slot_list_append PySem.F.type_list_append mt_append (pv 1) (pa_cons (pe_tup (pa_cons pe_str (pa_cons (My.pe_xfT (pv 0)) (pa_cons (My.pe_xfT (pv 0)) pa_nil)))) pa_nil)))) pss_nil)
      (pss_cons (ps_if (pt_val (pe_callB (My.call_isT) (by rfl) T.z_isinstance (by decide +kernel) (pa_cons (pv 0) (pa_cons (pe_glob (v := .ref T.C_BadByte) (by rfl) T.g_BadByte rfl) pa_nil)))) (pss_one (ps_expr (pe_bm PySem.F.plainAttrs_list PySem.F.slot_list_append PySem.F.type_list_append mt_append (pv 1) (pa_cons (pe_tup (pa_cons pe_str (pa_cons (My.pe_xfT (pv 0)) pa_nil))) pa_nil)))) pss_nil)
      (pss_cons (ps_if (pt_val (pe_callB (My.call_isT) (by rfl) T.z_isinstance (by decide +kernel) (pa_cons (pv 0) (pa_cons (pe_glob (v := .ref T.C_TooGreat) (by rfl) T.g_TooGreat rfl) pa_nil)))) (pss_one (ps_expr (pe_bm PySem.F.plainAttrs_list PySem.F.slot_list_append PySem.F.type_list_append mt_append (pv 1) (pa_cons (pe_tup (pa_cons pe_str (pa_cons (My.pe_xfT (pv 0)) pa_nil))) pa_nil)))) pss_nil)
      (pss_cons (ps_if (pt_val (pe_callB (My.call_isT) (by rfl) T.z_isinstance (by decide +kernel) (pa_cons (pv 0) (pa_cons (pe_glob (v := .ref T.C_OutOfPlace) (by rfl) T.g_OutOfPlace rfl) pa_nil)))) (pss_one (ps_expr (pe_bm PySem.F.plainAttrs_list PySem.F.slot_list_append PySem.F.type_list_append mt_append (pv 1) (pa_cons (pe_tup (pa_cons pe_str (pa_cons pe_non pa_nil))) pa_nil)))) pss_nil)
      (pss_cons (ps_if (pt_val (pe_callB (My.call_isT) (by rfl) T.z_isinstance (by decide +kernel) (pa_cons (pv 0) (pa_cons (pe_glob (v := .ref T.C_NoSeam) (by rfl) T.g_NoSeam rfl) pa_nil)))) (pss_one (ps_expr (pe_bm PySem.F.plainAttrs_list PySem.F.slot_list_append PySem.F.type_list_append mt_append (pv 1) (pa_cons (pe_tup (pa_cons pe_str (pa_cons pe_non pa_nil))) pa_nil)))) pss_nil)
      (pss_cons (ps_if (pt_val (pe_callB (My.call_isT) (by rfl) T.z_isinstance (by decide +kernel) (pa_cons (pv 0) (pa_cons (pe_glob (v := .ref T.C_Nothing) (by rfl) T.g_Nothing rfl) pa_nil)))) (pss_one (ps_expr (pe_bm PySem.F.plainAttrs_list PySem.F.slot_list_append PySem.F.type_list_append mt_append (pv 1) (pa_cons (pe_tup (pa_cons pe_str (pa_cons pe_non pa_nil))) pa_nil)))) pss_nil)
      (pss_one (ps_ret (pe_ifExp (pt_cmpR op_eq (pe_callB (call_len_seq) (by rfl) T.z_len (by decide +kernel) (pa_cons (pv 1) pa_nil)) pe_int (nomark _)) (pe_ix ix_list (pv 1) pe_int (fun _ _ => rfl)) (pe_tup (pa_cons pe_str (pa_cons pe_non pa_nil)))))))))))))))
, ?_⟩
    refine ⟨by decide, fun p hp => ?_⟩
    cases f with
    | coder fv gv =>
      obtain ⟨e, dd, v0, v1, rfl, hd, h0, h1⟩ := hf
      cases e
      have hx0 : ∀ x, some dd = some x → ∃ fs, H x = some (.xd fs) := fun x e => ⟨_, by cases e; exact hd⟩
      obtain ⟨k0, k1, k2, k3, k4, k5, k6, k7, _⟩ := T.ks_BadCoder
      have s1 : Same H (upd H p (.lst [])) := same_new hp
      have p1 : upd H p (.lst []) p = some (.lst []) := upd_same
      generalize upd H p (.lst []) = H1 at s1 p1
      have he1 : Exc H1 a T.C_BadCoder _ := s1 _ _ he
      have hx1 := fun x e => (hx0 x e).imp fun _ z => s1 _ _ z
      refine ⟨_, rfl, _, _, _, _, _, _, rfl, he1, hx1, T.X_BadCoder, fun _ r => r, k0, _, rfl, iteT ?_⟩
      refine ⟨_, rfl, .inl ⟨rfl, _, SqL.of p1⟩, _, rfl, _, _, _, _, _, rfl, he1, s1 _ _ hd, T.x_BadCoder, T.n_BadCoder_part, rfl, _, rfl, _, _, _, _, _, rfl, he1, s1 _ _ hd, T.x_BadCoder, T.n_BadCoder_number, rfl, by show 3 ≤ sizeLine; decide, fun q hq => ⟨p, _, _, rfl, rfl, (upd_ne (ne_of_none p1 hq)).trans p1, by show 0 + 1 ≤ sizeLine; decide, ?_⟩⟩
      have nqp : q ≠ p := fun z => by rw [z, p1] at hq; cases hq
      have s2 : Same H (upd (upd H1 q (.tup [.str "coder", v0, v1])) p (.lst ([] ++ [V.ref q]))) := fun b o e => by
        have nb : b ≠ p := fun z => by rw [z, hp] at e; cases e
        rw [upd_ne nb]
        exact same_new hq _ _ (s1 _ _ e)
      have p2 : upd (upd H1 q (.tup [.str "coder", v0, v1])) p (.lst ([] ++ [V.ref q])) p = some (.lst [V.ref q]) := upd_same
      have q2 : upd (upd H1 q (.tup [.str "coder", v0, v1])) p (.lst ([] ++ [V.ref q])) q = some (.tup [.str "coder", v0, v1]) := (upd_ne nqp).trans upd_same
      generalize upd (upd H1 q (.tup [.str "coder", v0, v1])) p (.lst ([] ++ [V.ref q])) = H2 at s2 p2 q2
      have he2 : Exc H2 a T.C_BadCoder _ := s2 _ _ he
      have hx2 := fun x e => (hx0 x e).imp fun _ z => s2 _ _ z
      refine ⟨_, rfl, _, _, _, _, _, _, rfl, he2, hx2, T.X_BadCoder, fun _ r => r, k1, _, rfl, iteF ?_⟩
      refine ⟨_, rfl, _, _, _, _, _, _, rfl, he2, hx2, T.X_BadCoder, fun _ r => r, k2, _, rfl, iteF ?_⟩
      refine ⟨_, rfl, _, _, _, _, _, _, rfl, he2, hx2, T.X_BadCoder, fun _ r => r, k3, _, rfl, iteF ?_⟩
      refine ⟨_, rfl, _, _, _, _, _, _, rfl, he2, hx2, T.X_BadCoder, fun _ r => r, k4, _, rfl, iteF ?_⟩
      refine ⟨_, rfl, _, _, _, _, _, _, rfl, he2, hx2, T.X_BadCoder, fun _ r => r, k5, _, rfl, iteF ?_⟩
      refine ⟨_, rfl, _, _, _, _, _, _, rfl, he2, hx2, T.X_BadCoder, fun _ r => r, k6, _, rfl, iteF ?_⟩
      refine ⟨_, rfl, _, _, _, _, _, _, rfl, he2, hx2, T.X_BadCoder, fun _ r => r, k7, _, rfl, iteF ?_⟩
      refine ⟨_, rfl, p, _, rfl, .inl (SqL.of p2), rfl, _, rfl, iteT ?_⟩
      exact ⟨_, rfl, p, _, 0, _, rfl, rfl, SqL.of p2, atI_nat (j := 0) rfl, kq _ H2 s2 (.tup (.inl (.inl q2)) (.cons (.str _) (.cons (dp_same s2 _ _ h0) (.cons (dp_same s2 _ _ h1) .nil))))⟩
    | byte fv =>
      obtain ⟨e, dd, v0, rfl, hd, h0⟩ := hf
      cases e
      have hx0 : ∀ x, some dd = some x → ∃ fs, H x = some (.xd fs) := fun x e => ⟨_, by cases e; exact hd⟩
      obtain ⟨k0, k1, k2, k3, k4, k5, k6, k7, _⟩ := T.ks_BadByte
      have s1 : Same H (upd H p (.lst [])) := same_new hp
      have p1 : upd H p (.lst []) p = some (.lst []) := upd_same
      generalize upd H p (.lst []) = H1 at s1 p1
      have he1 : Exc H1 a T.C_BadByte _ := s1 _ _ he
      have hx1 := fun x e => (hx0 x e).imp fun _ z => s1 _ _ z
      refine ⟨_, rfl, _, _, _, _, _, _, rfl, he1, hx1, T.X_BadByte, fun _ r => r, k0, _, rfl, iteF ?_⟩
      refine ⟨_, rfl, _, _, _, _, _, _, rfl, he1, hx1, T.X_BadByte, fun _ r => r, k1, _, rfl, iteF ?_⟩
      refine ⟨_, rfl, _, _, _, _, _, _, rfl, he1, hx1, T.X_BadByte, fun _ r => r, k2, _, rfl, iteF ?_⟩
      refine ⟨_, rfl, _, _, _, _, _, _, rfl, he1, hx1, T.X_BadByte, fun _ r => r, k3, _, rfl, iteT ?_⟩
      refine ⟨_, rfl, .inl ⟨rfl, _, SqL.of p1⟩, _, rfl, _, _, _, _, _, rfl, he1, s1 _ _ hd, T.x_BadByte, T.n_BadByte_number, rfl, by show 2 ≤ sizeLine; decide, fun q hq => ⟨p, _, _, rfl, rfl, (upd_ne (ne_of_none p1 hq)).trans p1, by show 0 + 1 ≤ sizeLine; decide, ?_⟩⟩
      have nqp : q ≠ p := fun z => by rw [z, p1] at hq; cases hq
      have s2 : Same H (upd (upd H1 q (.tup [.str "byte", v0])) p (.lst ([] ++ [V.ref q]))) := fun b o e => by
        have nb : b ≠ p := fun z => by rw [z, hp] at e; cases e
        rw [upd_ne nb]
        exact same_new hq _ _ (s1 _ _ e)
      have p2 : upd (upd H1 q (.tup [.str "byte", v0])) p (.lst ([] ++ [V.ref q])) p = some (.lst [V.ref q]) := upd_same
      have q2 : upd (upd H1 q (.tup [.str "byte", v0])) p (.lst ([] ++ [V.ref q])) q = some (.tup [.str "byte", v0]) := (upd_ne nqp).trans upd_same
      generalize upd (upd H1 q (.tup [.str "byte", v0])) p (.lst ([] ++ [V.ref q])) = H2 at s2 p2 q2
      have he2 : Exc H2 a T.C_BadByte _ := s2 _ _ he
      have hx2 := fun x e => (hx0 x e).imp fun _ z => s2 _ _ z
      refine ⟨_, rfl, _, _, _, _, _, _, rfl, he2, hx2, T.X_BadByte, fun _ r => r, k4, _, rfl, iteF ?_⟩
      refine ⟨_, rfl, _, _, _, _, _, _, rfl, he2, hx2, T.X_BadByte, fun _ r => r, k5, _, rfl, iteF ?_⟩
      refine ⟨_, rfl, _, _, _, _, _, _, rfl, he2, hx2, T.X_BadByte, fun _ r => r, k6, _, rfl, iteF ?_⟩
      refine ⟨_, rfl, _, _, _, _, _, _, rfl, he2, hx2, T.X_BadByte, fun _ r => r, k7, _, rfl, iteF ?_⟩
      refine ⟨_, rfl, p, _, rfl, .inl (SqL.of p2), rfl, _, rfl, iteT ?_⟩
      exact ⟨_, rfl, p, _, 0, _, rfl, rfl, SqL.of p2, atI_nat (j := 0) rfl, kq _ H2 s2 (.tup (.inl (.inl q2)) (.cons (.str _) (.cons (dp_same s2 _ _ h0) .nil)))⟩
    | great fv =>
      obtain ⟨e, dd, v0, rfl, hd, h0⟩ := hf
      cases e
      have hx0 : ∀ x, some dd = some x → ∃ fs, H x = some (.xd fs) := fun x e => ⟨_, by cases e; exact hd⟩
      obtain ⟨k0, k1, k2, k3, k4, k5, k6, k7, _⟩ := T.ks_TooGreat
      have s1 : Same H (upd H p (.lst [])) := same_new hp
      have p1 : upd H p (.lst []) p = some (.lst []) := upd_same
      generalize upd H p (.lst []) = H1 at s1 p1
      have he1 : Exc H1 a T.C_TooGreat _ := s1 _ _ he
      have hx1 := fun x e => (hx0 x e).imp fun _ z => s1 _ _ z
      refine ⟨_, rfl, _, _, _, _, _, _, rfl, he1, hx1, T.X_TooGreat, fun _ r => r, k0, _, rfl, iteF ?_⟩
      refine ⟨_, rfl, _, _, _, _, _, _, rfl, he1, hx1, T.X_TooGreat, fun _ r => r, k1, _, rfl, iteF ?_⟩
      refine ⟨_, rfl, _, _, _, _, _, _, rfl, he1, hx1, T.X_TooGreat, fun _ r => r, k2, _, rfl, iteF ?_⟩
      refine ⟨_, rfl, _, _, _, _, _, _, rfl, he1, hx1, T.X_TooGreat, fun _ r => r, k3, _, rfl, iteF ?_⟩
      refine ⟨_, rfl, _, _, _, _, _, _, rfl, he1, hx1, T.X_TooGreat, fun _ r => r, k4, _, rfl, iteT ?_⟩
      refine ⟨_, rfl, .inl ⟨rfl, _, SqL.of p1⟩, _, rfl, _, _, _, _, _, rfl, he1, s1 _ _ hd, T.x_TooGreat, T.n_TooGreat_most, rfl, by show 2 ≤ sizeLine; decide, fun q hq => ⟨p, _, _, rfl, rfl, (upd_ne (ne_of_none p1 hq)).trans p1, by show 0 + 1 ≤ sizeLine; decide, ?_⟩⟩
      have nqp : q ≠ p := fun z => by rw [z, p1] at hq; cases hq
      have s2 : Same H (upd (upd H1 q (.tup [.str "great", v0])) p (.lst ([] ++ [V.ref q]))) := fun b o e => by
        have nb : b ≠ p := fun z => by rw [z, hp] at e; cases e
        rw [upd_ne nb]
        exact same_new hq _ _ (s1 _ _ e)
      have p2 : upd (upd H1 q (.tup [.str "great", v0])) p (.lst ([] ++ [V.ref q])) p = some (.lst [V.ref q]) := upd_same
      have q2 : upd (upd H1 q (.tup [.str "great", v0])) p (.lst ([] ++ [V.ref q])) q = some (.tup [.str "great", v0]) := (upd_ne nqp).trans upd_same
      generalize upd (upd H1 q (.tup [.str "great", v0])) p (.lst ([] ++ [V.ref q])) = H2 at s2 p2 q2
      have he2 : Exc H2 a T.C_TooGreat _ := s2 _ _ he
      have hx2 := fun x e => (hx0 x e).imp fun _ z => s2 _ _ z
      refine ⟨_, rfl, _, _, _, _, _, _, rfl, he2, hx2, T.X_TooGreat, fun _ r => r, k5, _, rfl, iteF ?_⟩
      refine ⟨_, rfl, _, _, _, _, _, _, rfl, he2, hx2, T.X_TooGreat, fun _ r => r, k6, _, rfl, iteF ?_⟩
      refine ⟨_, rfl, _, _, _, _, _, _, rfl, he2, hx2, T.X_TooGreat, fun _ r => r, k7, _, rfl, iteF ?_⟩
      refine ⟨_, rfl, p, _, rfl, .inl (SqL.of p2), rfl, _, rfl, iteT ?_⟩
      exact ⟨_, rfl, p, _, 0, _, rfl, rfl, SqL.of p2, atI_nat (j := 0) rfl, kq _ H2 s2 (.tup (.inl (.inl q2)) (.cons (.str _) (.cons (dp_same s2 _ _ h0) .nil)))⟩
    | _ => exact hf.elim
/-- the refusals that are told -/
def EO (T : Txt K mg) (Q : VK) : XK := fun cls d H' => ∃ f, IsFl T cls d H' f ∧ ∀ z H'', Same H' H'' → Dp K H'' z f.dat → Q z H''
def TTO (T : Txt K mg) : (XK → Hp → VK → Prop) → Hp → VK → Prop := fun tl H Q => ∀ H1, Same H H1 → ∀ Q2 : VK, (∀ v H2, (∀ l, H2 l = none → Q (.ref l) (upd H2 l (.lst [v]))) → Q2 v H2) → tl (EO T Q) H1 Q2
theorem isFl_em {T : Txt K mg} {cls : Value} {d : Option Addr} {H : Hp} {f : Fl} (h : IsFl T cls d H f) : ∃ (D : Addr) (bs : List Bool), cls = .ref D ∧
    exmEach K (.ref D) [.ref T.C_BadCoder, .ref T.C_BadRow, .ref T.C_BadPaper, .ref T.C_BadByte, .ref T.C_TooGreat, .ref T.C_OutOfPlace, .ref T.C_NoSeam, .ref T.C_Nothing] bs ∧ bs.any id = true := by
  cases f with
  | coder p n => exact ⟨_, _, h.1, T.em_BadCoder, rfl⟩
  | byte n => exact ⟨_, _, h.1, T.em_BadByte, rfl⟩
  | great n => exact ⟨_, _, h.1, T.em_TooGreat, rfl⟩
  | _ => exact h.elim
theorem isFl_same {T : Txt K mg} {cls : Value} {d : Option Addr} {H H' : Hp} {f : Fl} (s : Same H H') (h : IsFl T cls d H f) : IsFl T cls d H' f := by
  cases f with
  | coder p n =>
    obtain ⟨e, dd, vp, vn, e2, hd, h1, h2⟩ := h
    exact ⟨e, dd, vp, vn, e2, s _ _ hd, dp_same s _ _ h1, dp_same s _ _ h2⟩
  | byte n =>
    obtain ⟨e, dd, vn, e2, hd, h2⟩ := h
    exact ⟨e, dd, vn, e2, s _ _ hd, dp_same s _ _ h2⟩
  | great n =>
    obtain ⟨e, dd, vn, e2, hd, h2⟩ := h
    exact ⟨e, dd, vn, e2, s _ _ hd, dp_same s _ _ h2⟩
  | _ => exact h.elim
end
theorem sc_law_outcome' : FnScope ["deed", "caught", "found", "e"] ["deed"] (defScope s_law_outcome) := sc_law_outcome
theorem outcome_gives {X : Cx} (T : Txt X.K X.mg) (hr : Room 3 X.A) {g : Addr} {cdg : Value} {q : Str} :
    GivesTo X ["deed", "caught", "found", "e"] "_law_outcome" (defScope s_law_outcome) g cdg (defBody s_law_outcome) "deed" q (TTO T) := by
  intro f c' s H Q tl act hc h
  have hr' : Room 2 (cxOf C8.CX0 X.prog X.w X.K X.mg X.base ["deed", "caught", "found", "e"] "_law_outcome" (defScope s_law_outcome) g cdg X.A X.stack s H C8.E0).nox.A := hr.deeper _
  refine ⟨_, pss_cons (ps_asg (pe_tup (pa_cons pe_non (pa_cons pe_non pa_nil))) (pg_tup (by rfl) (pgs_cons (pg_name (i := 1) sc_law_outcome.nd rfl (Or.inl rfl)) (pgs_cons (pg_name (i := 2) sc_law_outcome.nd rfl (Or.inl rfl)) pgs_nil))))
    (pss_cons (ps_try_keep (i := 3) (j := 1) (cs := [.ref T.C_BadCoder, .ref T.C_BadRow, .ref T.C_BadPaper, .ref T.C_BadByte, .ref T.C_TooGreat, .ref T.C_OutOfPlace, .ref T.C_NoSeam, .ref T.C_Nothing])
      (tb := fun W D σ H => ∃ Ech : XK, (∀ cls d σ' H', Ech cls d H' → W cls d σ' H') ∧ σ[0]? = some (some (.ref f)) ∧ H c' = some (CodeO c' q) ∧ tl Ech H (fun v H' => D.nx (σ.set 2 (some v)) H'))
      rfl rfl rfl sc_law_outcome.nd rfl rfl rfl rfl (by decide) (by decide) (by decide)
      ⟨⟨by rfl, by decide, .inl T.g_BadCoder⟩, ⟨by rfl, by decide, .inl T.g_BadRow⟩, ⟨by rfl, by decide, .inl T.g_BadPaper⟩, ⟨by rfl, by decide, .inl T.g_BadByte⟩, ⟨by rfl, by decide, .inl T.g_TooGreat⟩, ⟨by rfl, by decide, .inl T.g_OutOfPlace⟩, ⟨by rfl, by decide, .inl T.g_NoSeam⟩, ⟨by rfl, by decide, .inl T.g_Nothing⟩, True.intro⟩
      (by show 8 ≤ sizeLine; decide) L2.takes0 (fun W pn xe tk _ => ?hb))
    (pss_one (ps_ret (pe_ifExp (pt_cmpR op_isN (pv 1) pe_non (nomark _)) (pe_lst (pa_cons (pv 2) pa_nil)) (pe_call (ok_law_fault T) (hr'.mono (by decide)) (by rfl) T.g__law_fault T.F__law_fault.kp T.b__law_fault .nil pass0 (pa_cons (pv 1) pa_nil)))))), ?go⟩
  case hb =>
    refine ⟨fun pins s' σ H' D I h' => ?_⟩
    obtain ⟨Ech, hW, h1, h2, h3⟩ := h'
    exact (pss_one (ps_set (i := 2) sc_law_outcome.nd rfl (Or.inl rfl) (act W pn xe Ech _ _ tk hW))).run pins s' σ H' D I ⟨h1, h2, h3⟩
  case go =>
    refine ⟨by decide, fun p hp => ?_⟩
    refine ⟨p, _, rfl, upd_tup, rfl, _, _, rfl, _, _, rfl, rfl, ?_⟩
    have s1 : Same H (upd H p (.tup [V.non, V.non])) := same_new hp
    generalize upd H p (.tup [V.non, V.non]) = H1 at s1
    refine ⟨EO T Q, fun cls d σ' H' hE => ?_, rfl, s1 _ _ hc, ?_⟩
    · obtain ⟨fl, hf, kq⟩ := hE
      obtain ⟨D0, bs, rfl, hem, hany⟩ := isFl_em hf
      refine ⟨bs, hem, fun _ hlen a ha => ?_, fun e => by rw [hany] at e; cases e⟩
      match σ', hlen with
      | [x0, x1, x2, x3], _ =>
        have s2 : Same H' (upd H' a (exT a (.ref D0) d)) := same_new ha
        refine ⟨.ref a, rfl, rfl, _, rfl, iteF ?_⟩
        exact ⟨.ref a, rfl, a, D0, d, fl, rfl, upd_same, isFl_same s2 hf, fun z H'' s3 hz => kq z H'' (s2.trans s3) hz⟩
    · refine h H1 s1 _ fun v H2 hv => ?_
      refine ⟨.non, rfl, rfl, _, rfl, iteT ?_⟩
      exact ⟨v, rfl, by show 1 ≤ sizeLine; decide, hv⟩
/-- _law_outcome(lambda: body) -/
theorem pe_outcome {X : Cx} (T : Txt X.K X.mg) {c P : Addr} {k : Nat} {body : Expr} {params : Arguments} {scope : Scope} {t : XK → TE} {p lpos pos : Pos} (TB : TabB X.base X.mg c P) (hcode : X.env.code = .ref c) (hg : Gl X "_law_outcome") (hr : Room (k + 3) X.A) (L : LamS X.env.scope scope)
    (hdef : defaultsOf params X.env = ([], [])) (hbind : ∀ (q : Str) (cl : List (Str × Addr)) (pm cv ctv : Value), bindArgs (PySem.W.kla_fn "<lambda>" q params body scope cl pm cv ctv) ⟨[], []⟩ = pure [])
    (hbody : ∀ (A : Around) (outer : List Env) (s : Shared) (H : Hp) (E : XK) (f c' : Addr), Room (k + 1) (A.deeper (lamEnv X scope s.heap.objs.size f c')) → PE (lamCx X A outer s H E scope f c') body (t E)) :
    PE X (.Call (.Name "_law_outcome" p) [.Lambda params body scope lpos] [] pos) (tLam [(P, X.env.qual ++ "<lambda>")] (TTO T) t) := by
  obtain ⟨oc, od, dV, kV, doc, pm, an, cdv, ct, osl, lk, hcd, hb⟩ := T.lk_oc
  exact pe_lamcall (k := k + 1) (Ng := ["deed", "caught", "found", "e"]) (a := "deed") hg T.g__law_outcome T.kp_oc lk hcd hb sc_law_outcome rfl (.inl rfl) (outcome_gives T (hr.mono (by omega))) TB hcode (List.mem_singleton.mpr rfl)
    (fun p hp _ => by rw [List.mem_singleton.mp hp]) hr L hdef hbind hbody
end My

namespace My
open PySem PySem.Spec PyProof.Rows L2
/-! ### slices and sums of tuples of anything -/
theorem sl_takeV {K : PySem.W.Frag} {H : Hp} {a : Addr} {xs : List V} {n : Nat} {Q : VK} (h : SqT K H a xs) (hn : n ≤ xs.length) (k : ∀ b H', Same H H' → SqT K H' b (xs.take n) → Q (.ref b) H') :
    rSlA K (.ref a) none (some (n : Int)) H Q := by
  refine ⟨a, xs, rfl, h, fun ⟨_, e⟩ => ?_, fun _ p hp => ?_⟩
  · rw [HT.sIx_nat, Nat.min_eq_left hn] at e
    refine k _ H (Same.refl H) ?_
    rw [e, List.take_length]
    exact h
  · refine k _ _ (same_new hp) ?_
    rw [cut_take hn]
    exact upd_tup
theorem sl_dropV {K : PySem.W.Frag} {H : Hp} {a : Addr} {xs : List V} {n : Nat} {Q : VK} (h : SqT K H a xs) (hn : n ≤ xs.length) (k : ∀ b H', Same H H' → SqT K H' b (xs.drop n) → Q (.ref b) H') :
    rSlA K (.ref a) (some (n : Int)) none H Q := by
  refine ⟨a, xs, rfl, h, fun ⟨e, _⟩ => ?_, fun _ p hp => ?_⟩
  · rw [HT.sIx_nat, Nat.min_eq_left hn] at e
    refine k _ H (Same.refl H) ?_
    rw [e]
    exact h
  · refine k _ _ (same_new hp) ?_
    rw [cut_drop hn]
    exact upd_tup
theorem cat_any {K : PySem.W.Frag} {H : Hp} {a b : Addr} {xs ys : List V} {Q : VK} (ha : SqT K H a xs) (hb : SqT K H b ys) (hl : xs.length + ys.length ≤ sizeLine)
    (k : ∀ c H', Same H H' → SqT K H' c (xs ++ ys) → Q (.ref c) H') : rCatA K (.ref a) (.ref b) H Q := by
  refine ⟨a, b, _, _, rfl, rfl, ha, hb, hl, fun e => ?_, fun _ e => ?_, fun _ _ p hp => ?_⟩
  · refine k _ H (Same.refl H) ?_
    rw [e]
    exact hb
  · refine k _ H (Same.refl H) ?_
    rw [e, List.append_nil]
    exact ha
  · exact k _ _ (same_new hp) upd_tup
theorem dpAll_take {K : PySem.W.Frag} {H : Hp} : ∀ {xs : List V} {ds : List PyData} (n : Nat), DpAll K H xs ds → DpAll K H (xs.take n) (ds.take n)
  | _, _, 0, _ => .nil
  | _, _, n + 1, .nil => .nil
  | _, _, n + 1, .cons a b => .cons a (dpAll_take n b)
theorem dpAll_drop {K : PySem.W.Frag} {H : Hp} : ∀ {xs : List V} {ds : List PyData} (n : Nat), DpAll K H xs ds → DpAll K H (xs.drop n) (ds.drop n)
  | _, _, 0, h => h
  | _, _, n + 1, .nil => .nil
  | _, _, n + 1, .cons a b => dpAll_drop n b
end My

namespace My
open PySem PySem.Spec PyProof.Rows L2
/-! ### blocks of bytes: the mathematics -/
theorem fdp (a : Int) {b : Int} (h : 0 ≤ b) : Int.fdiv a b = a / b := Int.fdiv_eq_ediv_of_nonneg a h
theorem fmp (a : Int) {b : Int} (h : 0 ≤ b) : Int.fmod a b = a % b := Int.fmod_eq_emod_of_nonneg a h
def pkAt (row : List Nat) (i : Nat) : Int := (row.getD (2 * i) 0 : Int) + 16 * (row.getD (2 * i + 1) 0 : Int)
def pk (row : List Nat) : List Int := (List.range ((row.length + 1) / 2)).map (pkAt row)
theorem pk_len (row : List Nat) : (pk row).length = (row.length + 1) / 2 := by
  unfold pk
  rw [List.length_map, List.length_range]
theorem pk_get {row : List Nat} {i : Nat} (h : i < (row.length + 1) / 2) : (pk row)[i]? = some (pkAt row i) := by
  unfold pk
  rw [List.getElem?_map, List.getElem?_range h]
  rfl
def wd (s : Int × Int) : Int := s.1 % 65536
def inner (s : Int × Int) (row : List Nat) : List Int := [wd s / 256, wd s % 256, s.2, (row.length : Int)] ++ pk row
def blk (s : Int × Int) (row : List Nat) : List Int := [165, 90] ++ inner s row ++ [(inner s row).sum % 256]
theorem inner_len (s : Int × Int) (row : List Nat) : (inner s row).length = 4 + (row.length + 1) / 2 := by
  unfold inner
  rw [List.length_append, pk_len]
  rfl
theorem blk_len (s : Int × Int) (row : List Nat) : (blk s row).length = 7 + (row.length + 1) / 2 := by
  unfold blk
  rw [List.length_append, List.length_append, inner_len]
  simp
  omega
theorem blk_head (s : Int × Int) (row : List Nat) : blk s row = 165 :: 90 :: (wd s / 256) :: (wd s % 256) :: s.2 :: (row.length : Int) :: (pk row ++ [(inner s row).sum % 256]) := rfl
/-- the bytes of bl stand at the place b -/
def Sub (ds : List Int) (b : Nat) (bl : List Int) : Prop := ∀ i z, bl[i]? = some z → ds[b + i]? = some z
theorem sub_app {pre bl post : List Int} : Sub (pre ++ (bl ++ post)) pre.length bl := fun i z h => by
  have hi := (List.getElem?_eq_some_iff.mp h).1
  rw [List.getElem?_append_right (by omega), show pre.length + i - pre.length = i by omega, List.getElem?_append_left hi]
  exact h
theorem Sub.slice {ds bl : List Int} {b : Nat} (h : Sub ds b bl) {i n : Nat} (hn : i + n ≤ bl.length) : (ds.drop (b + i)).take n = (bl.drop i).take n := by
  refine List.ext_getElem? fun j => ?_
  by_cases hj : j < n
  · rw [List.getElem?_take_of_lt hj, List.getElem?_take_of_lt hj, List.getElem?_drop, List.getElem?_drop]
    have hb : bl[i + j]? = some bl[i + j] := List.getElem?_eq_getElem (by omega)
    rw [hb, ← h _ _ hb]
    congr 1
    omega
  · rw [List.getElem?_eq_none (by rw [List.length_take]; omega), List.getElem?_eq_none (by rw [List.length_take]; omega)]
theorem Sub.pk {ds : List Int} {b : Nat} {s : Int × Int} {row : List Nat} (h : Sub ds b (blk s row)) {i : Nat} (hi : i < (row.length + 1) / 2) : ds[b + 6 + i]? = some (pkAt row i) := by
  have := h (6 + i) (pkAt row i) (by
    rw [blk_head]
    rw [show 6 + i = i + 6 by omega]
    simp only [List.getElem?_cons_succ]
    rw [List.getElem?_append_left (by rw [pk_len]; exact hi), pk_get hi])
  rw [← this]
  congr 1
  omega
theorem Sub.sum {ds : List Int} {b : Nat} {s : Int × Int} {row : List Nat} (h : Sub ds b (blk s row)) : ds[b + 6 + (row.length + 1) / 2]? = some ((inner s row).sum % 256) := by
  have := h (6 + (row.length + 1) / 2) ((inner s row).sum % 256) (by
    rw [blk_head]
    rw [show 6 + (row.length + 1) / 2 = (row.length + 1) / 2 + 6 by omega]
    simp only [List.getElem?_cons_succ]
    rw [List.getElem?_append_right (by rw [pk_len]; exact Nat.le_refl _), pk_len, Nat.sub_self]
    rfl)
  rw [← this]
  congr 1
  omega
theorem Sub.inn {ds : List Int} {b : Nat} {s : Int × Int} {row : List Nat} (h : Sub ds b (blk s row)) : (ds.drop (b + 2)).take (4 + (row.length + 1) / 2) = inner s row := by
  rw [h.slice (i := 2) (n := 4 + (row.length + 1) / 2) (by rw [blk_len]; omega)]
  show (inner s row ++ [(inner s row).sum % 256]).take _ = _
  rw [List.take_append_of_le_length (by rw [inner_len]; exact Nat.le_refl _), ← inner_len s row, List.take_length]
theorem getD_lt {row : List Nat} {m : Nat} (h : ∀ k ∈ row, k < m) (i : Nat) : row.getD i 0 < m ∨ row.getD i 0 = 0 := by
  rw [List.getD_eq_getElem?_getD]
  cases e : row[i]? with
  | none => exact .inr rfl
  | some k => exact .inl (h k (List.mem_of_getElem? e))
theorem getD_out {row : List Nat} {i : Nat} (h : row.length ≤ i) : row.getD i 0 = 0 := by
  rw [List.getD_eq_getElem?_getD, List.getElem?_eq_none h]
  rfl
theorem getD_in {row : List Nat} {m i : Nat} (h : ∀ k ∈ row, k < m) (hi : i < row.length) : row.getD i 0 < m := by
  rw [List.getD_eq_getElem?_getD, List.getElem?_eq_getElem hi]
  exact h _ (List.getElem_mem hi)
/-- a row in blocks -/
structure Parts (rs : List (List Nat)) : Prop where
  ne : ∀ r ∈ rs, r ≠ []
  le : ∀ r ∈ rs, r.length ≤ 255
def fileB (C : Cod) (s : Int × Int) : List (List Nat) → List Int
  | [] => []
  | r :: rs => blk s r ++ fileB C (C.run s r) rs
theorem fileB_snoc {C : Cod} : ∀ (rs : List (List Nat)) (s : Int × Int) (r : List Nat), fileB C s (rs ++ [r]) = fileB C s rs ++ blk (C.run s rs.flatten) r
  | [], s, r => by
    show blk s r ++ [] = [] ++ blk s r
    rw [List.append_nil, List.nil_append]
  | q :: rs, s, r => by
    show blk s q ++ fileB C (C.run s q) (rs ++ [r]) = blk s q ++ fileB C (C.run s q) rs ++ _
    rw [fileB_snoc rs _ r, List.append_assoc, List.flatten_cons, run_app]
theorem fileB_app {C : Cod} : ∀ (rs qs : List (List Nat)) (s : Int × Int), fileB C s (rs ++ qs) = fileB C s rs ++ fileB C (C.run s rs.flatten) qs
  | [], qs, s => rfl
  | q :: rs, qs, s => by
    show blk s q ++ fileB C (C.run s q) (rs ++ qs) = blk s q ++ fileB C (C.run s q) rs ++ _
    rw [fileB_app rs qs _, List.append_assoc, List.flatten_cons, run_app]
theorem Parts.snoc {rs : List (List Nat)} {r : List Nat} (h : Parts rs) (h1 : r ≠ []) (h2 : r.length ≤ 255) : Parts (rs ++ [r]) :=
  ⟨fun q hq => by
    rcases List.mem_append.mp hq with e | e
    · exact h.ne q e
    · rw [List.mem_singleton.mp e]; exact h1,
   fun q hq => by
    rcases List.mem_append.mp hq with e | e
    · exact h.le q e
    · rw [List.mem_singleton.mp e]; exact h2⟩
theorem fileB_len {C : Cod} : ∀ {rs : List (List Nat)} (s : Int × Int), Parts rs → (fileB C s rs).length ≤ 8 * rs.flatten.length
  | [], _, _ => Nat.zero_le _
  | r :: rs, s, h => by
    show (blk s r ++ fileB C (C.run s r) rs).length ≤ _
    have ih := fileB_len (C := C) (rs := rs) (C.run s r) ⟨fun q hq => h.ne q (List.mem_cons_of_mem _ hq), fun q hq => h.le q (List.mem_cons_of_mem _ hq)⟩
    have h1 : 0 < r.length := List.length_pos_iff.mpr (h.ne r List.mem_cons_self)
    rw [List.length_append, blk_len, List.flatten_cons, List.length_append]
    omega
/-- ds is a file of the row from s -/
def FileOf (C : Cod) (s : Int × Int) (row : List Nat) (ds : List Int) : Prop := ∃ rs, Parts rs ∧ rs.flatten = row ∧ ds = fileB C s rs
theorem FileOf.len {C : Cod} {s : Int × Int} {row : List Nat} {ds : List Int} (h : FileOf C s row ds) : ds.length ≤ 8 * row.length := by
  obtain ⟨rs, p, rfl, rfl⟩ := h
  exact fileB_len s p
theorem FileOf.snoc {C : Cod} {s : Int × Int} {row r : List Nat} {ds : List Int} (h : FileOf C s row ds) (h1 : r ≠ []) (h2 : r.length ≤ 255) : FileOf C s (row ++ r) (ds ++ blk (C.run s row) r) := by
  obtain ⟨rs, p, rfl, rfl⟩ := h
  exact ⟨rs ++ [r], p.snoc h1 h2, by simp, (fileB_snoc rs s r).symm⟩
theorem FileOf.nil {C : Cod} {s : Int × Int} : FileOf C s [] [] := ⟨[], ⟨nofun, nofun⟩, rfl, rfl⟩
theorem wd_bd (s : Int × Int) : 0 ≤ wd s ∧ wd s < 65536 := by
  unfold wd
  omega
theorem pkAt_bd {row : List Nat} {m : Nat} (hm : m ≤ 16) (h : ∀ k ∈ row, k < m) (i : Nat) : 0 ≤ pkAt row i ∧ pkAt row i ≤ 255 ∧ pkAt row i % 16 = (row.getD (2 * i) 0 : Nat) ∧ pkAt row i / 16 = (row.getD (2 * i + 1) 0 : Nat) := by
  have h1 := getD_lt h (2 * i)
  have h2 := getD_lt h (2 * i + 1)
  unfold pkAt
  omega
/-- t[lo:hi] of a tuple -/
theorem sl_partV {K : PySem.W.Frag} {H : Hp} {a : Addr} {xs : List V} {lo hi : Nat} {Q : VK} (h : SqT K H a xs) (h1 : lo ≤ xs.length) (k : ∀ b H', Same H H' → SqT K H' b ((xs.drop lo).take (hi - lo)) → Q (.ref b) H') :
    rSlA K (.ref a) (some (lo : Int)) (some (hi : Int)) H Q := by
  have e : (xs.drop (min lo xs.length)).take (min hi xs.length - min lo xs.length) = (xs.drop lo).take (hi - lo) := by
    rw [Nat.min_eq_left h1]
    by_cases hh : hi ≤ xs.length
    · rw [Nat.min_eq_left hh]
    · rw [Nat.min_eq_right (by omega), List.take_of_length_le (by rw [List.length_drop]; exact Nat.le_refl _), List.take_of_length_le (by rw [List.length_drop]; omega)]
  refine ⟨a, xs, rfl, h, fun ⟨e0, e1⟩ => ?_, fun _ p hp => ?_⟩
  · rw [HT.sIx_nat] at e0 e1
    refine k _ H (Same.refl H) ?_
    rw [← e, e0, e1, List.drop_zero, Nat.sub_zero, List.take_length]
    exact h
  · refine k _ _ (same_new hp) ?_
    have e2 : cutV xs (some (lo : Int)) (some (hi : Int)) = (xs.drop lo).take (hi - lo) := by
      unfold cutV
      rw [HT.sIx_nat, HT.sIx_nat]
      exact e
    rw [e2]
    exact upd_tup
/-- range(0, n, c) -/
theorem rg_up {n c : Nat} (h1 : 1 ≤ c) (h2 : c ≤ 1000) (hn : n ≤ 1000000) : RgC 0 (n : Int) (c : Int) ((n + c - 1) / c) := by
  have e : Builtin.Range.rangeSize 0 (n : Int) (c : Int) = (((n + c - 1) / c : Nat) : Int) := by
    unfold Builtin.Range.rangeSize
    rw [if_pos (by omega)]
    split
    · rename_i h
      have h0 : 0 < n := by omega
      rw [show n + c - 1 = (n - 1) + c by omega, Nat.add_div_right _ (by omega)]
      have : ((n : Int) - 0 - 1) = ((n - 1 : Nat) : Int) := by omega
      rw [this]
      rw [Int.natCast_succ, Int.natCast_ediv]
    · have h0 : n = 0 := by omega
      subst h0
      rw [Nat.div_eq_of_lt (by omega)]
      rfl
  have hle : (n + c - 1) / c ≤ n + c - 1 := Nat.div_le_self _ _
  obtain ⟨q, hq⟩ : ∃ q, q = (n + c - 1) / c := ⟨_, rfl⟩
  rw [← hq] at e hle ⊢
  refine ⟨by omega, by omega, ?_, e⟩
  unfold Builtin.Range.small
  rw [e]
  simp only [Builtin.Range.rangeFitsLong, Bool.and_eq_true, Bool.or_eq_true, decide_eq_true_eq, beq_iff_eq]
  rw [if_pos (show (c : Int) > 0 by omega), Bool.and_eq_true, decide_eq_true_eq, decide_eq_true_eq]
  omega
end My

namespace My
open PySem PySem.Spec PyProof.Rows L2
theorem cutL_take {xs : List V} {n : Nat} (h : n ≤ xs.length) : cutV xs none (some (n : Int)) = xs.take n := cut_take h
/-- the codes of the first j bytes -/
def unpk (row : List Nat) (j : Nat) : List Nat := (List.range (2 * j)).map fun i => row.getD i 0
theorem unpk_succ (row : List Nat) (j : Nat) : unpk row (j + 1) = (unpk row j ++ [row.getD (2 * j) 0]) ++ [row.getD (2 * j + 1) 0] := by
  unfold unpk
  rw [show 2 * (j + 1) = 2 * j + 1 + 1 by omega, List.range_succ, List.range_succ, List.map_append, List.map_append]
  rfl
theorem unpk_len (row : List Nat) (j : Nat) : (unpk row j).length = 2 * j := by
  unfold unpk
  rw [List.length_map, List.length_range]
theorem unpk_all (row : List Nat) : (unpk row ((row.length + 1) / 2)).take row.length = row := by
  refine List.ext_getElem? fun i => ?_
  by_cases hi : i < row.length
  · rw [List.getElem?_take_of_lt hi]
    unfold unpk
    rw [List.getElem?_map, List.getElem?_range (by omega), List.getElem?_eq_getElem hi]
    show some (row.getD i 0) = _
    rw [List.getD_eq_getElem?_getD, List.getElem?_eq_getElem hi]
    rfl
  · rw [List.getElem?_eq_none (by rw [List.length_take]; omega), List.getElem?_eq_none (by omega)]
theorem rowV_app (r q : List Nat) : rowV (r ++ q) = rowV r ++ rowV q := List.map_append
theorem ints_at {ds : List Int} {i : Nat} {z : Int} (h : ds[i]? = some z) : (ds.map V.int)[i]? = some (.int z) := by
  rw [List.getElem?_map, h]
  rfl
section
variable {P : Program} {w : World} {K : PySem.W.Frag} {mg : Str → Option Value} {base : Heap}
theorem sixteen : (16 : Int) ≠ 0 := by decide
def sp_byte_at (K : PySem.W.Frag) : Sp := fun vs H Q _ => ∃ (a : Addr) (ds : List Int) (i : Nat) (z : Int), vs = [.ref a, .int (i : Int)] ∧ SqT K H a (ds.map V.int) ∧ ds[i]? = some z ∧ 0 ≤ z ∧ z ≤ 255 ∧ ∀ H', Same H H' → Q (.int z) H'
def sp_byte_between (K : PySem.W.Frag) : Sp := fun vs H Q _ => ∃ (a : Addr) (ds : List Int) (i : Nat) (z lo hi : Int), vs = [.ref a, .int (i : Int), .int lo, .int hi] ∧ SqT K H a (ds.map V.int) ∧ ds[i]? = some z ∧ 0 ≤ z ∧ z ≤ 255 ∧ lo ≤ z ∧ z ≤ hi ∧
  ∀ H', Same H H' → Q (.int z) H'
/-- what is known of a state: nothing, or all -/
def Kn (K : PySem.W.Frag) (H : Hp) (v : V) (s : Int × Int) : Prop := v = .non ∨ Dp K H v (pairI s)
def sp_state_at (K : PySem.W.Frag) : Sp := fun vs H Q _ => ∃ (c kv : V) (a : Addr) (C : Cod) (ds : List Int) (i : Nat) (s : Int × Int), vs = [c, .ref a, .int (i : Int), kv] ∧ C.Ok ∧ Dp K H c C.dat ∧ C.St s ∧ Kn K H kv s ∧ SqT K H a (ds.map V.int) ∧
  ds[i]? = some (wd s / 256) ∧ ds[i + 1]? = some (wd s % 256) ∧ ds[i + 2]? = some s.2 ∧ ∀ z H', Same H H' → Dp K H' z (pairI s) → Q z H'
def sp_codes_at (K : PySem.W.Frag) : Sp := fun vs H Q _ => ∃ (c : V) (a : Addr) (C : Cod) (ds : List Int) (i : Nat) (row : List Nat), vs = [c, .ref a, .int (i : Int), .int (row.length : Int)] ∧ C.Ok ∧ Dp K H c C.dat ∧ SqT K H a (ds.map V.int) ∧
  (∀ k ∈ row, k < C.moves.length) ∧ row.length ≤ 255 ∧ (∀ j, j < (row.length + 1) / 2 → ds[i + j]? = some (pkAt row j)) ∧ i ≤ 100000 ∧ ∀ z H', Same H H' → Dp K H' z (rowI row) → Q z H'
def sp_sum_index : Sp := fun vs H Q _ => ∃ (b n : Nat), vs = [.int (b : Int), .int (n : Int)] ∧ Q (.int ((b + 6 + (n + 1) / 2 : Nat) : Int)) H
theorem ok_sum_index (T : Txt K mg) : FnOk P w K mg base CX0 1 T.f__sum_index T.d__sum_index ["begin", "many"] sp_sum_index := by
  refine T.F__sum_index.ok sc_sum_index (fun vs H Q E h => ?_) (fun cdv A outer s H vs Q E hr h => ?_)
  · obtain ⟨b, n, rfl, _⟩ := h
    rfl
  · obtain ⟨b, n, rfl, q⟩ := h
    have q' : ∀ z : Int, ((b + 6 + (n + 1) / 2 : Nat) : Int) = z → Q (.int z) H := fun z e => e ▸ q
    refine ⟨_,
(pss_one (ps_ret (pe_op op_add (pe_op op_add (pv 0) (pe_glob (v := .int 6) (by rfl) T.g_HEAD ⟨_, rfl⟩)) (pe_op op_fdivN (pe_op op_add (pv 1) pe_int) pe_int))))
, ?_⟩
    refine ⟨_, rfl, _, _, rfl, rfl, _, rfl, _, _, rfl, rfl, _, 2, rfl, rfl, ⟨by decide, by decide⟩, _, _, rfl, rfl, q' _ ?_⟩
    rw [fdp _ (by decide)]
    omega
end
end My

namespace My
open PySem PySem.Spec PyProof.Rows L2
theorem blk_bd {C : Cod} (O : C.Ok) {s : Int × Int} {row : List Nat} (hs : C.St s) (hR : ∀ k ∈ row, k < C.moves.length) (hl : row.length ≤ 255) : ∀ z ∈ blk s row, 0 ≤ z ∧ z ≤ 255 := by
  intro z hz
  have hw := wd_bd s
  have := O.s2
  obtain ⟨_, _, g3, g4⟩ := hs
  rw [blk_head] at hz
  simp only [List.mem_cons, List.mem_append, List.not_mem_nil, or_false] at hz
  rcases hz with e | e | e | e | e | e | e | e
  · omega
  · omega
  · omega
  · omega
  · omega
  · omega
  · obtain ⟨i, _, rfl⟩ := List.mem_map.mp e
    have := pkAt_bd O.m2 hR i
    omega
  · omega
section
variable {P : Program} {w : World} {K : PySem.W.Frag} {mg : Str → Option Value} {base : Heap}
def sp_block_at (K : PySem.W.Frag) : Sp := fun vs H Q _ => ∃ (c kv : V) (a : Addr) (C : Cod) (ds : List Int) (b : Nat) (s : Int × Int) (row : List Nat), vs = [c, .ref a, .int (b : Int), kv] ∧ C.Ok ∧ Dp K H c C.dat ∧ C.St s ∧ Kn K H kv s ∧ SqT K H a (ds.map V.int) ∧
  (∀ k ∈ row, k < C.moves.length) ∧ 1 ≤ row.length ∧ row.length ≤ 255 ∧ Sub ds b (blk s row) ∧ b ≤ 50000 ∧
  ∀ t z r H', Same H H' → SqT K H' t [z, r, .int ((b + (blk s row).length : Nat) : Int)] → Dp K H' z (pairI s) → Dp K H' r (rowI row) → Q (.ref t) H'
end
end My

namespace My
open PySem PySem.Spec PyProof.Rows L2
theorem ints_app (a b : List Int) : (a ++ b).map V.int = a.map V.int ++ b.map V.int := List.map_append
theorem pk_take {row : List Nat} {j : Nat} (h : j < (row.length + 1) / 2) : (pk row).take (j + 1) = (pk row).take j ++ [pkAt row j] := take_snoc (pk_get h)
theorem rowV_at {row : List Nat} {i : Nat} (h : i < row.length) : (rowV row)[i]? = some (.int (row.getD i 0 : Nat)) := by
  unfold rowV
  rw [List.getElem?_map, List.getElem?_eq_getElem h, List.getD_eq_getElem?_getD, List.getElem?_eq_getElem h]
  rfl
theorem two_mul' (j : Nat) : (0 : Int) + (j : Int) * 2 = ((2 * j : Nat) : Int) := by omega
section
variable {P : Program} {w : World} {K : PySem.W.Frag} {mg : Str → Option Value} {base : Heap}
end
end My

namespace My
open PySem PySem.Spec PyProof.Rows L2
theorem pick_int {xs : List Int} {r : Int} (h0 : 0 ≤ r) (h1 : r < (xs.length : Int)) : ∃ z, z ∈ xs ∧ atI (xs.map V.int) r = some (.int z) := by
  obtain ⟨n, rfl⟩ := Int.eq_ofNat_of_zero_le h0
  have hn : n < xs.length := by omega
  exact ⟨xs[n], List.getElem_mem hn, atI_nat (by rw [List.getElem?_map, List.getElem?_eq_getElem hn]; rfl)⟩
section
variable {P : Program} {w : World} {K : PySem.W.Frag} {mg : Str → Option Value} {base : Heap}
def sp_law_great (K : PySem.W.Frag) : Sp := fun vs H Q _ => ∃ (m c l : Addr) (k : Nat), vs = [.ref m] ∧ Dr H m c l (k + 60) ∧ ∀ z (C : Cod) l' H', Kp m l H l' H' → Dr H' m c l' k → C.Ok → Dp K H' z C.dat → Q z H'
set_option maxHeartbeats 4000000 in
theorem ok_law_great_coder (T : Txt K mg) : FnOk P w K mg base CX0 3 T.f__law_great_coder T.d__law_great_coder ["m"] (sp_law_great K) := by
  refine T.F__law_great_coder.ok sc_law_great_coder (fun vs H Q E h => ?_) (fun cdv A outer s H vs Q E hr h => ?_)
  · obtain ⟨m, c, l, k, rfl, _⟩ := h
    rfl
  · obtain ⟨m, c, l, k, rfl, D0, q⟩ := h
    refine ⟨_,
(pss_cons (ps_set (i := 1) sc_law_great_coder.nd rfl (Or.inl rfl) (pe_ix ix_list (pe_lst (pa_cons pe_int (pa_cons pe_int (pa_cons pe_int (pa_cons pe_int pa_nil))))) (pe_call (ok_law_next T) (hr.mono (by decide)) (by rfl) T.g__law_next T.F__law_next.kp T.b__law_next .nil pass0 (pa_cons (pv 0) (pa_cons pe_int pa_nil))) (fun _ _ => rfl)))
      (pss_cons (ps_par (i := 2) (j := 3) (by rfl) sc_law_great_coder.nd rfl rfl (by decide) rfl rfl (pa_cons (pe_op op_sub pe_int (pe_call (ok_law_next T) (hr.mono (by decide)) (by rfl) T.g__law_next T.F__law_next.kp T.b__law_next .nil pass0 (pa_cons (pv 0) (pa_cons (pe_op op_add (pv 1) pe_int) pa_nil)))) (pa_cons (pe_call (ok_law_next T) (hr.mono (by decide)) (by rfl) T.g__law_next T.F__law_next.kp T.b__law_next .nil pass0 (pa_cons (pv 0) (pa_cons (pe_op op_add (pv 1) pe_int) pa_nil))) pa_nil)) (by rfl))
      (pss_cons (ps_setLc (i := 5) (own := [("k", 4)]) rfl sc_law_great_coder.nd rfl rfl (sw_true rfl rfl rfl (by decide +kernel)) (pi_range1 (by rfl) T.z_range (pa_cons (pe_ix ix_list (pe_lst (pa_cons pe_int (pa_cons pe_int (pa_cons pe_int pa_nil)))) (pe_call (ok_law_next T) (hr.mono (by decide)) (by rfl) T.g__law_next T.F__law_next.kp T.b__law_next .nil pass0 (pa_cons (pv 0) (pa_cons pe_int pa_nil))) (fun _ _ => rfl)) pa_nil)) (blkOk_by (own := [("k", 4)]) (N := ["m", "wide", "low", "high", "k", "steps", "moves"]) (sc := defScope s_law_great_coder) (by decide +kernel)) (fun _ _ _ _ _ => (pg_name (i := 4) sc_law_great_coder.nd rfl (Or.inl rfl))) (fun _ _ _ _ _ => pts_nil) (fun _ _ _ _ _ => (pe_op op_add pe_int (pe_call (ok_law_next T) (hr.mono (by decide)) (by rfl) T.g__law_next T.F__law_next.kp T.b__law_next .nil pass0 (pa_cons (pv 0) (pa_cons pe_int pa_nil))))))
      (pss_cons (ps_set (i := 6) sc_law_great_coder.nd rfl (Or.inl rfl) (pe_lst pa_nil))
      (pss_cons (ps_for PassesOwn.never rfl (pi_range1 (by rfl) T.z_range (pa_cons (pe_ix ix_list (pe_lst (pa_cons pe_int (pa_cons pe_int (pa_cons pe_int (pa_cons pe_int pa_nil))))) (pe_call (ok_law_next T) (hr.mono (by decide)) (by rfl) T.g__law_next T.F__law_next.kp T.b__law_next .nil pass0 (pa_cons (pv 0) (pa_cons pe_int pa_nil))) (fun _ _ => rfl)) pa_nil)) (pg_name (i := 4) sc_law_great_coder.nd rfl (Or.inl rfl)) (pss_one (ps_expr (pe_bm PySem.F.plainAttrs_list PySem.F.slot_list_append PySem.F.type_list_append mt_append (pv 6) (pa_cons (pe_tup (pa_cons (pe_op op_sub (pe_call (ok_law_next T) (hr.mono (by decide)) (by rfl) T.g__law_next T.F__law_next.kp T.b__law_next .nil pass0 (pa_cons (pv 0) (pa_cons pe_int pa_nil))) pe_int) (pa_cons (pe_op op_sub (pe_call (ok_law_next T) (hr.mono (by decide)) (by rfl) T.g__law_next T.F__law_next.kp T.b__law_next .nil pass0 (pa_cons (pv 0) (pa_cons pe_int pa_nil))) pe_int) pa_nil))) pa_nil)))))
      (pss_one (ps_ret (pe_tup (pa_cons (pv 2) (pa_cons (pv 3) (pa_cons (pe_callTy call_tuple_of (by rfl) T.z_tuple (by decide +kernel) (pa_cons (pv 5) pa_nil)) (pa_cons (pe_callTy call_tuple_of (by rfl) T.z_tuple (by decide +kernel) (pa_cons (pv 6) pa_nil)) (pa_cons (pe_ix ix_list (pe_lst (pa_cons pe_int (pa_cons pe_int (pa_cons pe_int pa_nil)))) (pe_call (ok_law_next T) (hr.mono (by decide)) (by rfl) T.g__law_next T.F__law_next.kp T.b__law_next .nil pass0 (pa_cons (pv 0) (pa_cons pe_int pa_nil))) (fun _ _ => rfl)) pa_nil)))))))))))))
, ?_⟩
    -- wide
    refine ⟨by show 4 ≤ sizeLine; decide, fun W hW => ?_⟩
    have oW := own_mk (xs := ([3, 300, 4000, 32767] : List Int).map V.int) D0 hW
    refine ⟨_, rfl, m, c, l, k + 59, 4, rfl, by decide, by decide, D0.new hW, fun r0 l0 H0 p00 p01 kp0 E0 => ?_⟩
    obtain ⟨wide, hw, hat0⟩ := pick_int (xs := [3, 300, 4000, 32767]) p00 p01
    have hwide : 3 ≤ wide ∧ wide ≤ 32767 := by
      simp only [List.mem_cons, List.not_mem_nil, or_false] at hw
      omega
    refine ⟨W, _, r0, _, rfl, rfl, SqL.of (oW.kp kp0).st, hat0, ?_⟩
    have kpA : Kp m l H l0 H0 := (Kp.new hW).trans kp0
    clear oW hat0 hw
    -- low, high
    refine ⟨_, rfl, _, rfl, _, _, rfl, rfl, m, c, l0, k + 58, wide + 1, rfl, by omega, by omega, E0, fun a l1 H1 a0 a1 kp1 D1 => ⟨0, a, rfl, rfl, ?_⟩⟩
    refine ⟨_, rfl, _, rfl, _, _, rfl, rfl, m, c, l1, k + 57, wide + 1, rfl, by omega, by omega, D1, fun b l2 H2 b0 b1 kp2 D2 => ⟨_, _, rfl, ?_⟩⟩
    have kp12 := (kpA.trans kp1).trans kp2
    -- steps
    refine ⟨by show 3 ≤ sizeLine; decide, fun X hX => ?_⟩
    have oX := own_mk (xs := ([1, 2, 16] : List Int).map V.int) D2 hX
    refine ⟨_, rfl, m, c, l2, k + 56, 3, rfl, by decide, by decide, D2.new hX, fun r3 l3 H3 q00 q01 kp3 D3 => ?_⟩
    obtain ⟨np, hnp, hat3⟩ := pick_int (xs := [1, 2, 16]) q00 q01
    have hnp : 1 ≤ np ∧ np ≤ 16 := by
      simp only [List.mem_cons, List.not_mem_nil, or_false] at hnp
      omega
    refine ⟨X, _, r3, _, rfl, rfl, SqL.of (oX.kp kp3).st, hat3, np, rfl, by omega, by omega, fun S hS => ?_⟩
    have kp13 := kp12.trans ((Kp.new hX).trans kp3)
    clear oX hat3
    obtain ⟨cs3, ls3, z3, e31, e32, e33, _⟩ := D3.ex
    refine lc_range (lo := 0) (n := np.toNat) (fun i H' => ∃ (l' : Addr) (ss : List Int), H' S = some (.lst (ss.map V.int)) ∧ ss.length = i ∧ (∀ s ∈ ss, 1 ≤ s ∧ s ≤ 9999) ∧ Kp m l3 H3 l' H' ∧ Dr H' m c l' (k + 56 - i) ∧ S ≠ m ∧ S ≠ c ∧ S ≠ l')
      ⟨l3, [], upd_same, rfl, by simp, Kp.new hS, D3.new hS, (ne_of_none e31 hS).symm, (ne_of_none e32 hS).symm, (ne_of_none e33 hS).symm⟩ ?_ ?_
    · rintro i H' hi ⟨l', ss, hL, hlen, hss, kp, D, nm, nc, nl⟩
      have hi' : i < 17 := by omega
      refine ⟨rfl, yes_turn ?_⟩
      refine ⟨_, rfl, m, c, l', k + 56 - (i + 1), 9999, rfl, by decide, by decide, by
          have e : k + 56 - (i + 1) + 1 = k + 56 - i := by omega
          rw [e]; exact D, fun r l'' H'' r0 r1 kp' D' => ⟨1, r, rfl, rfl, ?_⟩⟩
      obtain ⟨hL', nl'⟩ := kp'.own hL nm nl
      refine ⟨_, hL', ?_, l'', ss ++ [1 + r], ?_, by simp [hlen], ?_, (kp.trans kp').set hS, D'.set nm nc nl', nm, nc, nl'⟩
      · rw [List.length_map]
        exact small1000 (by omega)
      · rw [upd_same, List.map_append]
        rfl
      · intro s hs
        rcases List.mem_append.mp hs with h | h
        · exact hss s h
        · rw [List.mem_singleton.mp h]
          omega
    · rintro H4 ⟨l4, ss, hL, hlen, hss, kp4, D4, nSm, nSc, nSl⟩
      have kp14 := kp13.trans kp4
      have len16 : np.toNat ≤ 16 := by omega
      have D4 : Dr H4 m c l4 (k + 40) := D4.less (by omega)
      refine ⟨Nat.zero_le _, fun M hM => ?_⟩
      obtain ⟨cs4, ls4, z4, e41, e42, e43, _⟩ := D4.ex
      have nMm : M ≠ m := (ne_of_none e41 hM).symm
      have nMc : M ≠ c := (ne_of_none e42 hM).symm
      have nMl : M ≠ l4 := (ne_of_none e43 hM).symm
      have nMS : S ≠ M := ne_of_none hL hM
      have hL5 := same_new (o := .lst []) hM _ _ hL
      have kp5 : Kp m l H l4 (upd H4 M (.lst [])) := kp14.trans (Kp.new hM)
      have D5 : Dr (upd H4 M (.lst [])) m c l4 (k + 40) := D4.new hM
      have hM5 : (upd H4 M (.lst [])) M = some (.lst []) := upd_same
      have hM0 : H M = none := kp14.dm M hM
      generalize upd H4 M (.lst []) = H5 at hL5 kp5 D5 hM5
      refine ⟨by show 4 ≤ sizeLine; decide, fun Y hY => ?_⟩
      have oY := own_mk (xs := ([2, 5, 15, 16] : List Int).map V.int) D5 hY
      have kY := Kp.new (m := m) (l := l4) (o := .lst (([2, 5, 15, 16] : List Int).map V.int)) hY
      refine ⟨_, rfl, m, c, l4, k + 39, 4, rfl, by decide, by decide, D5.new hY, fun r6 l6 H6 t00 t01 kp6 D6 => ?_⟩
      obtain ⟨nm, hnm, hat6⟩ := pick_int (xs := [2, 5, 15, 16]) t00 t01
      have hnm : 2 ≤ nm ∧ nm ≤ 16 := by
        simp only [List.mem_cons, List.not_mem_nil, or_false] at hnm
        omega
      refine ⟨Y, _, r6, _, rfl, rfl, SqL.of (oY.kp kp6).st, hat6, nm, rfl, by omega, by omega, ?_⟩
      have kp6 := kY.trans kp6
      obtain ⟨hL6, nSl6⟩ := kp6.own hL5 nSm nSl
      obtain ⟨hM6, nMl6⟩ := kp6.own hM5 nMm nMl
      clear oY hat6
      refine for_range (lo := 0) (n := nm.toNat) (fun i σ H' => ∃ (y : Option V) (l' : Addr) (ms : List V) (mvs : List (Int × Int)),
          σ = [some (.ref m), some (.int wide), some (.int (0 - a)), some (.int b), y, some (.ref S), some (.ref M)] ∧
          H' M = some (.lst ms) ∧ DpAll K H' ms (mvs.map pairI) ∧ mvs.length = i ∧ (∀ p ∈ mvs, (-16 ≤ p.1 ∧ p.1 ≤ 16) ∧ (-3 ≤ p.2 ∧ p.2 ≤ 3)) ∧
          H' S = some (.lst (ss.map V.int)) ∧ Kp m l H l' H' ∧ Dr H' m c l' (k + 39 - 2 * i) ∧ M ≠ l' ∧ S ≠ l')
        ⟨none, l6, [], [], rfl, hM6, .nil, rfl, by simp, hL6, kp5.trans kp6, D6, nMl6, nSl6⟩ ?_ ?_
      · rintro i σ H7 hi ⟨y, l7, ms, mvs, rfl, hM7, hD7, hlen7, hb7, hS7, kp7, D7, nMl7, nSl7⟩
        have hi' : i < 16 := by omega
        have e1 : k + 39 - 2 * i = k + 39 - 2 * (i + 1) + 2 := by omega
        rw [e1] at D7
        refine ⟨.ref M, rfl, .inl ⟨rfl, _, SqL.of hM7⟩, ?_⟩
        refine ⟨_, rfl, m, c, l7, k + 39 - 2 * (i + 1) + 1, 33, rfl, by decide, by decide, D7, fun r1 l8 H8 r10 r11 kp8 D8 => ⟨r1, 16, rfl, rfl, ?_⟩⟩
        obtain ⟨hM8, nMl8⟩ := kp8.own hM7 nMm nMl7
        obtain ⟨hS8, nSl8⟩ := kp8.own hS7 nSm nSl7
        refine ⟨_, rfl, m, c, l8, k + 39 - 2 * (i + 1), 7, rfl, by decide, by decide, D8, fun r2 l9 H9 r20 r21 kp9 D9 => ⟨r2, 3, rfl, rfl, by show 2 ≤ sizeLine; decide, fun p hp => ?_⟩⟩
        obtain ⟨hM9, nMl9⟩ := kp9.own hM8 nMm nMl8
        obtain ⟨hS9, nSl9⟩ := kp9.own hS8 nSm nSl8
        have hD9 : DpAll K H9 ms (mvs.map pairI) := dpAll_keep (keep_draw kp9 D8) _ _ (noLs_pairs _) (dpAll_keep (keep_draw kp8 D7) _ _ (noLs_pairs _) hD7)
        have sp := same_new (o := .tup [.int (r1 - 16), .int (r2 - 3)]) hp
        have hM10 := sp _ _ hM9
        have hS10 := sp _ _ hS9
        refine ⟨M, ms, _, rfl, rfl, hM10, ?_, ?_⟩
        · rw [dpAll_len hD7, List.length_map, hlen7]
          exact small1000 (by omega)
        · refine ⟨_, l9, ms ++ [.ref p], mvs ++ [(r1 - 16, r2 - 3)], rfl, upd_same, ?_, by simp [hlen7], ?_, (upd_ne nMS).trans hS10, (((kp7.trans kp8).trans kp9).trans (Kp.new hp)).set hM0, (D9.new hp).set nMm nMc nMl9, nMl9, nSl9⟩
          · rw [List.map_append]
            exact dpAll_app (pairs_set hM10 (dpAll_same sp _ _ hD9)) (.cons (dp_mkpair (s := (r1 - 16, r2 - 3)) (sqt_set hM10 upd_tup)) .nil)
          · intro x hx
            rcases List.mem_append.mp hx with h | h
            · exact hb7 x h
            · rw [List.mem_singleton.mp h]
              exact ⟨⟨by show -16 ≤ r1 - 16; omega, by show r1 - 16 ≤ 16; omega⟩, by show -3 ≤ r2 - 3; omega, by show r2 - 3 ≤ 3; omega⟩
      · rintro σ H7 ⟨y, l7, ms, mvs, rfl, hM7, hD7, hlen7, hb7, hS7, kp7, D7, nMl7, nSl7⟩
        have D7 : Dr H7 m c l7 (k + 1) := D7.less (by omega)
        refine ⟨_, rfl, _, rfl, .ref S, rfl, S, _, rfl, .inl ⟨SqL.of hS7, fun ts hts => ?_⟩⟩
        have s11 := same_new (o := .tup (ss.map V.int)) hts
        have hM11 := s11 _ _ hM7
        have t11 : (upd H7 ts (.tup (ss.map V.int))) ts = some (.tup (ss.map V.int)) := upd_same
        have hD11 := dpAll_same s11 _ _ hD7
        have kp11 : Kp m l H l7 (upd H7 ts (.tup (ss.map V.int))) := kp7.trans (Kp.new hts)
        have D11 : Dr (upd H7 ts (.tup (ss.map V.int))) m c l7 (k + 1) := D7.new hts
        generalize upd H7 ts (.tup (ss.map V.int)) = H11 at hM11 t11 hD11 kp11 D11
        refine ⟨.ref M, rfl, M, _, rfl, .inl ⟨SqL.of hM11, fun tm htm => ?_⟩⟩
        have s12 := same_new (o := .tup ms) htm
        have t12 := s12 _ _ t11
        have m12 : (upd H11 tm (.tup ms)) tm = some (.tup ms) := upd_same
        have hD12 := dpAll_same s12 _ _ hD11
        have kp12' : Kp m l H l7 (upd H11 tm (.tup ms)) := kp11.trans (Kp.new htm)
        have D12 : Dr (upd H11 tm (.tup ms)) m c l7 (k + 1) := D11.new htm
        generalize upd H11 tm (.tup ms) = H12 at t12 m12 hD12 kp12' D12
        -- fade
        refine ⟨by show 3 ≤ sizeLine; decide, fun Z hZ => ?_⟩
        have oZ := own_mk (xs := ([0, 2, 7] : List Int).map V.int) D12 hZ
        have kZ := Kp.new (m := m) (l := l7) (o := .lst (([0, 2, 7] : List Int).map V.int)) hZ
        refine ⟨_, rfl, m, c, l7, k, 3, rfl, by decide, by decide, D12.new hZ, fun r8 l8 H8 u00 u01 kp8 D8 => ?_⟩
        obtain ⟨fd, hfd, hat8⟩ := pick_int (xs := [0, 2, 7]) u00 u01
        have hfd : fd = 0 ∨ (2 ≤ fd ∧ fd ≤ 99) := by
          simp only [List.mem_cons, List.not_mem_nil, or_false] at hfd
          omega
        have K8 := (keep_same (same_new (o := .lst (([0, 2, 7] : List Int).map V.int)) hZ)).trans (keep_draw kp8 (D12.new hZ))
        refine ⟨Z, _, r8, _, rfl, rfl, SqL.of (oZ.kp kp8).st, hat8, by show 5 ≤ sizeLine; decide, fun p hp => ?_⟩
        have s13 := same_new (o := .tup [V.int (0 - a), V.int b, V.ref ts, V.ref tm, V.int fd]) hp
        have K9 := K8.trans (keep_same s13)
        refine q _ ⟨0 - a, b, ss, mvs, fd⟩ l8 _ ((kp12'.trans (kZ.trans kp8)).trans (Kp.new hp)) (D8.new hp) ⟨by show -32768 ≤ 0 - a; omega, by show 0 - a ≤ 0; omega, b0, by show b ≤ 32767; omega, by show 1 ≤ ss.length; omega, by show ss.length ≤ 16; omega, hss, by show 2 ≤ mvs.length; omega, by show mvs.length ≤ 16; omega, fun p hp => by have := hb7 p hp; omega, hfd⟩ ?_
        refine .tup upd_tup (.cons (.int _) (.cons (.int _) (.cons ?_ (.cons ?_ (.cons (.int _) .nil)))))
        · exact dp_tints (K9.tup (.inl (.inl t12)))
        · exact .tup (K9.tup (.inl (.inl m12))) (dpAll_keep K9 _ _ (noLs_pairs _) hD12)
theorem ok_law_block (T : Txt K mg) : FnOk P w K mg base CX0 1 T.f__law_block T.d__law_block ["here", "row"] (fun vs H Q E => ∃ (r x : V) (row : List Nat) (s : Int × Int), vs = [x, r] ∧ Dp K H r (rowI row) ∧ row.length ≤ 255 ∧ Dp K H x (pairI s) ∧
    ∀ z H', Same H H' → Dp K H' z (.tuple ((blk s row).map .int)) → Q z H') := by
  refine T.F__law_block.ok sc_law_block (fun vs H Q E h => ?_) (fun cdv A outer s H vs Q E hr h => ?_)
  · obtain ⟨r, x, row, s, rfl, _⟩ := h
    rfl
  · obtain ⟨r, x, row, st, rfl, hrow, hlen, hx, q⟩ := h
    obtain ⟨ra, rfl, hra⟩ := row_at hrow
    obtain ⟨xb, rfl, hxb⟩ := dp_pair hx
    have hrl : (rowV row).length = row.length := List.length_map ..
    have hwd : Int.fmod st.1 65536 = wd st := fmp _ (by decide)
    refine ⟨_,
(pss_cons (ps_par (i := 2) (j := 3) (by rfl) sc_law_block.nd rfl rfl (by decide) rfl rfl (pa_cons (pe_op op_modN (pe_ix ix_tup (pv 0) pe_int (fun _ _ => rfl)) pe_int) (pa_cons (pe_lst pa_nil) pa_nil)) (by rfl))
      (pss_cons (ps_for PassesOwn.never rfl (pi_range1 (by rfl) T.z_range (pa_cons (pe_op op_fdivN (pe_op op_add (pe_callB (call_len_seq) (by rfl) T.z_len (by decide +kernel) (pa_cons (pv 1) pa_nil)) pe_int) pe_int) pa_nil)) (pg_name (i := 4) sc_law_block.nd rfl (Or.inl rfl)) (pss_one (ps_expr (pe_bm PySem.F.plainAttrs_list PySem.F.slot_list_append PySem.F.type_list_append mt_append (pv 3) (pa_cons (pe_op op_add (pe_ix ix_tup (pv 1) (pe_op op_mul pe_int (pv 4)) (fun _ _ => rfl)) (pe_ifExp (pt_cmpR op_lt (pe_op op_add (pe_op op_mul pe_int (pv 4)) pe_int) (pe_callB (call_len_seq) (by rfl) T.z_len (by decide +kernel) (pa_cons (pv 1) pa_nil)) (nomark _)) (pe_op op_mul pe_int (pe_ix ix_tup (pv 1) (pe_op op_add (pe_op op_mul pe_int (pv 4)) pe_int) (fun _ _ => rfl))) pe_int)) pa_nil)))))
      (pss_cons (ps_set (i := 5) sc_law_block.nd rfl (Or.inl rfl) (pe_op op_cat (pe_lst (pa_cons (pe_op op_fdivN (pv 2) pe_int) (pa_cons (pe_op op_modN (pv 2) pe_int) (pa_cons (pe_ix ix_tup (pv 0) pe_int (fun _ _ => rfl)) (pa_cons (pe_callB (call_len_seq) (by rfl) T.z_len (by decide +kernel) (pa_cons (pv 1) pa_nil)) pa_nil))))) (pv 3)))
      (pss_one (ps_ret (pe_op op_catA (pe_op op_catA (pe_tup (pa_cons pe_int (pa_cons pe_int pa_nil))) (pe_callTy call_tuple_of (by rfl) T.z_tuple (by decide +kernel) (pa_cons (pv 5) pa_nil))) (pe_tup (pa_cons (pe_op op_modN (pe_callB ((cr_sum rfl)) (by rfl) T.z_sum (by decide +kernel) (pa_cons (pv 5) pa_nil)) pe_int) pa_nil))))))))
, ?_⟩
    refine ⟨_, rfl, xb, _, 0, _, rfl, rfl, hxb, atI_nat (j := 0) rfl, _, 65536, rfl, rfl, by show (65536 : Int) ≠ 0; decide, by decide, fun B hB => ⟨_, _, rfl, ?_⟩⟩
    have sB := same_new (o := .lst []) hB
    have ef : Int.fdiv (((rowV row).length : Int) + 1) 2 = (((row.length + 1) / 2 : Nat) : Int) := by rw [hrl, fdp _ (by decide)]; omega
    refine ⟨_, rfl, ra, _, rfl, .inr (same_tup sB hra), _, _, rfl, rfl, _, 2, rfl, rfl, ⟨by show (2 : Int) ≠ 0; decide, by show (2 : Int).natAbs < 1073741824; decide⟩, _, rfl, ?_⟩
    rw [ef]
    refine ⟨by omega, by omega, ?_⟩
    refine for_range (lo := 0) (n := ((((row.length + 1) / 2 : Nat) : Int)).toNat) (fun j σ H2 => ∃ y4 y5, σ = [some (.ref xb), some (.ref ra), some (.int (Int.fmod st.1 65536)), some (.ref B), y4, y5] ∧ Same H H2 ∧ H2 B = some (.lst (((pk row).take j).map V.int))) ⟨none, none, rfl, sB, upd_same⟩ ?_ ?_
    · rintro j σ H2 hj ⟨y4, y5, rfl, s2, hB2⟩
      have hj : j < (row.length + 1) / 2 := by omega
      have hra2 := same_tup s2 hra
      have e0 : (2 : Int) * (0 + (j : Int)) = ((2 * j : Nat) : Int) := by omega
      refine ⟨_, rfl, .inl ⟨rfl, _, SqL.of hB2⟩, _, rfl, _, rfl, _, _, rfl, rfl, .inl ⟨by decide, by decide⟩, ra, _, (2 : Int) * (0 + (j : Int)), _, rfl, rfl, hra2, by rw [e0]; exact atI_nat (rowV_at (by omega)), _, rfl, _, _, rfl, rfl, .inl ⟨by decide, by decide⟩, _, _, rfl, rfl, _, rfl, ra, _, rfl, .inr hra2, _, _, rfl, rfl, _, rfl, ?_⟩
      rw [hrl, e0]
      refine ite2 (fun e => ?_) (fun e => ?_)
      · have e := of_decide_eq_true e
        refine ⟨_, rfl, _, rfl, _, _, rfl, rfl, .inl ⟨by decide, by decide⟩, _, _, rfl, rfl, ra, _, (2 : Int) * (0 + (j : Int)) + 1, _, rfl, rfl, hra2, by rw [e0]; exact atI_nat (j := 2 * j + 1) (rowV_at (by omega)), _, _, rfl, rfl, .inl ⟨by decide, by decide⟩, _, _, rfl, rfl, B, _, _, rfl, rfl, hB2, ?_, ?_⟩
        · rw [List.length_map, List.length_take]
          exact small1000 (by omega)
        refine ⟨_, _, rfl, same_put s2 hB, ?_⟩
        rw [upd_same, pk_take hj, ints_app]
        rfl
      · have e : ¬ ((2 * j : Nat) : Int) + 1 < (row.length : Int) := fun z => e (decide_eq_true z)
        refine ⟨_, _, rfl, rfl, B, _, _, rfl, rfl, hB2, ?_, ?_⟩
        · rw [List.length_map, List.length_take]
          exact small1000 (by omega)
        refine ⟨_, _, rfl, same_put s2 hB, ?_⟩
        rw [upd_same, pk_take hj, ints_app]
        show some (HO.lst (_ ++ [V.int ((row.getD (2 * j) 0 : Nat) + 0)])) = some (HO.lst (_ ++ [V.int (pkAt row j)]))
        unfold pkAt
        rw [getD_out (i := 2 * j + 1) (by omega)]
        rfl
    · rintro σ H2 ⟨y4, y5, rfl, s2, hB2⟩
      rw [show ((((row.length + 1) / 2 : Nat) : Int)).toNat = (row.length + 1) / 2 by omega, List.take_of_length_le (by rw [pk_len]; exact Nat.le_refl _)] at hB2
      have e1 : Int.fdiv (Int.fmod st.1 65536) 256 = wd st / 256 := by rw [hwd]; exact fdp _ (by decide)
      have e2 : Int.fmod (Int.fmod st.1 65536) 256 = wd st % 256 := by rw [hwd]; exact fmp _ (by decide)
      refine ⟨_, rfl, _, 256, rfl, rfl, ⟨by show (256 : Int) ≠ 0; decide, by show (256 : Int).natAbs < 1073741824; decide⟩, _, rfl, _, 256, rfl, rfl, by show (256 : Int) ≠ 0; decide, _, rfl, xb, _, 1, _, rfl, rfl, same_tup s2 hxb, atI_nat (j := 1) rfl, _, rfl, ra, _, rfl, .inr (same_tup s2 hra), by show 4 ≤ sizeLine; decide, fun L hL => ?_⟩
      have sL := same_new (o := .lst [V.int (Int.fdiv (Int.fmod st.1 65536) 256), V.int (Int.fmod (Int.fmod st.1 65536) 256), V.int st.2, V.int ((rowV row).length : Int)]) hL
      refine ⟨_, rfl, L, B, _, _, rfl, rfl, upd_same, sL _ _ hB2, ?_, fun M hM => ?_⟩
      · rw [List.length_map, pk_len]
        exact sz_line (by simp; omega)
      have eM : ([V.int (Int.fdiv (Int.fmod st.1 65536) 256), V.int (Int.fmod (Int.fmod st.1 65536) 256), V.int st.2, V.int ((rowV row).length : Int)] ++ (pk row).map V.int : List V) = (inner st row).map V.int := by
        rw [e1, e2, hrl]
        unfold inner
        rw [ints_app]
        rfl
      have sM := same_new (o := .lst ([V.int (Int.fdiv (Int.fmod st.1 65536) 256), V.int (Int.fmod (Int.fmod st.1 65536) 256), V.int st.2, V.int ((rowV row).length : Int)] ++ (pk row).map V.int)) hM
      have hM2 := (upd_same : (upd (upd H2 L (.lst [V.int (Int.fdiv (Int.fmod st.1 65536) 256), V.int (Int.fmod (Int.fmod st.1 65536) 256), V.int st.2, V.int ((rowV row).length : Int)])) M (.lst ([V.int (Int.fdiv (Int.fmod st.1 65536) 256), V.int (Int.fmod (Int.fmod st.1 65536) 256), V.int st.2, V.int ((rowV row).length : Int)] ++ (pk row).map V.int))) M = _)
      rw [eM] at hM2
      have s4 := (s2.trans sL).trans sM
      rw [eM] at s4 ⊢
      refine ⟨by show 2 ≤ sizeLine; decide, fun t ht => ?_⟩
      have st1 := same_new (o := .tup [V.int 165, V.int 90]) ht
      refine ⟨_, rfl, M, _, rfl, .inl ⟨SqL.of (st1 _ _ hM2), fun u hu => ?_⟩⟩
      have st2 := same_new (o := .tup ((inner st row).map V.int)) hu
      refine cat_any (same_tup st2 upd_tup) upd_tup (by rw [List.length_map, inner_len]; exact sz_line (by simp; omega)) fun v H5 s5 hv => ?_
      have s45 := ((s4.trans st1).trans st2).trans s5
      refine ⟨_, rfl, M, _, rfl, SqL.of (s5 _ _ (st2 _ _ (st1 _ _ hM2))), _, 256, rfl, rfl, by show (256 : Int) ≠ 0; decide, by show 1 ≤ sizeLine; decide, fun x hx' => ?_⟩
      have st3 := same_new (o := .tup [V.int (Int.fmod (inner st row).sum 256)]) hx'
      refine cat_any (same_tup st3 hv) upd_tup (by rw [List.length_append, List.length_map, inner_len]; exact sz_line (by simp; omega)) fun y H6 s6 hy => ?_
      refine q _ _ ((s45.trans st3).trans s6) (dp_tints ?_)
      have e : (blk st row).map V.int = [V.int 165, V.int 90] ++ (inner st row).map V.int ++ [V.int (Int.fmod (inner st row).sum 256)] := by
        rw [fmp _ (by decide)]
        unfold blk
        rw [ints_app, ints_app]
        rfl
      rw [e]
      exact hy
end
end My

namespace My
open PySem PySem.Spec PyProof.Rows L2
section
variable {P : Program} {w : World} {K : PySem.W.Frag} {mg : Str → Option Value} {base : Heap}
theorem last_of_path {H : Hp} {C : Cod} {xs : List V} {s : Int × Int} {row : List Nat} (h : DpAll K H xs ((C.path s row).map pairI)) : ∃ ys z, xs = ys ++ [z] ∧ Dp K H z (pairI (C.run s row)) := by
  obtain ⟨l, e⟩ := path_last (C := C) row s
  rw [e] at h
  exact dp_last h
theorem sig_at' {H : Hp} {v : V} {ns : List Int} (h : Dp K H v (.tuple (ns.map .int))) : ∃ a, v = .ref a ∧ SqT K H a (ns.map V.int) := by
  obtain ⟨a, xs, rfl, ha, hd⟩ := dp_tup h
  rw [dpAll_ints hd] at ha
  exact ⟨a, rfl, ha⟩
def sp_law_file (K : PySem.W.Frag) : Sp := fun vs H Q _ => ∃ (c r x : V) (l : Addr) (C : Cod) (row : List Nat) (s : Int × Int) (sz : List Int), vs = [c, r, .ref l, x] ∧ C.Ok ∧ Dp K H c C.dat ∧ Dp K H r (rowI row) ∧ C.Row row ∧ SqL K H l (sz.map V.int) ∧ sz ≠ [] ∧ (∀ z ∈ sz, 1 ≤ z ∧ z ≤ 255) ∧
  Dp K H x (pairI s) ∧ C.St s ∧ ∀ z ds H', Same H H' → FileOf C s row ds → Dp K H' z (.tuple (ds.map .int)) → Q z H'
theorem ok_law_file (T : Txt K mg) : FnOk P w K mg base CX0 5 T.f__law_file T.d__law_file ["coder", "row", "sizes", "here"] (sp_law_file K) := by
  refine T.F__law_file.ok sc_law_file (fun vs H Q E h => ?_) (fun cdv A outer s H vs Q E hr h => ?_)
  · obtain ⟨c, r, x, l, C, row, s, sz, rfl, _⟩ := h
    rfl
  · obtain ⟨c, r, x, l, C, row, st, sz, rfl, O, hc, hrow, R, hl, hne, hsz, hx, hst, q⟩ := h
    obtain ⟨ra, rfl, hra⟩ := row_at hrow
    have hrl : (rowV row).length = row.length := List.length_map ..
    have hlen := R.len
    have hm2 := O.m2
    refine ⟨_,
(pss_cons (ps_asg (pe_tup (pa_cons (pe_tup pa_nil) (pa_cons pe_int (pa_cons pe_int pa_nil)))) (pg_tup (by rfl) (pgs_cons (pg_name (i := 4) sc_law_file.nd rfl (Or.inl rfl)) (pgs_cons (pg_name (i := 5) sc_law_file.nd rfl (Or.inl rfl)) (pgs_cons (pg_name (i := 6) sc_law_file.nd rfl (Or.inl rfl)) pgs_nil)))))
      (pss_cons (ps_while PassesOwn.never (pt_cmpR op_lt (pv 5) (pe_callB (call_len_seq) (by rfl) T.z_len (by decide +kernel) (pa_cons (pv 1) pa_nil)) (nomark _)) (pss_cons (ps_set (i := 7) sc_law_file.nd rfl (Or.inl rfl) (pe_ifExp (pt_cmpR op_lt (pv 6) (pe_callB (call_len_seq) (by rfl) T.z_len (by decide +kernel) (pa_cons (pv 2) pa_nil)) (nomark _)) (pe_ix ix_list (pv 2) (pv 6) (fun _ _ => rfl)) (pe_ix ix_list (pv 2) (pe_un un_neg pe_int) (fun _ _ => rfl))))
      (pss_cons (ps_set (i := 4) sc_law_file.nd rfl (Or.inl rfl) (pe_op op_catA (pv 4) (pe_call (ok_law_block T) (hr.mono (by decide)) (by rfl) T.g__law_block T.F__law_block.kp T.b__law_block .nil pass0 (pa_cons (pv 3) (pa_cons (pe_slice sl_tupA (pv 1) (po_some (pv 5)) (po_some (pe_op op_add (pv 5) (pv 7)))) pa_nil)))))
      (pss_cons (ps_set (i := 3) sc_law_file.nd rfl (Or.inl rfl) (pe_ix ix_list (pe_call (ok_law_walked T) (hr.mono (by decide)) (by rfl) T.g__law_walked T.F__law_walked.kp T.b__law_walked .nil pass0 (pa_cons (pv 0) (pa_cons (pv 3) (pa_cons (pe_slice sl_tupA (pv 1) (po_some (pv 5)) (po_some (pe_op op_add (pv 5) (pv 7)))) pa_nil)))) (pe_un un_neg pe_int) (fun _ _ => rfl)))
      (pss_one (ps_par (i := 5) (j := 6) (by rfl) sc_law_file.nd rfl rfl (by decide) rfl rfl (pa_cons (pe_op op_add (pv 5) (pv 7)) (pa_cons (pe_op op_add (pv 6) pe_int) pa_nil)) (by rfl)))))))
      (pss_one (ps_ret (pv 4)))))
, ?_⟩
    refine ⟨by show 0 ≤ sizeLine; decide, fun t0 ht0 => ⟨by show 3 ≤ sizeLine; decide, fun t1 ht1 => ?_⟩⟩
    have s00 := same_new (o := .tup []) ht0
    have s01 := same_new (o := .tup [V.ref t0, V.int 0, V.int 0]) ht1
    have s0 := s00.trans s01
    refine ⟨t1, _, rfl, upd_tup, rfl, _, _, rfl, _, _, rfl, _, _, rfl, rfl, ?_⟩
    refine ⟨fun cnt σ H' => ∃ (at' k : Nat) (ds : List Int) (xv fv : V) (y : Option V), cnt = row.length - at' ∧ σ = [some c, some (.ref ra), some (.ref l), some xv, some fv, some (.int (at' : Int)), some (.int (k : Int)), y] ∧ Same H H' ∧
      FileOf C st (row.take at') ds ∧ Dp K H' fv (.tuple (ds.map .int)) ∧ Dp K H' xv (pairI (C.run st (row.take at'))), ⟨_, 0, 0, [], _, _, none, rfl, rfl, s0, FileOf.nil, dp_tints (ns := []) (same_tup s01 upd_tup), dp_same s0 _ _ hx⟩, ?_⟩
    rintro cnt σ H2 ⟨at', k, ds, xv, fv, y, hcnt, rfl, sH, hF, hfv, hxv⟩
    refine ⟨_, rfl, _, rfl, ra, _, rfl, .inr (same_tup sH hra), _, _, rfl, rfl, _, rfl, ?_⟩
    rw [hrl]
    by_cases hat : at' < row.length
    · rw [decide_eq_true (by omega)]
      refine iteT ?_
      refine ⟨_, fun σ' H' hN => hN, ?_⟩
      dsimp only
      have hl2 := sH.seq hl
      refine st_tail (fun σ H' => ∃ size : Nat, σ = [some c, some (.ref ra), some (.ref l), some xv, some fv, some (.int (at' : Int)), some (.int (k : Int)), some (.int (size : Int))] ∧ H' = H2 ∧ 1 ≤ size ∧ size ≤ 255) ?_ fun tail => ?_
      · rintro σ H' ⟨size, rfl, rfl, z1, z2⟩
        obtain ⟨fa, rfl, hfa⟩ := sig_at' hfv
        obtain ⟨cr, hcr⟩ : ∃ cr, cr = (row.drop at').take size := ⟨_, rfl⟩
        have ecr : ((rowV row).drop at').take (at' + size - at') = rowV cr := by
          rw [hcr]
          unfold rowV
          rw [List.map_take, List.map_drop, Nat.add_sub_cancel_left]
        have hcl : 0 < cr.length ∧ cr.length ≤ 255 := by rw [hcr, List.length_take, List.length_drop]; omega
        have hcR : C.Row cr := ⟨by omega, fun k hk => R.lt k (List.mem_of_mem_drop (List.mem_of_mem_take (hcr ▸ hk)))⟩
        have hcur := run_St O (row.take at') hst
        have hnext : row.take (at' + size) = row.take at' ++ cr := by rw [hcr, List.take_add]
        have hdl := hF.len
        have htl : (row.take at').length ≤ row.length := by rw [List.length_take]; omega
        refine ⟨_, rfl, _, rfl, _, rfl, _, rfl, _, rfl, _, rfl, _, rfl, _, _, rfl, rfl, _, rfl, ?_⟩
        refine sl_partV (lo := at') (hi := at' + size) (same_tup sH hra) (by omega) fun p5 H5 s5 hp5 => ?_
        rw [ecr] at hp5
        refine ⟨.ref p5, xv, cr, _, rfl, dp_row hp5, hcl.2, dp_same s5 _ _ hxv, fun bv H6 s6 hbv => ?_⟩
        obtain ⟨ba, rfl, hba⟩ := sig_at' hbv
        have s56 := s5.trans s6
        refine cat_ints (same_tup s56 hfa) hba (by rw [blk_len]; exact sz_line (by omega)) fun gv H7 s7 hgv => ?_
        have s57 := s56.trans s7
        have sH7 := sH.trans s57
        refine ⟨_, rfl, _, rfl, _, rfl, _, rfl, _, rfl, _, rfl, _, rfl, _, _, rfl, rfl, _, rfl, ?_⟩
        refine sl_partV (lo := at') (hi := at' + size) (same_tup sH7 hra) (by omega) fun p8 H8 s8 hp8 => ?_
        rw [ecr] at hp8
        have s78 := sH7.trans s8
        refine ⟨c, xv, .ref p8, C, cr, _, rfl, O, dp_same s78 _ _ hc, dp_row hp8, hcR, dp_same (s57.trans s8) _ _ hxv, hcur, fun p9 ps H9 s9 _ hp9 hps => ?_⟩
        obtain ⟨ys, z, rfl, hz⟩ := last_of_path hps
        refine ⟨1, rfl, p9, _, -1, z, rfl, rfl, SqL.of hp9, atI_last _ _, ?_⟩
        refine ⟨_, rfl, _, rfl, _, _, rfl, rfl, _, rfl, _, _, rfl, rfl, _, _, rfl, ?_⟩
        refine ⟨row.length - (at' + size), by omega, at' + size, k + 1, ds ++ blk (C.run st (row.take at')) cr, z, gv, _, rfl, rfl, s78.trans s9, ?_, ?_, ?_⟩
        · rw [hnext]
          exact hF.snoc (List.length_pos_iff.mp hcl.1) hcl.2
        · exact dp_same (s8.trans s9) _ _ hgv
        · rw [hnext, run_app]
          exact hz
      · refine ⟨_, rfl, _, rfl, l, _, rfl, .inl hl2, _, _, rfl, rfl, _, rfl, ?_⟩
        have fin : ∀ z ∈ sz, ∃ size : Nat, z = (size : Int) ∧ 1 ≤ size ∧ size ≤ 255 := fun z hz => ⟨z.toNat, by have := hsz z hz; omega, by have := hsz z hz; omega, by have := hsz z hz; omega⟩
        refine ite2 (fun e => ?_) (fun e => ?_)
        · have e := of_decide_eq_true e
          rw [List.length_map] at e
          have hk : k < sz.length := by omega
          obtain ⟨size, ez, z1, z2⟩ := fin _ (List.getElem_mem hk)
          refine ⟨_, rfl, _, rfl, l, _, (k : Int), .int (size : Int), rfl, rfl, hl2, atI_nat (by rw [List.getElem?_map, List.getElem?_eq_getElem hk, ez]; rfl), ?_⟩
          exact tail _ _ ⟨size, rfl, rfl, z1, z2⟩
        · obtain ⟨zs, z, rfl⟩ : ∃ zs z, sz = zs ++ [z] := ⟨sz.dropLast, sz.getLast hne, (List.dropLast_concat_getLast hne).symm⟩
          obtain ⟨size, rfl, z1, z2⟩ := fin z (by simp)
          refine ⟨_, rfl, 1, rfl, l, _, -1, .int (size : Int), rfl, rfl, hl2, by rw [List.map_append]; exact atI_last _ _, ?_⟩
          exact tail _ _ ⟨size, rfl, rfl, z1, z2⟩
    · rw [decide_eq_false (by omega)]
      refine iteF ?_
      rw [List.take_of_length_le (by omega)] at hF
      exact ⟨_, rfl, q _ ds _ sH hF hfv⟩
end
end My

/-! what stands through draws and lambdas; refusals that are told -/
namespace My
open PySem PySem.Spec PyProof.Rows L2
open LamX
theorem tabS_of {H H' : Hp} {P : Addr} {q : Str} (t : TabS H P q) (k : ∀ b o, H b = some o → (∀ xs, o ≠ .lst xs) → (∀ kv, o ≠ .dK kv) → H' b = some o) : TabS H' P q := by
  obtain ⟨ps, h1, h2, h3⟩ := t
  refine ⟨ps, k _ _ h1 nofun nofun, h2, fun pos cv hc => ?_⟩
  obtain ⟨c, e1, e2⟩ := h3 pos cv hc
  exact ⟨c, e1, k _ _ e2 (fun xs z => by unfold CodeO at z; cases z) (fun xs z => by unfold CodeO at z; cases z)⟩
theorem tabs_of {T : List (Addr × Str)} {H H' : Hp} (t : Tabs T H) (k : ∀ b o, H b = some o → (∀ xs, o ≠ .lst xs) → (∀ kv, o ≠ .dK kv) → H' b = some o) : Tabs T H' := fun p hp => tabS_of (t p hp) k
theorem tabs_same {T : List (Addr × Str)} {H H' : Hp} (t : Tabs T H) (s : Same H H') : Tabs T H' := t.ext s
theorem tabs_kp {T : List (Addr × Str)} {H H' : Hp} {m c l l' n : Addr} (t : Tabs T H) (k : Kp m l H l' H') (d : Dr H m c l n) : Tabs T H' := tabs_of t fun b o h n1 n2 => by
  obtain ⟨cs, ls, z, h1, h2, h3, r⟩ := d.ex
  exact k.st b o h (fun e => by rw [e, h1] at h; cases h; exact n2 _ rfl) (fun e => by rw [e, h3] at h; cases h; exact n1 _ rfl)
theorem tabs_put {T : List (Addr × Str)} {H : Hp} {p : Addr} {xs ys : List V} (t : Tabs T H) (h : H p = some (.lst xs)) : Tabs T (upd H p (.lst ys)) := tabs_of t fun b o hb n1 n2 => by
  rw [upd_ne (fun e => by rw [e, h] at hb; cases hb; exact n1 _ rfl)]
  exact hb
theorem tabs_nil {H : Hp} {P : Addr} {q : Str} (h : H P = some (.tbl #[])) : Tabs [(P, q)] H := fun p hp => by
  rw [List.mem_singleton.mp hp]
  exact TabS.nil h
theorem ext_same {H H' : Hp} (s : Same H H') : ExtN H H' := ExtN.of s
theorem keep_ext {H H' : Hp} (e : ExtN H H') : Keep H H' := fun b o h t => e b o h fun ps z => by
  rw [z] at t
  exact t
theorem ext_tup {K : PySem.W.Frag} {H H' : Hp} {a : Addr} {xs : List V} (e : ExtN H H') (h : SqT K H a xs) : SqT K H' a xs := (keep_ext e).tup h
theorem ext_seq {K : PySem.W.Frag} {H H' : Hp} {a : Addr} {xs : List V} (e : ExtN H H') (h : SqL K H a xs) : SqL K H' a xs := by
  rcases h with (h | ⟨o, h⟩) | h
  · exact .inl (.inl (e _ _ h nofun))
  · exact .inl (.inr ⟨o, e _ _ h nofun⟩)
  · exact .inr h
mutual
theorem dp_ext {K : PySem.W.Frag} {H H' : Hp} (s : ExtN H H') : ∀ (d : PyData) (v : V), Dp K H v d → Dp K H' v d
  | .none, _, h => by cases h; exact .non
  | .bool _, _, h => by cases h; exact .bl _
  | .int _, _, h => by cases h; exact .int _
  | .str _, _, h => by cases h; exact .str _
  | .list ds, _, h => by
    cases h with
    | lst a b => exact .lst (ext_seq s a) (dpAll_ext s ds _ b)
  | .tuple ds, _, h => by
    cases h with
    | tup a b => exact .tup (ext_tup s a) (dpAll_ext s ds _ b)
  | .dict _, _, h => by cases h
theorem dpAll_ext {K : PySem.W.Frag} {H H' : Hp} (s : ExtN H H') : ∀ (ds : List PyData) (vs : List V), DpAll K H vs ds → DpAll K H' vs ds
  | [], _, h => by cases h; exact .nil
  | d :: ds, _, h => by
    cases h with
    | cons a b => exact .cons (dp_ext s d _ a) (dpAll_ext s ds _ b)
end
theorem dr_ext {H H' : Hp} {m c l n : Nat} (d : Dr H m c l n) (s : ExtN H H') : Dr H' m c l n := by
  obtain ⟨cs, ls, k, h1, h2, h3, r⟩ := d.ex
  exact ⟨cs, ls, k, s _ _ h1 nofun, s _ _ h2 nofun, s _ _ h3 nofun, r⟩
theorem own_ext {H H' : Hp} {m c l p : Addr} {xs : List V} (o : Own H m c l p xs) (s : ExtN H H') : Own H' m c l p xs := ⟨s _ _ o.st nofun, o.nm, o.nc, o.nl⟩
/-! all but the drawer's own objects -/
def hide (m l : Addr) (H : Hp) : Hp := fun b => if b = m ∨ b = l then none else H b
theorem hide_same {m l : Addr} {H H' : Hp} (s : Same H H') : Same (hide m l H) (hide m l H') := fun b o h => by
  unfold hide at h ⊢
  by_cases e : b = m ∨ b = l
  · rw [if_pos e] at h
    cases h
  · rw [if_neg e] at h ⊢
    exact s _ _ h
theorem hide_at {m c l n p : Addr} {H : Hp} {o : HO} (D : Dr H m c l n) (h : H p = none) : hide m l (upd H p o) p = some o := by
  obtain ⟨cs, ls, k, h1, h2, h3, r⟩ := D.ex
  unfold hide
  rw [if_neg (fun e => by
    rcases e with e | e
    · rw [e, h1] at h; cases h
    · rw [e, h3] at h; cases h)]
  exact upd_same
theorem hide_kp {m l l' : Addr} {H H' : Hp} (k : Kp m l H l' H') : Same (hide m l H) H' := fun b o h => by
  unfold hide at h
  by_cases e : b = m ∨ b = l
  · rw [if_pos e] at h
    cases h
  · rw [if_neg e] at h
    exact k.st b o h (fun z => e (.inl z)) (fun z => e (.inr z))
theorem hide_sub {m l : Addr} {H : Hp} : Same (hide m l H) H := fun b o h => by
  unfold hide at h
  by_cases e : b = m ∨ b = l
  · rw [if_pos e] at h
    cases h
  · rw [if_neg e] at h
    exact h
/-! ### a coder's data tell the coder -/
theorem ints_inj : ∀ {a b : List Int}, a.map PyData.int = b.map PyData.int → a = b
  | [], [], _ => rfl
  | x :: a, y :: b, h => by
    injection h with h1 h2
    injection h1 with h1
    rw [h1, ints_inj h2]
  | [], _ :: _, h => by cases h
  | _ :: _, [], h => by cases h
theorem pairI_inj {a b : Int × Int} (h : pairI a = pairI b) : a = b := by
  unfold pairI at h
  injection h with h
  injection h with h1 h
  injection h with h2 _
  injection h1 with h1
  injection h2 with h2
  exact Prod.ext h1 h2
theorem pairs_inj : ∀ {a b : List (Int × Int)}, a.map pairI = b.map pairI → a = b
  | [], [], _ => rfl
  | x :: a, y :: b, h => by
    injection h with h1 h2
    rw [pairI_inj h1, pairs_inj h2]
  | [], _ :: _, h => by cases h
  | _ :: _, [], h => by cases h
theorem dat_inj {C D : Cod} (h : C.dat = D.dat) : C = D := by
  obtain ⟨l, g, s, m, f⟩ := C
  obtain ⟨l', g', s', m', f'⟩ := D
  unfold Cod.dat at h
  injection h with h
  injection h with h1 h
  injection h with h2 h
  injection h with h3 h
  injection h with h4 h
  injection h with h5 _
  injection h1 with h1
  injection h2 with h2
  injection h3 with h3
  injection h4 with h4
  injection h5 with h5
  have h3 := ints_inj h3
  have h4 := pairs_inj h4
  subst h1 h2 h3 h4 h5
  rfl
theorem row_inj : ∀ {a b : List Nat}, (a.map fun k : Nat => PyData.int (k : Int)) = (b.map fun k : Nat => PyData.int (k : Int)) → a = b
  | [], [], _ => rfl
  | x :: a, y :: b, h => by
    injection h with h1 h2
    injection h1 with h1
    rw [row_inj h2, Int.ofNat.inj h1]
  | [], _ :: _, h => by cases h
  | _ :: _, [], h => by cases h
theorem fltV_cod {C : Cod} (O : C.Ok) {y z : V} {R : Prop} (h : FltV (firstF C.dat) y z) : R := by
  rw [O.first] at h
  cases h
theorem fltV_tell {s : Str} {n : PyData} {y z : V} {d : PyData} (e : d = .tuple [.str s, n]) (h : FltV d y z) {K : PySem.W.Frag} {H : Hp} : Dp K H y (.str s) ∧ Dp K H z n := by
  cases h with
  | non t =>
    injection e with e
    injection e with e1 e
    injection e with e2 _
    injection e1 with e1
    subst e1 e2
    exact ⟨.str _, .non⟩
  | int t k =>
    injection e with e
    injection e with e1 e
    injection e with e2 _
    injection e1 with e1
    subst e1 e2
    exact ⟨.str _, .int _⟩
theorem units65 {k : Nat} {A : Around} (r : Room k A) : A.units + 65 < cLine := by have := r.un; omega
theorem eqv_self {d : PyData} (h : SeqAt.shaped d = true) : PyData.eqv d d = true := SeqAt.eqv_refl d (SeqAt.canLay_of_shaped h)
/-- x != y of the same data -/
theorem neD_same {K : PySem.W.Frag} {H : Hp} {x y : V} {d : PyData} {A B : Hp → Prop} (hx : Dp K H x d) (hy : Dp K H y d) (hs : SeqAt.shaped d = true) (q : B H) : rNeD K x y H fun v H' => ∃ c, v = .bl c ∧ if c = true then A H' else B H' := by
  refine ⟨d, d, hx, hy, hs, hs, _, rfl, ?_⟩
  rw [eqv_self hs]
  exact iteF q
theorem pick_v {xs : List V} {r : Int} (h0 : 0 ≤ r) (h1 : r < (xs.length : Int)) : ∃ z, z ∈ xs ∧ atI xs r = some z := by
  obtain ⟨n, rfl⟩ := Int.eq_ofNat_of_zero_le h0
  have hn : n < xs.length := by omega
  exact ⟨xs[n], List.getElem_mem hn, atI_nat (List.getElem?_eq_getElem hn)⟩
section
variable {K : PySem.W.Frag} {mg : Str → Option Value} {T : Txt K mg} {H : Hp} {Q : VK}
theorem coder_E {dc : PyData} {s : Str} {n : PyData} (e : firstF dc = .tuple [.str s, n]) (q : ∀ z H', Same H H' → Dp K H' z (.tuple [.str "coder", .str s, n]) → Q z H') {y z : V} (h : FltV (firstF dc) y z) : TwoE T.C_BadCoder "part" "number" H (EO T Q) y z :=
  fun d H' s hd => ⟨.coder (.str _) n, ⟨rfl, d, _, _, rfl, hd, (fltV_tell e h).1, (fltV_tell e h).2⟩, fun z H'' s' hz => q z H'' (s.trans s') hz⟩
theorem great_E {n : Int} (q : ∀ z H', Same H H' → Dp K H' z (.tuple [.str "great", .int n]) → Q z H') : OneE T.C_TooGreat "most" H (EO T Q) (.int n) := fun d H' s hd => ⟨.great (.int n), ⟨rfl, d, _, rfl, hd, .int _⟩, fun z H'' s' hz => q z H'' (s.trans s') hz⟩
theorem byte_E {v : V} {n : PyData} (hv : ∀ H', Same H H' → Dp K H' v n) (q : ∀ z H', Same H H' → Dp K H' z (.tuple [.str "byte", n]) → Q z H') : OneE T.C_BadByte "number" H (EO T Q) v := fun d H' s hd => ⟨.byte n, ⟨rfl, d, _, rfl, hd, hv _ s⟩, fun z H'' s' hz => q z H'' (s.trans s') hz⟩
end
end My

set_option pp.maxSteps 400
set_option pp.deepTerms false
/-! tuples of any things, empty dicts among them -/
namespace My
open PySem PySem.Spec PyProof.Rows L2
inductive Di (K : PySem.W.Frag) (H : Hp) : V → PyData → Prop
  | fl {v : V} {d : PyData} : noL d = true → Dp K H v d → Di K H v d
  | ls {a : Addr} {xs : List V} {es : List PyData} : H a = some (.lst xs) → (a == sysModules) = false → DpAll K H xs es → noLs es = true → Di K H (.ref a) (.list es)
  | dk {a : Addr} : H a = some (.dK []) → Di K H (.ref a) (.dict [])
theorem Di.same {K : PySem.W.Frag} {H H' : Hp} {x : V} {d : PyData} (h : Di K H x d) (s : Same H H') : Di K H' x d := by
  cases h with
  | fl n h => exact .fl n (dp_same s _ _ h)
  | ls h1 h2 h3 h4 => exact .ls (s _ _ h1) h2 (dpAll_same s _ _ h3) h4
  | dk h => exact .dk (s _ _ h)
inductive DiAll (K : PySem.W.Frag) (H : Hp) : List V → List PyData → Prop
  | nil : DiAll K H [] []
  | cons {v : V} {vs : List V} {d : PyData} {ds : List PyData} : Di K H v d → DiAll K H vs ds → DiAll K H (v :: vs) (d :: ds)
theorem diAll_same {K : PySem.W.Frag} {H H' : Hp} (s : Same H H') : ∀ {vs : List V} {ds : List PyData}, DiAll K H vs ds → DiAll K H' vs ds
  | _, _, .nil => .nil
  | _, _, .cons h t => .cons (h.same s) (diAll_same s t)
theorem diAll_len {K : PySem.W.Frag} {H : Hp} : ∀ {vs : List V} {ds : List PyData}, DiAll K H vs ds → vs.length = ds.length
  | _, _, .nil => rfl
  | _, _, .cons _ t => congrArg (· + 1) (diAll_len t)
theorem diAll_get {K : PySem.W.Frag} {H : Hp} : ∀ {xs : List V} {ds : List PyData} {i : Nat} {x : V}, DiAll K H xs ds → xs[i]? = some x → ∃ d, ds[i]? = some d ∧ Di K H x d
  | _, _, _, _, .nil, h => by simp at h
  | _, _, 0, _, .cons h t, e => by
    simp at e
    subst e
    exact ⟨_, by simp, h⟩
  | _, _, i + 1, x, .cons h t, e => by
    obtain ⟨d, h1, h2⟩ := diAll_get (i := i) (x := x) t (by simpa using e)
    exact ⟨d, by simpa using h1, h2⟩
theorem diAll_app {K : PySem.W.Frag} {H : Hp} : ∀ {a b : List V} {c d : List PyData}, DiAll K H a c → DiAll K H b d → DiAll K H (a ++ b) (c ++ d)
  | _, _, _, _, .nil, h => h
  | _, _, _, _, .cons h t, g => .cons h (diAll_app t g)
theorem diAll_drop {K : PySem.W.Frag} {H : Hp} : ∀ (n : Nat) {a : List V} {c : List PyData}, DiAll K H a c → DiAll K H (a.drop n) (c.drop n)
  | 0, _, _, h => h
  | _ + 1, _, _, .nil => .nil
  | n + 1, _, _, .cons _ t => diAll_drop n t
theorem diAll_take {K : PySem.W.Frag} {H : Hp} : ∀ (n : Nat) {a : List V} {c : List PyData}, DiAll K H a c → DiAll K H (a.take n) (c.take n)
  | 0, _, _, _ => .nil
  | _ + 1, _, _, .nil => .nil
  | n + 1, _, _, .cons h t => .cons h (diAll_take n t)
theorem diAll_of {K : PySem.W.Frag} {H : Hp} : ∀ {a : List V} {c : List PyData}, noLs c = true → DpAll K H a c → DiAll K H a c
  | _, _, _, .nil => .nil
  | _, _, n, .cons h t => by
    obtain ⟨n1, n2⟩ := Bool.and_eq_true_iff.mp (show (noL _ && noLs _) = true from n)
    exact .cons (.fl n1 h) (diAll_of n2 t)
/-- a tuple of such things -/
def Dt (K : PySem.W.Frag) (H : Hp) (v : V) (ds : List PyData) : Prop := ∃ a xs, v = .ref a ∧ SqT K H a xs ∧ DiAll K H xs ds
theorem Dt.same {K : PySem.W.Frag} {H H' : Hp} {v : V} {ds : List PyData} (h : Dt K H v ds) (s : Same H H') : Dt K H' v ds := by
  obtain ⟨a, xs, rfl, h1, h2⟩ := h
  exact ⟨a, xs, rfl, same_tup s h1, diAll_same s h2⟩
theorem Dt.of {K : PySem.W.Frag} {H : Hp} {v : V} {ds : List PyData} (n : noLs ds = true) (h : Dp K H v (.tuple ds)) : Dt K H v ds := by
  obtain ⟨a, xs, rfl, h1, h2⟩ := dp_tup h
  exact ⟨a, xs, rfl, h1, diAll_of n h2⟩
theorem di_ty {K : PySem.W.Frag} {H : Hp} {x : V} {d : PyData} (h : Di K H x d) : TyX K H x (.type (tyN d)) := by
  cases h with
  | fl _ h => exact tyx h
  | ls h => exact .base (.lst h)
  | dk h => exact .base (.dK h)
theorem Di.int {K : PySem.W.Frag} {H : Hp} {x : V} {n : Int} (h : Di K H x (.int n)) : x = .int n := by
  cases h with
  | fl _ h => cases h; rfl
section
variable {P : Program} {w : World} {K : PySem.W.Frag} {mg : Str → Option Value} {base : Heap}
def spZ_is_integer (K : PySem.W.Frag) : Sp := fun vs H Q _ => ∃ (x : V) (d : PyData), vs = [x] ∧ Di K H x d ∧ ∀ H', Same H H' → Q (.bl (intD d)) H'
theorem okZ_is_integer (T : Txt K mg) : FnOk P w K mg base CX0 1 T.f_is_integer T.d_is_integer ["thing"] (spZ_is_integer K) := by
  refine T.F_is_integer.ok sc_is_integer (fun vs H Q E h => ?_) (fun cdv A outer s H vs Q E hr h => ?_)
  · obtain ⟨x, d, rfl, _⟩ := h
    rfl
  · obtain ⟨x, d, rfl, hd, q⟩ := h
    refine ⟨_,
(pss_one (ps_ret (pe_and (pe_callB (call_isi) (by rfl) T.z_isinstance (by decide +kernel) (pa_cons (pv 0) (pa_cons (pe_bltn (v := .ty "int") (by rfl) T.z_int (by decide +kernel) rfl) pa_nil))) (pe_one (pe_not (pe_callB (call_isi) (by rfl) T.z_isinstance (by decide +kernel) (pa_cons (pv 0) (pa_cons (pe_bltn (v := .ty "bool") (by rfl) T.z_bool (by decide +kernel) rfl) pa_nil))))))))
, ?_⟩
    have q' : ∀ b, intD d = b → Q (.bl b) H := fun b e => e ▸ q H (Same.refl H)
    refine ⟨x, rfl, x, .ty "int", _, _, _, rfl, .ty _, di_ty hd, kitI d, _, rfl, ?_⟩
    cases h1 : isI d with
    | false => exact iteF (q' _ (by unfold intD; rw [h1]; rfl))
    | true =>
      refine iteT ?_
      refine ⟨_, rfl, _, .ty "bool", _, _, _, rfl, .ty _, di_ty hd, kitBo d, _, rfl, ?_⟩
      exact q' _ (by unfold intD; rw [h1]; rfl)
def spZ_is_between (K : PySem.W.Frag) : Sp := fun vs H Q _ => ∃ (x : V) (d : PyData) (lo hi : Int), vs = [x, .int lo, .int hi] ∧ Di K H x d ∧ ∀ H', Same H H' → Q (.bl (btw d lo hi)) H'
theorem okZ_is_between (T : Txt K mg) : FnOk P w K mg base CX0 2 T.f_is_between T.d_is_between ["thing", "least", "most"] (spZ_is_between K) := by
  refine T.F_is_between.ok sc_is_between (fun vs H Q E h => ?_) (fun cdv A outer s H vs Q E hr h => ?_)
  · obtain ⟨x, d, lo, hi, rfl, _⟩ := h
    rfl
  · obtain ⟨x, d, lo, hi, rfl, hd, q⟩ := h
    refine ⟨_,
(pss_one (ps_ret (pe_and (pe_call (okZ_is_integer T) (hr.mono (by decide)) (by rfl) T.g_is_integer T.F_is_integer.kp T.b_is_integer .nil pass0 (pa_cons (pv 0) pa_nil)) (pe_one (pe_chain op_le op_le (pv 1) (pv 0) (pv 2))))))
, ?_⟩
    refine ⟨x, rfl, x, d, rfl, hd, fun H1 s1 => ⟨_, rfl, ?_⟩⟩
    have q' : ∀ b, btw d lo hi = b → Q (.bl b) H1 := fun b e => e ▸ q H1 s1
    cases h1 : intD d with
    | false => exact iteF (q' _ (btw_not h1 lo hi))
    | true =>
      obtain ⟨n, rfl⟩ := intD_int h1
      obtain rfl := hd.int
      refine iteT ?_
      refine ⟨_, rfl, _, rfl, lo, n, rfl, rfl, _, rfl, ?_⟩
      refine ite2 (fun e => ?_) (fun e => ?_)
      · refine ⟨_, rfl, n, hi, rfl, rfl, ?_⟩
        exact q' _ (by show (decide (lo ≤ n) && decide (n ≤ hi)) = _; rw [e]; rfl)
      · exact q' _ (by show (decide (lo ≤ n) && decide (n ≤ hi)) = _; rw [Bool.not_eq_true] at e; rw [e]; rfl)
theorem ok_law_is_whole (T : Txt K mg) : FnOk P w K mg base CX0 2 T.f__law_is_whole T.d__law_is_whole ["thing", "least", "most"] (spZ_is_between K) := by
  refine T.F__law_is_whole.ok sc_law_is_whole (fun vs H Q E h => ?_) (fun cdv A outer s H vs Q E hr h => ?_)
  · obtain ⟨x, d, lo, hi, rfl, _⟩ := h
    rfl
  · obtain ⟨x, d, lo, hi, rfl, hd, q⟩ := h
    refine ⟨_,
(pss_one (ps_ret (pe_and (pe_callB (call_isi) (by rfl) T.z_isinstance (by decide +kernel) (pa_cons (pv 0) (pa_cons (pe_bltn (v := .ty "int") (by rfl) T.z_int (by decide +kernel) rfl) pa_nil))) (pe_and (pe_not (pe_callB (call_isi) (by rfl) T.z_isinstance (by decide +kernel) (pa_cons (pv 0) (pa_cons (pe_bltn (v := .ty "bool") (by rfl) T.z_bool (by decide +kernel) rfl) pa_nil)))) (pe_one (pe_chain op_le op_le (pv 1) (pv 0) (pv 2)))))))
, ?_⟩
    have q' : ∀ b, btw d lo hi = b → Q (.bl b) H := fun b e => e ▸ q H (Same.refl H)
    refine ⟨x, rfl, x, .ty "int", _, _, _, rfl, .ty _, di_ty hd, kitI d, _, rfl, ?_⟩
    cases h1 : isI d with
    | false => exact iteF (q' _ (btw_not (by unfold intD; rw [h1]; rfl) lo hi))
    | true =>
      refine iteT ?_
      refine ⟨_, rfl, _, .ty "bool", _, _, _, rfl, .ty _, di_ty hd, kitBo d, _, rfl, _, rfl, ?_⟩
      cases h2 : isB d with
      | true => exact iteF (q' _ (btw_not (by unfold intD; rw [h1, h2]; rfl) lo hi))
      | false =>
        refine iteT ?_
        obtain ⟨n, rfl⟩ := intD_int (d := d) (by unfold intD; rw [h1, h2]; rfl)
        obtain rfl := hd.int
        refine ⟨_, rfl, _, rfl, lo, n, rfl, rfl, _, rfl, ?_⟩
        refine ite2 (fun e => ?_) (fun e => ?_)
        · refine ⟨_, rfl, n, hi, rfl, rfl, ?_⟩
          exact q' _ (by show (decide (lo ≤ n) && decide (n ≤ hi)) = _; rw [e]; rfl)
        · exact q' _ (by show (decide (lo ≤ n) && decide (n ≤ hi)) = _; rw [Bool.not_eq_true] at e; rw [e]; rfl)
end
/-! repr of such a tuple -/
section
variable {X : Cx}
def rReprZ (K : PySem.W.Frag) : List V → Hp → VK → Prop := fun xs H Q => ∃ (v : V) (ds : List PyData), xs = [v] ∧ Dt K H v ds ∧ (PyData.tuple ds).showable = true ∧ (PyData.tuple ds).depth ≤ 60 ∧ (PyData.tuple ds).shown.length ≤ sizeLine ∧ Q (.str (PyData.tuple ds).shown) H
section
variable {pins : List (Addr × Obj)} {σ : L2.St} {H : Hp} {s : Shared}
mutual
theorem fl_reads (I : Inv X pins σ H s) : ∀ (d : PyData) (v : V) (u : Value), noL d = true → Dp X.K H v d → L2.RelV v u → Reads s.heap u d []
  | .none, _, _, _, h, r => by
    cases h
    cases r
    exact Reads.none
  | .bool b, _, _, _, h, r => by
    cases h
    cases r
    exact Reads.bool b
  | .int i, _, _, _, h, r => by
    cases h
    obtain ⟨t, rfl⟩ := r
    exact Reads.int i t
  | .str x, _, _, _, h, r => by
    cases h
    obtain ⟨t, rfl⟩ := r
    exact Reads.str x t
  | .list ds, _, _, n, h, r => by cases n
  | .tuple ds, _, _, n, h, r => by
    cases h with
    | tup hs ha =>
      cases r
      obtain ⟨its, rv, ⟨o, ho, hc, m, hd⟩, _⟩ := I.tuple hs
      exact Reads.tuple ho hc hd (fl_readsAll I ds _ its n ha rv)
  | .dict _, _, _, _, h, _ => by cases h
theorem fl_readsAll (I : Inv X pins σ H s) : ∀ (ds : List PyData) (vs : List V) (us : List Value), noLs ds = true → DpAll X.K H vs ds → Vals vs us → ReadsAll s.heap us ds []
  | [], _, _, _, h, r => by
    cases h
    cases r
    exact ReadsAll.nil
  | d :: ds, _, _, n, h, r => by
    obtain ⟨n1, n2⟩ := Bool.and_eq_true_iff.mp (show (noL d && noLs ds) = true from n)
    cases h with
    | cons h1 h2 =>
      cases r with
      | cons r1 r2 => exact ReadsAll.cons (fl_reads I d _ _ n1 h1 r1) (fl_readsAll I ds _ _ n2 h2 r2)
end
theorem di_reads (I : Inv X pins σ H s) {x : V} {d : PyData} {u : Value} (h : Di X.K H x d) (r : L2.RelV x u) : ∃ as, Reads s.heap u d as ∧ sysModules ∉ as := by
  cases h with
  | fl n h => exact ⟨[], fl_reads I _ _ _ n h r, List.not_mem_nil⟩
  | ls h1 h2 h3 h4 =>
    cases r
    obtain ⟨its, rv, ⟨o, n, ho, hc, _, hd⟩, _⟩ := I.list (SqL.of h1)
    refine ⟨_, Reads.list ho hc hd (fl_readsAll I _ _ _ h4 h3 rv), fun z => ?_⟩
    have := List.mem_singleton.mp z
    rw [← this] at h2
    exact absurd h2 (by simp)
  | dk h =>
    cases r
    obtain ⟨_, hsm, vs, kv, ⟨o, es, ep, ho, hx, hd, _, hp, _⟩⟩ := I.hok _ _ h
    cases kv
    have he : es.toList = [] := by
      cases e : es.toList with
      | nil => rfl
      | cons => rw [e] at hp; cases hp
    refine ⟨_, Reads.dict (kvs := []) ho hx.1 hd (by rw [he]; exact .nil) (by rw [he]; exact .nil), fun z => ?_⟩
    have := List.mem_singleton.mp (by simpa using z)
    rw [← this] at hsm
    exact absurd hsm (by simp)
theorem diAll_reads (I : Inv X pins σ H s) : ∀ {xs : List V} {ds : List PyData} {us : List Value}, DiAll X.K H xs ds → Vals xs us → ∃ as, ReadsAll s.heap us ds as ∧ sysModules ∉ as
  | _, _, _, .nil, r => by
    cases r
    exact ⟨_, ReadsAll.nil, List.not_mem_nil⟩
  | _, _, _, .cons h t, r => by
    cases r with
    | cons r1 r2 =>
      obtain ⟨as, q1, n1⟩ := di_reads I h r1
      obtain ⟨bs, q2, n2⟩ := diAll_reads I t r2
      exact ⟨_, ReadsAll.cons q1 q2, fun z => (List.mem_append.mp z).elim n1 n2⟩
end
theorem call_reprZ {K : PySem.W.Frag} (hg : X.A.guards = some []) (hu : X.A.units + 64 < cLine) (hK : X.K = K := by rfl) : CallR X (.builtin "repr") (rReprZ K) := by
  subst hK
  intro pins s σ H xs us Q I r h
  obtain ⟨v, ds, rfl, ⟨a, xs, rfl, h1, h2⟩, hs, hdp, hz, q⟩ := h
  obtain ⟨u, rfl, ru⟩ := vals1 r
  cases ru
  obtain ⟨its, rv, ⟨o, ho, hc, m, hd⟩, _⟩ := I.tuple h1
  obtain ⟨as, hr, hno⟩ := diAll_reads I h2 rv
  refine repr_of_reads' (Reads.tuple ho hc hd hr) hs (fun _ => hno) hg (by omega) (fun _ _ e => e) (fun h' u tk hk => ?_) hz
  exact ⟨.str _, H, I.kept hk, ⟨_, rfl⟩, q⟩
/-- a list written out, off the table of modules -/
def tLstB (t : TA) : TE := fun σ H Q => t σ H fun xs H1 => xs.length ≤ sizeLine ∧ ∀ p, H1 p = none → (p == sysModules) = false → Q (.ref p) (upd H1 p (.lst xs))
theorem pe_lstB {es : List Expr} {pos : Pos} {t : TA} (h : PA X es t) : PE X (.List es pos) (tLstB t) := by
  refine ⟨fun pins s σ H Q I hq => ?_⟩
  refine wpAny_List_spliced (thn (h.run pos pins s σ H _ I hq) fun us s1 ⟨xs, H1, I1, r, z, q⟩ => ⟨by rw [← r.length]; exact z, ?_⟩)
  have hf : H1 s1.heap.objs.size = none := I1.hok.fresh (Nat.le_refl _)
  refine ⟨.ref s1.heap.objs.size, upd H1 s1.heap.objs.size (.lst xs), I1.laid (t' := s1.toks) (fun b u e => Heap.get?_push_of_some _ e) (Nat.le_refl _) ?_, rfl, q _ hf (beq_eq_false_iff_ne.mpr (Ne.symm (Nat.ne_of_lt I1.big)))⟩
  exact ⟨z, us, 0, r, Heap.get?_push_size _ rfl⟩
end
end My

set_option pp.maxSteps 400
set_option pp.deepTerms false
/-! blocks in any things: the mathematics -/
namespace My
open PySem PySem.Spec PyProof.Rows L2
/-- the byte of an index, of which p holds; or the index -/
def need (ds : List PyData) (i : Nat) (p : Int → Bool) : Except Nat Int := match ds[i]? with
  | some (.int z) => if (decide (0 ≤ z) && decide (z ≤ 255)) && p z then .ok z else .error i
  | _ => .error i
theorem need_out {ds : List PyData} {i : Nat} {p : Int → Bool} (h : ds.length ≤ i) : need ds i p = .error i := by
  unfold need
  rw [List.getElem?_eq_none h]
theorem need_bad {ds : List PyData} {i : Nat} {p : Int → Bool} {d : PyData} (h : ds[i]? = some d) (b : btw d 0 255 = false) : need ds i p = .error i := by
  unfold need
  rw [h]
  cases d with
  | int z =>
    have b : (decide (0 ≤ z) && decide (z ≤ 255)) = false := b
    show (if (decide (0 ≤ z) && decide (z ≤ 255)) && p z then Except.ok z else Except.error i) = _
    rw [b, Bool.false_and, if_neg Bool.false_ne_true]
  | _ => rfl
theorem need_at {ds : List PyData} {i : Nat} {p : Int → Bool} {z : Int} (h : ds[i]? = some (.int z)) (h0 : 0 ≤ z) (h1 : z ≤ 255) : need ds i p = if p z = true then .ok z else .error i := by
  unfold need
  rw [h]
  show (if (decide (0 ≤ z) && decide (z ≤ 255)) && p z then Except.ok z else Except.error i) = _
  rw [decide_eq_true h0, decide_eq_true h1, Bool.true_and, Bool.true_and]
theorem btw_byte {d : PyData} (h : btw d 0 255 = true) : ∃ z, d = .int z ∧ 0 ≤ z ∧ z ≤ 255 := by
  cases d with
  | int z =>
    obtain ⟨a, b⟩ := Bool.and_eq_true_iff.mp (show (decide (0 ≤ z) && decide (z ≤ 255)) = true from h)
    exact ⟨z, rfl, of_decide_eq_true a, of_decide_eq_true b⟩
  | _ => cases h
theorem need_ok {ds : List PyData} {i : Nat} {p : Int → Bool} {z : Int} (h : need ds i p = .ok z) : ds[i]? = some (.int z) ∧ 0 ≤ z ∧ z ≤ 255 ∧ p z = true ∧ i < ds.length := by
  unfold need at h
  split at h
  · rename_i y e
    split at h
    · rename_i hc
      injection h with h
      subst h
      obtain ⟨h1, h2⟩ := Bool.and_eq_true_iff.mp hc
      obtain ⟨h3, h4⟩ := Bool.and_eq_true_iff.mp h1
      exact ⟨e, of_decide_eq_true h3, of_decide_eq_true h4, h2, (List.getElem?_eq_some_iff.mp e).1⟩
    · cases h
  · cases h
theorem need_err {ds : List PyData} {i e : Nat} {p : Int → Bool} (h : need ds i p = .error e) : e = i := by
  unfold need at h
  split at h
  · split at h
    · cases h
    · injection h with h; exact h.symm
  · injection h with h; exact h.symm
def cdOk (M n k : Nat) (z : Int) : Bool := decide (z % 16 < (M : Int)) && decide (z / 16 < (if 2 * k + 2 ≤ n then (M : Int) else 1))
/-- the codes of k bytes -/
def cdsTo (ds : List PyData) (b M n : Nat) : Nat → Except Nat (List Nat)
  | 0 => .ok []
  | k + 1 => match cdsTo ds b M n k with
    | .error e => .error e
    | .ok r => match need ds (b + k) (cdOk M n k) with
      | .error e => .error e
      | .ok z => .ok (r ++ [(z % 16).toNat, (z / 16).toNat])
theorem cds_ok {ds : List PyData} {b M n k : Nat} {r : List Nat} {z : Int} (h : cdsTo ds b M n k = .ok r) (g : need ds (b + k) (cdOk M n k) = .ok z) : cdsTo ds b M n (k + 1) = .ok (r ++ [(z % 16).toNat, (z / 16).toNat]) := by
  unfold cdsTo
  rw [h]
  dsimp only
  rw [g]
theorem cds_err {ds : List PyData} {b M n k e : Nat} {r : List Nat} (h : cdsTo ds b M n k = .ok r) (g : need ds (b + k) (cdOk M n k) = .error e) : cdsTo ds b M n (k + 1) = .error e := by
  unfold cdsTo
  rw [h]
  dsimp only
  rw [g]
theorem cds_stay {ds : List PyData} {b M n k e : Nat} (h : cdsTo ds b M n k = .error e) : ∀ j, cdsTo ds b M n (k + j) = .error e
  | 0 => h
  | j + 1 => by
    show cdsTo ds b M n ((k + j) + 1) = _
    unfold cdsTo
    rw [cds_stay h j]
theorem cds_len {ds : List PyData} {b M n : Nat} : ∀ {k : Nat} {r : List Nat}, cdsTo ds b M n k = .ok r → r.length = 2 * k ∧ (k ≠ 0 → b + k ≤ ds.length) ∧ ∀ j, j < k → ∃ z, ds[b + j]? = some (.int z) ∧ 0 ≤ z ∧ z ≤ 255
  | 0, r, h => by
    have : r = [] := by
      unfold cdsTo at h
      injection h with h
      exact h.symm
    subst this
    exact ⟨rfl, fun z => absurd rfl z, fun j hj => absurd hj (Nat.not_lt_zero _)⟩
  | k + 1, r, h => by
    unfold cdsTo at h
    cases e : cdsTo ds b M n k with
    | error x => rw [e] at h; cases h
    | ok r' =>
      rw [e] at h
      dsimp only at h
      cases g : need ds (b + k) (cdOk M n k) with
      | error x => rw [g] at h; cases h
      | ok z =>
        rw [g] at h
        injection h with h
        subst h
        obtain ⟨i1, i2, i3⟩ := cds_len e
        obtain ⟨g1, g2, g3, _, g4⟩ := need_ok g
        refine ⟨?_, fun _ => by omega, fun j hj => ?_⟩
        · rw [List.length_append, i1]
          show 2 * k + 2 = _
          omega
        · by_cases hk : j = k
          · rw [hk]; exact ⟨z, g1, g2, g3⟩
          · exact i3 j (by omega)
theorem cds_small {ds : List PyData} {b M n : Nat} : ∀ {k : Nat} {r : List Nat}, cdsTo ds b M n k = .ok r → ∀ x ∈ r, x < 16
  | 0, r, h => by
    have : r = [] := by
      unfold cdsTo at h
      injection h with h
      exact h.symm
    subst this
    nofun
  | k + 1, r, h => by
    unfold cdsTo at h
    cases e : cdsTo ds b M n k with
    | error x => rw [e] at h; cases h
    | ok r' =>
      rw [e] at h
      dsimp only at h
      cases g : need ds (b + k) (cdOk M n k) with
      | error x => rw [g] at h; cases h
      | ok z =>
        rw [g] at h
        injection h with h
        subst h
        intro x hx
        obtain ⟨_, g2, g3, _⟩ := need_ok g
        rcases List.mem_append.mp hx with hx | hx
        · exact cds_small e x hx
        · rcases List.mem_cons.mp hx with rfl | hx
          · omega
          · rw [List.mem_singleton.mp hx]; omega
def bse (g : Int) : Int := if g < 128 then 256 * g else 256 * g - 65536
def kLo (C : Cod) : Option (Int × Int) → Int
  | none => C.low
  | some s => s.1
def kHi (C : Cod) : Option (Int × Int) → Int
  | none => C.high
  | some s => s.1
def kPl : Option (Int × Int) → Int
  | none => 0
  | some s => s.2
def kPh (C : Cod) : Option (Int × Int) → Int
  | none => (C.steps.length : Int) - 1
  | some s => s.2
abbrev Blk := (Int × Int) × List Nat × Nat
def intOf : PyData → Int
  | .int z => z
  | _ => 0
def sumIn (ds : List PyData) (b e : Nat) : Int := (((ds.drop b).take (e - b)).map intOf).sum
/-- the state of a block -/
def stR (C : Cod) (ds : List PyData) (i : Nat) (kn : Option (Int × Int)) : Except Nat (Int × Int) :=
  match need ds i (fun g => !(decide (kHi C kn < bse g) || decide (bse g + 255 < kLo C kn))) with
  | .error e => .error e
  | .ok g => match need ds (i + 1) (fun l => decide (kLo C kn ≤ bse g + l) && decide (bse g + l ≤ kHi C kn)) with
    | .error e => .error e
    | .ok l => match need ds (i + 2) (fun p => decide (kPl kn ≤ p) && decide (p ≤ kPh C kn)) with
      | .error e => .error e
      | .ok p => .ok (bse g + l, p)
/-- the block at an index, beginning in a known state or in any one, or the index of the first wrong thing -/
def blkR (C : Cod) (ds : List PyData) (b : Nat) (kn : Option (Int × Int)) : Except Nat Blk :=
  match need ds b (fun z => decide (z = 165)) with
  | .error e => .error e
  | .ok _ => match need ds (b + 1) (fun z => decide (z = 90)) with
    | .error e => .error e
    | .ok _ => match stR C ds (b + 2) kn with
      | .error e => .error e
      | .ok s => match need ds (b + 5) (fun n => decide (1 ≤ n)) with
        | .error e => .error e
        | .ok n => match cdsTo ds (b + 6) C.moves.length n.toNat ((n.toNat + 1) / 2) with
          | .error e => .error e
          | .ok r => match need ds (b + 6 + (n.toNat + 1) / 2) (fun t => decide (t = sumIn ds (b + 2) (b + 6 + (n.toNat + 1) / 2) % 256)) with
            | .error e => .error e
            | .ok _ => .ok (s, r.take n.toNat, b + 6 + (n.toNat + 1) / 2 + 1)
/-- the blocks that can be read from an index on -/
def salvF (C : Cod) (ds : List PyData) : Nat → Nat → List (Nat × (Int × Int) × List Nat) → List (Nat × (Int × Int) × List Nat)
  | 0, _, acc => acc
  | f + 1, i, acc => if i < ds.length then
      match blkR C ds i none with
      | .error _ => salvF C ds f (i + 1) acc
      | .ok (s, r, e) => salvF C ds f e (acc ++ [(i, s, r)])
    else acc
def salv (C : Cod) (ds : List PyData) : List (Nat × (Int × Int) × List Nat) := salvF C ds ds.length 0 []
theorem salvF_end {C : Cod} {ds : List PyData} {i : Nat} {acc : List (Nat × (Int × Int) × List Nat)} (h : ds.length ≤ i) : ∀ f, salvF C ds f i acc = acc
  | 0 => rfl
  | f + 1 => if_neg (by omega)
theorem blkR_end {C : Cod} {ds : List PyData} {b : Nat} {kn : Option (Int × Int)} {s : Int × Int} {r : List Nat} {e : Nat} (h : blkR C ds b kn = .ok (s, r, e)) : b < e ∧ e ≤ ds.length ∧ r.length ≤ 255 ∧ (kn = none → C.St s) ∧ ∀ k ∈ r, k < 16 := by
  unfold blkR at h
  split at h
  · cases h
  split at h
  · cases h
  split at h
  · cases h
  rename_i st hst
  split at h
  · cases h
  rename_i n hn
  split at h
  · cases h
  rename_i row hrow
  split at h
  · cases h
  rename_i t ht
  injection h with h
  injection h with h1 h
  injection h with h2 h3
  subst h1 h2 h3
  obtain ⟨_, n0, n1, _, _⟩ := need_ok hn
  have ht' := (need_ok ht).2.2.2.2
  refine ⟨by omega, by omega, ?_, fun e => ?_, fun k hk => ?_⟩
  · rw [List.length_take]
    omega
  · subst e
    unfold stR at hst
    split at hst
    · cases hst
    split at hst
    · cases hst
    rename_i l hl
    split at hst
    · cases hst
    rename_i p hp
    injection hst with hst
    subst hst
    obtain ⟨_, _, _, l2, _⟩ := need_ok hl
    obtain ⟨_, _, _, p2, _⟩ := need_ok hp
    obtain ⟨a1, a2⟩ := Bool.and_eq_true_iff.mp l2
    obtain ⟨b1, b2⟩ := Bool.and_eq_true_iff.mp p2
    have b1 : (0 : Int) ≤ p := of_decide_eq_true b1
    have b2 : p ≤ (C.steps.length : Int) - 1 := of_decide_eq_true b2
    exact ⟨of_decide_eq_true a1, of_decide_eq_true a2, b1, by show p < (C.steps.length : Int); omega⟩
  · exact cds_small hrow k (List.mem_of_mem_take hk)
theorem salvF_fuel {C : Cod} {ds : List PyData} : ∀ n i acc, ds.length - i ≤ n → ∀ f g, ds.length ≤ i + f → ds.length ≤ i + g → salvF C ds f i acc = salvF C ds g i acc := by
  intro n
  induction n with
  | zero =>
    intro i acc hi f g _ _
    rw [salvF_end (by omega), salvF_end (by omega)]
  | succ n ih =>
    intro i acc hi f g hf hg
    by_cases hl : ds.length ≤ i
    · rw [salvF_end hl, salvF_end hl]
    · obtain ⟨f, rfl⟩ : ∃ f', f = f' + 1 := ⟨f - 1, by omega⟩
      obtain ⟨g, rfl⟩ : ∃ g', g = g' + 1 := ⟨g - 1, by omega⟩
      show (if i < ds.length then _ else _) = if i < ds.length then _ else _
      rw [if_pos (by omega), if_pos (by omega)]
      cases b : blkR C ds i none with
      | error e => exact ih (i + 1) acc (by omega) f g (by omega) (by omega)
      | ok t =>
        obtain ⟨s, r, e⟩ := t
        have he := blkR_end b
        exact ih e _ (by omega) f g (by omega) (by omega)
/-- where a search stands: the rest gives R, however much fuel there is -/
def SalvAt (C : Cod) (ds : List PyData) (i : Nat) (acc R : List (Nat × (Int × Int) × List Nat)) : Prop := ∀ f, ds.length ≤ i + f → salvF C ds f i acc = R
theorem SalvAt.done {C : Cod} {ds : List PyData} {i : Nat} {acc R : List (Nat × (Int × Int) × List Nat)} (h : SalvAt C ds i acc R) (hi : ds.length ≤ i) : acc = R := h 0 hi
theorem SalvAt.bad {C : Cod} {ds : List PyData} {i e : Nat} {acc R : List (Nat × (Int × Int) × List Nat)} (h : SalvAt C ds i acc R) (hi : i < ds.length) (b : blkR C ds i none = .error e) : SalvAt C ds (i + 1) acc R := fun f hf => by
  have := h (f + 1) (by omega)
  rw [← this]
  show _ = if i < ds.length then _ else _
  rw [if_pos hi, b]
theorem SalvAt.good {C : Cod} {ds : List PyData} {i e : Nat} {s : Int × Int} {r : List Nat} {acc R : List (Nat × (Int × Int) × List Nat)} (h : SalvAt C ds i acc R) (hi : i < ds.length) (b : blkR C ds i none = .ok (s, r, e)) : SalvAt C ds e (acc ++ [(i, s, r)]) R := fun f hf => by
  have he := blkR_end b
  have := h (ds.length + 1) (by omega)
  rw [← this]
  show _ = if i < ds.length then _ else _
  rw [if_pos hi, b]
  exact salvF_fuel ds.length e _ (by omega) f ds.length hf (by omega)
theorem salvAt_start {C : Cod} {ds : List PyData} : SalvAt C ds 0 [] (salv C ds) := fun f hf => salvF_fuel ds.length 0 [] (by omega) f ds.length hf (by omega)
end My

set_option pp.maxSteps 400
set_option pp.deepTerms false
/-! blocks in any things: the program, with refusals -/
namespace My
open PySem PySem.Spec PyProof.Rows L2
theorem c256 : (256 : Int) ≠ 0 := by decide
theorem ifYes' {A B : Prop} {b : Bool} (e : b = true) (h : A) : if b = true then A else B := by
  rw [if_pos e]
  exact h
theorem ifNo' {A B : Prop} {b : Bool} (e : b = false) (h : B) : if b = true then A else B := by
  rw [e, if_neg Bool.false_ne_true]
  exact h
section
variable {P : Program} {w : World} {K : PySem.W.Frag} {mg : Str → Option Value} {base : Heap}
def sp_byte_atR (K : PySem.W.Frag) (BB : Addr) : Sp := fun vs H Q E => ∃ (a : Addr) (xs : List V) (ds : List PyData) (i : Nat), vs = [.ref a, .int (i : Int)] ∧ SqT K H a xs ∧ DiAll K H xs ds ∧
  (∀ z, need ds i (fun _ => true) = .ok z → ∀ H', Same H H' → Q (.int z) H') ∧ (∀ e, need ds i (fun _ => true) = .error e → OneE BB "number" H E (.int (i : Int)))
theorem ok_byte_at (T : Txt K mg) : FnOk P w K mg base (L2.CX P w) 4 T.f__byte_at T.d__byte_at ["data", "index"] (sp_byte_atR K T.C_BadByte) := by
  refine T.F__byte_at.okX sc_byte_at (fun vs H Q E h => ?_) (fun cdv A outer s H vs Q E hr h => ?_)
  · obtain ⟨a, xs, ds, i, rfl, _⟩ := h
    rfl
  · obtain ⟨a, xs, ds, i, rfl, ha, hd, q1, q2⟩ := h
    refine ⟨_,
(pss_cons (ps_if (PW.pt (pw_or (pt_cmpR op_ge (pv 1) (pe_callB (call_len_seq) (by rfl) T.z_len (by decide +kernel) (pa_cons (pv 0) pa_nil)) (nomark _)) (pw_or1 (pt_not (pt_val (pe_call (okZ_is_between T) (hr.mono (by decide)) (by rfl) T.g_is_between T.F_is_between.kp T.b_is_between .nil pass0 (pa_cons (pe_ix ix_tup (pv 0) (pv 1) (fun _ _ => rfl)) (pa_cons pe_int (pa_cons pe_int pa_nil))))))))) (pss_one (ps_raise rfl (takes_of rfl rfl rfl rfl) (pmk_oex T.o_BadByte T.i_BadByte T.t_BadByte (oki_BadByte T) (hr.mono (by decide)) T.bi_BadByte .nil pass0 (by rfl) T.g_BadByte (pa_cons (pv 1) pa_nil)))) pss_nil)
      (pss_one (ps_ret (pe_ix ix_tup (pv 0) (pv 1) (fun _ _ => rfl)))))
, ?_⟩
    have hl := diAll_len hd
    refine ⟨_, rfl, _, rfl, a, _, rfl, .inr ha, _, _, rfl, rfl, _, rfl, ?_⟩
    by_cases hi : xs.length ≤ i
    · refine ifYes' (decide_eq_true (by omega)) (ifYes' rfl ?_)
      exact ⟨_, rfl, by show 1 ≤ 1000; decide, fun a' ha' => ⟨a', _, rfl, upd_same, fun d hd n => ⟨rfl, d, _, upd_same, (upd_ne n).trans upd_same, (upd_ne n).symm.trans hd, oneE_mk (q2 i (need_out (by omega))) ha' hd n⟩⟩⟩
    · refine ifNo' (decide_eq_false (by omega)) ?_
      have hx : xs[i]? = some xs[i] := List.getElem?_eq_getElem (by omega)
      generalize xs[i] = x at hx
      obtain ⟨d, hdd, hdx⟩ := diAll_get hd hx
      refine ⟨_, rfl, _, rfl, a, xs, _, x, rfl, rfl, ha, atI_nat hx, x, d, 0, 255, rfl, hdx, fun H1 s1 => ⟨_, rfl, ?_⟩⟩
      cases hb : btw d 0 255 with
      | false =>
        refine iteT ?_
        exact ⟨_, rfl, by show 1 ≤ 1000; decide, fun a' ha' => ⟨a', _, rfl, upd_same, fun d hd n => ⟨rfl, d, _, upd_same, (upd_ne n).trans upd_same, (upd_ne n).symm.trans hd, oneE_mk ((q2 i (need_bad hdd hb)).same s1) ha' hd n⟩⟩⟩
      | true =>
        refine iteF ?_
        obtain ⟨z, rfl, z0, z1⟩ := btw_byte hb
        obtain rfl := hdx.int
        exact ⟨_, rfl, _, rfl, a, xs, _, _, rfl, rfl, same_tup s1 ha, atI_nat hx, q1 z (by rw [need_at hdd z0 z1, if_pos rfl]) H1 s1⟩
def sp_byte_betweenR (K : PySem.W.Frag) (BB : Addr) : Sp := fun vs H Q E => ∃ (a : Addr) (xs : List V) (ds : List PyData) (i : Nat) (lo hi : Int), vs = [.ref a, .int (i : Int), .int lo, .int hi] ∧ SqT K H a xs ∧ DiAll K H xs ds ∧
  (∀ z, need ds i (fun z => decide (lo ≤ z) && decide (z ≤ hi)) = .ok z → ∀ H', Same H H' → Q (.int z) H') ∧ (∀ e, need ds i (fun z => decide (lo ≤ z) && decide (z ≤ hi)) = .error e → OneE BB "number" H E (.int (i : Int)))
theorem need_all {ds : List PyData} {i : Nat} {z : Int} (h : need ds i (fun _ => true) = .ok z) (p : Int → Bool) : need ds i p = if p z = true then .ok z else .error i := by
  obtain ⟨h1, h2, h3, _⟩ := need_ok h
  exact need_at h1 h2 h3
theorem need_none {ds : List PyData} {i e : Nat} (h : need ds i (fun _ => true) = .error e) (p : Int → Bool) : need ds i p = .error i := by
  unfold need at h
  split at h
  · rename_i z ez
    split at h
    · cases h
    · rename_i hc
      have : (decide (0 ≤ z) && decide (z ≤ 255)) = false := by
        cases hb : (decide (0 ≤ z) && decide (z ≤ 255)) with
        | false => rfl
        | true => rw [hb] at hc; exact absurd rfl hc
      exact need_bad ez this
  · rename_i e2
    unfold need
    split
    · rename_i z ez
      exact absurd ez (e2 z)
    · rfl
theorem ok_byte_between (T : Txt K mg) : FnOk P w K mg base (L2.CX P w) 5 T.f__byte_between T.d__byte_between ["data", "index", "least", "most"] (sp_byte_betweenR K T.C_BadByte) := by
  refine T.F__byte_between.okX sc_byte_between (fun vs H Q E h => ?_) (fun cdv A outer s H vs Q E hr h => ?_)
  · obtain ⟨a, xs, ds, i, lo, hi, rfl, _⟩ := h
    rfl
  · obtain ⟨a, xs, ds, i, lo, hi, rfl, ha, hd, q1, q2⟩ := h
    refine ⟨_,
(pss_cons (ps_set (i := 4) sc_byte_between.nd rfl (Or.inl rfl) (pe_call (ok_byte_at T) (hr.mono (by decide)) (by rfl) T.g__byte_at T.F__byte_at.kp T.b__byte_at .nil (passes_call (takes_of rfl rfl rfl rfl) (fun _ _ _ _ h => h)) (pa_cons (pv 0) (pa_cons (pv 1) pa_nil))))
      (pss_cons (ps_if (pt_not (pt_chain op_le op_le (pv 2) (pv 4) (pv 3))) (pss_one (ps_raise rfl (takes_of rfl rfl rfl rfl) (pmk_oex T.o_BadByte T.i_BadByte T.t_BadByte (oki_BadByte T) (hr.mono (by decide)) T.bi_BadByte .nil pass0 (by rfl) T.g_BadByte (pa_cons (pv 1) pa_nil)))) pss_nil)
      (pss_one (ps_ret (pv 4)))))
, ?_⟩
    refine ⟨_, rfl, _, rfl, a, xs, ds, i, rfl, ha, hd, fun z hz H1 s1 => ?_, fun e he => q2 i (need_none he _)⟩
    have hp := need_all hz (fun z => decide (lo ≤ z) && decide (z ≤ hi))
    refine ⟨_, rfl, _, rfl, lo, z, rfl, rfl, _, rfl, ?_⟩
    by_cases h1 : lo ≤ z
    · refine ifYes' (decide_eq_true h1) ?_
      refine ⟨_, rfl, z, hi, rfl, rfl, _, rfl, ?_⟩
      by_cases h2 : z ≤ hi
      · rw [decide_eq_true h2]
        refine iteF ?_
        refine ⟨_, rfl, q1 z (by rw [hp, if_pos (by rw [decide_eq_true h1, decide_eq_true h2]; rfl)]) H1 s1⟩
      · rw [decide_eq_false h2]
        refine iteT ?_
        exact ⟨_, rfl, by show 1 ≤ 1000; decide, fun a' ha' => ⟨a', _, rfl, upd_same, fun d hd n => ⟨rfl, d, _, upd_same, (upd_ne n).trans upd_same, (upd_ne n).symm.trans hd, oneE_mk ((q2 i (by rw [hp, if_neg (by rw [decide_eq_false h2, Bool.and_false]; exact Bool.false_ne_true)])).same s1) ha' hd n⟩⟩⟩
    · refine ifNo' (decide_eq_false h1) ?_
      refine ⟨_, rfl, ?_⟩
      refine iteT ?_
      exact ⟨_, rfl, by show 1 ≤ 1000; decide, fun a' ha' => ⟨a', _, rfl, upd_same, fun d hd n => ⟨rfl, d, _, upd_same, (upd_ne n).trans upd_same, (upd_ne n).symm.trans hd, oneE_mk ((q2 i (by rw [hp, if_neg (by rw [decide_eq_false h1, Bool.false_and]; exact Bool.false_ne_true)])).same s1) ha' hd n⟩⟩⟩
def KnV (K : PySem.W.Frag) (H : Hp) (v : V) : Option (Int × Int) → Prop
  | none => v = .non
  | some s => Dp K H v (pairI s)
def sp_state_atR (K : PySem.W.Frag) (BB : Addr) : Sp := fun vs H Q E => ∃ (c kv : V) (a : Addr) (xs : List V) (ds : List PyData) (C : Cod) (i : Nat) (kn : Option (Int × Int)), vs = [c, .ref a, .int (i : Int), kv] ∧ C.Ok ∧ Dp K H c C.dat ∧ KnV K H kv kn ∧ SqT K H a xs ∧ DiAll K H xs ds ∧
  (∀ s, stR C ds i kn = .ok s → ∀ t H', Same H H' → Dp K H' t (pairI s) → Q t H') ∧ (∀ e, stR C ds i kn = .error e → OneE BB "number" H E (.int (e : Int)))
set_option maxHeartbeats 4000000 in
theorem ok_state_at (T : Txt K mg) : FnOk P w K mg base (L2.CX P w) 6 T.f__state_at T.d__state_at ["coder", "data", "index", "known"] (sp_state_atR K T.C_BadByte) := by
  refine T.F__state_at.okX sc_state_at (fun vs H Q E h => ?_) (fun cdv A outer s H vs Q E hr h => ?_)
  · obtain ⟨c, kv, a, xs, ds, C, i, kn, rfl, _⟩ := h
    rfl
  · obtain ⟨c, kv, a, xs, ds, C, i, kn, rfl, O, hc, hk, ha, hd, q1, q2⟩ := h
    obtain ⟨ca, cs, cm, ms, rfl, hca, hcs, hcm, hmd⟩ := cod_at hc
    refine ⟨_,
(pss_cons (ps_asg (pe_slice sl_tupA (pv 0) po_none (po_some pe_int)) (pg_tup (by rfl) (pgs_cons (pg_name (i := 4) sc_state_at.nd rfl (Or.inl rfl)) (pgs_cons (pg_name (i := 5) sc_state_at.nd rfl (Or.inl rfl)) pgs_nil))))
      (pss_cons (ps_par (i := 6) (j := 7) (by rfl) sc_state_at.nd rfl rfl (by decide) rfl rfl (pa_cons pe_int (pa_cons (pe_op op_sub (pe_callB (call_len_seq) (by rfl) T.z_len (by decide +kernel) (pa_cons (pe_ix ix_tup (pv 0) pe_int (fun _ _ => rfl)) pa_nil)) pe_int) pa_nil)) (by rfl))
      (pss_cons (ps_if (pt_cmpR op_notN (pv 3) pe_non (nomark _)) (pss_cons (ps_par (i := 4) (j := 5) (by rfl) sc_state_at.nd rfl rfl (by decide) rfl rfl (pa_cons (pe_ix ix_tup (pv 3) pe_int (fun _ _ => rfl)) (pa_cons (pe_ix ix_tup (pv 3) pe_int (fun _ _ => rfl)) pa_nil)) (by rfl))
      (pss_one (ps_par (i := 6) (j := 7) (by rfl) sc_state_at.nd rfl rfl (by decide) rfl rfl (pa_cons (pe_ix ix_tup (pv 3) pe_int (fun _ _ => rfl)) (pa_cons (pe_ix ix_tup (pv 3) pe_int (fun _ _ => rfl)) pa_nil)) (by rfl)))) pss_nil)
      (pss_cons (ps_set (i := 8) sc_state_at.nd rfl (Or.inl rfl) (pe_call (ok_byte_at T) (hr.mono (by decide)) (by rfl) T.g__byte_at T.F__byte_at.kp T.b__byte_at .nil (passes_call (takes_of rfl rfl rfl rfl) (fun _ _ _ _ h => h)) (pa_cons (pv 1) (pa_cons (pv 2) pa_nil))))
      (pss_cons (ps_set (i := 9) sc_state_at.nd rfl (Or.inl rfl) (pe_ifExp (pt_cmpR op_lt (pv 8) pe_int (nomark _)) (pe_op op_mul pe_int (pv 8)) (pe_op op_sub (pe_op op_mul pe_int (pv 8)) pe_int)))
      (pss_cons (ps_if (PW.pt (pw_or (pt_cmpR op_gt (pv 9) (pv 5) (nomark _)) (pw_or1 (pt_cmpR op_lt (pe_op op_add (pv 9) pe_int) (pv 4) (nomark _))))) (pss_one (ps_raise rfl (takes_of rfl rfl rfl rfl) (pmk_oex T.o_BadByte T.i_BadByte T.t_BadByte (oki_BadByte T) (hr.mono (by decide)) T.bi_BadByte .nil pass0 (by rfl) T.g_BadByte (pa_cons (pv 2) pa_nil)))) pss_nil)
      (pss_cons (ps_set (i := 10) sc_state_at.nd rfl (Or.inl rfl) (pe_op op_add (pv 9) (pe_call (ok_byte_at T) (hr.mono (by decide)) (by rfl) T.g__byte_at T.F__byte_at.kp T.b__byte_at .nil (passes_call (takes_of rfl rfl rfl rfl) (fun _ _ _ _ h => h)) (pa_cons (pv 1) (pa_cons (pe_op op_add (pv 2) pe_int) pa_nil)))))
      (pss_cons (ps_if (pt_not (pt_chain op_le op_le (pv 4) (pv 10) (pv 5))) (pss_one (ps_raise rfl (takes_of rfl rfl rfl rfl) (pmk_oex T.o_BadByte T.i_BadByte T.t_BadByte (oki_BadByte T) (hr.mono (by decide)) T.bi_BadByte .nil pass0 (by rfl) T.g_BadByte (pa_cons (pe_op op_add (pv 2) pe_int) pa_nil)))) pss_nil)
      (pss_one (ps_ret (pe_tup (pa_cons (pv 10) (pa_cons (pe_call (ok_byte_between T) (hr.mono (by decide)) (by rfl) T.g__byte_between T.F__byte_between.kp T.b__byte_between .nil (passes_call (takes_of rfl rfl rfl rfl) (fun _ _ _ _ h => h)) (pa_cons (pv 1) (pa_cons (pe_op op_add (pv 2) pe_int) (pa_cons (pv 6) (pa_cons (pv 7) pa_nil))))) pa_nil)))))))))))))
, ?_⟩
    refine ⟨_, rfl, 2, rfl, ?_⟩
    refine sl_takeV (n := 2) hca (by show 2 ≤ 5; decide) fun p1 H1 s1 hp1 => ?_
    refine ⟨p1, _, rfl, hp1, rfl, _, _, rfl, _, _, rfl, rfl, ?_⟩
    refine ⟨_, rfl, ca, _, 2, _, rfl, rfl, same_tup s1 hca, atI_nat (j := 2) rfl, cs, _, rfl, .inr (same_tup s1 hcs), _, _, rfl, rfl, _, _, rfl, ?_⟩
    dsimp only
    have el : (C.steps.map V.int).length = C.steps.length := List.length_map ..
    refine st_tail (fun σ H' => ∃ y8 y9 y10, σ = [some (.ref ca), some (.ref a), some (.int (i : Int)), some kv, some (.int (kLo C kn)), some (.int (kHi C kn)), some (.int (kPl kn)), some (.int (kPh C kn)), y8, y9, y10] ∧ Same H H') ?_ fun tail => ?_
    · rintro σ H2 ⟨y8, y9, y10, rfl, s2⟩
      refine ⟨_, rfl, _, rfl, a, xs, ds, i, rfl, same_tup s2 ha, diAll_same s2 hd, fun g hg H3 s3 => ?_, fun e he => ?_⟩
      · have s23 := s2.trans s3
        dsimp only
        refine st_tail (fun σ H' => σ = [some (.ref ca), some (.ref a), some (.int (i : Int)), some kv, some (.int (kLo C kn)), some (.int (kHi C kn)), some (.int (kPl kn)), some (.int (kPh C kn)), some (.int g), some (.int (bse g)), y10] ∧ H' = H3) ?_ fun tail => ?_
        · rintro σ H4 ⟨rfl, rfl⟩
          have hg2 := need_all hg (fun g => !(decide (kHi C kn < bse g) || decide (bse g + 255 < kLo C kn)))
          have eR : ∀ H', Same H H' → (!(decide (kHi C kn < bse g) || decide (bse g + 255 < kLo C kn))) = false → OneE T.C_BadByte "number" H' E (.int (i : Int)) := fun H' s' hb => (q2 i (by unfold stR; rw [hg2, if_neg (by rw [hb]; exact Bool.false_ne_true)])).same s'
          refine ⟨_, rfl, _, rfl, _, _, rfl, rfl, _, rfl, ?_⟩
          by_cases b1 : kHi C kn < bse g
          · refine ifYes' (decide_eq_true b1) (ifYes' rfl ?_)
            exact ⟨_, rfl, by show 1 ≤ 1000; decide, fun a' ha' => ⟨a', _, rfl, upd_same, fun d hd n => ⟨rfl, d, _, upd_same, (upd_ne n).trans upd_same, (upd_ne n).symm.trans hd, oneE_mk (eR _ s23 (by rw [decide_eq_true b1]; rfl)) ha' hd n⟩⟩⟩
          refine ifNo' (decide_eq_false b1) ?_
          refine ⟨_, rfl, _, _, rfl, rfl, _, rfl, _, _, rfl, rfl, _, rfl, ?_⟩
          by_cases b2 : bse g + 255 < kLo C kn
          · refine ifYes' (decide_eq_true b2) ?_
            exact ⟨_, rfl, by show 1 ≤ 1000; decide, fun a' ha' => ⟨a', _, rfl, upd_same, fun d hd n => ⟨rfl, d, _, upd_same, (upd_ne n).trans upd_same, (upd_ne n).symm.trans hd, oneE_mk (eR _ s23 (by rw [decide_eq_true b2, Bool.or_true]; rfl)) ha' hd n⟩⟩⟩
          refine ifNo' (decide_eq_false b2) ?_
          rw [if_pos (by rw [decide_eq_false b1, decide_eq_false b2]; rfl)] at hg2
          clear eR
          refine ⟨_, rfl, _, rfl, _, rfl, _, _, rfl, rfl, a, xs, ds, i + 1, rfl, same_tup s23 ha, diAll_same s23 hd, fun l hl H5 s5 => ?_, fun e he => (q2 (i + 1) (by unfold stR; rw [hg2]; dsimp only; rw [need_none he])).same s23⟩
          have s25 := s23.trans s5
          have hl2 := need_all hl (fun l => decide (kLo C kn ≤ bse g + l) && decide (bse g + l ≤ kHi C kn))
          have eL : ∀ H', Same H H' → (decide (kLo C kn ≤ bse g + l) && decide (bse g + l ≤ kHi C kn)) = false → OneE T.C_BadByte "number" H' E (.int ((i + 1 : Nat) : Int)) := fun H' s' hb => (q2 (i + 1) (by unfold stR; rw [hg2]; dsimp only; rw [hl2, if_neg (by rw [hb]; exact Bool.false_ne_true)])).same s'
          refine ⟨_, _, rfl, rfl, ?_⟩
          refine ⟨_, rfl, _, rfl, _, _, rfl, rfl, _, rfl, ?_⟩
          by_cases b3 : kLo C kn ≤ bse g + l
          · refine ifYes' (decide_eq_true b3) ?_
            refine ⟨_, rfl, _, _, rfl, rfl, _, rfl, ?_⟩
            by_cases b4 : bse g + l ≤ kHi C kn
            · rw [decide_eq_true b4]
              refine iteF ?_
              rw [if_pos (by rw [decide_eq_true b3, decide_eq_true b4]; rfl)] at hl2
              refine ⟨_, rfl, _, rfl, _, rfl, _, _, rfl, rfl, _, rfl, _, rfl, a, xs, ds, i + 2, _, _, rfl, same_tup s25 ha, diAll_same s25 hd, fun p hp H6 s6 => ⟨by show 2 ≤ sizeLine; decide, fun t ht => ?_⟩, fun e he => ?_⟩
              · refine q1 (bse g + l, p) (by unfold stR; rw [hg2]; dsimp only; rw [hl2]; dsimp only; rw [hp]) _ _ ((s25.trans s6).trans (same_new ht)) (dp_mkpair upd_tup)
              · have := need_err he
                subst this
                exact (q2 (i + 2) (by unfold stR; rw [hg2]; dsimp only; rw [hl2]; dsimp only; rw [he])).same s25
            · rw [decide_eq_false b4]
              refine iteT ?_
              exact ⟨_, rfl, _, _, rfl, rfl, by show 1 ≤ 1000; decide, fun a' ha' => ⟨a', _, rfl, upd_same, fun d hd n => ⟨rfl, d, _, upd_same, (upd_ne n).trans upd_same, (upd_ne n).symm.trans hd, oneE_mk (eL _ s25 (by rw [decide_eq_false b4, Bool.and_false])) ha' hd n⟩⟩⟩
          · refine ifNo' (decide_eq_false b3) ?_
            refine ⟨_, rfl, ?_⟩
            refine iteT ?_
            exact ⟨_, rfl, _, _, rfl, rfl, by show 1 ≤ 1000; decide, fun a' ha' => ⟨a', _, rfl, upd_same, fun d hd n => ⟨rfl, d, _, upd_same, (upd_ne n).trans upd_same, (upd_ne n).symm.trans hd, oneE_mk (eL _ s25 (by rw [decide_eq_false b3, Bool.false_and])) ha' hd n⟩⟩⟩
        · refine ⟨_, rfl, _, _, rfl, rfl, _, rfl, ?_⟩
          by_cases e : g < 128
          · refine ifYes' (decide_eq_true e) ?_
            refine ⟨_, rfl, _, _, rfl, rfl, .inl ⟨by decide, by decide⟩, ?_⟩
            refine tail _ _ ⟨?_, rfl⟩
            unfold bse
            rw [if_pos e]
            rfl
          · refine ifNo' (decide_eq_false e) ?_
            refine ⟨_, rfl, _, _, rfl, rfl, .inl ⟨by decide, by decide⟩, _, _, rfl, rfl, ?_⟩
            refine tail _ _ ⟨?_, rfl⟩
            unfold bse
            rw [if_neg e]
            rfl
      · exact (q2 i (by unfold stR; rw [need_none he])).same s2
    · refine ⟨_, rfl, rfl, _, rfl, ?_⟩
      cases kn with
      | none =>
        obtain rfl : kv = .non := hk
        refine iteF ?_
        refine tail _ _ ⟨none, none, none, ?_, s1⟩
        rw [show kPh C none = ((C.steps.map V.int).length : Int) - 1 by rw [el]; rfl]
        rfl
      | some st =>
        obtain ⟨kb, rfl, hkb⟩ := dp_pair (dp_same s1 _ _ (show Dp K H kv (pairI st) from hk))
        refine iteT ?_
        refine ⟨_, rfl, kb, _, 0, _, rfl, rfl, hkb, atI_nat (j := 0) rfl, _, rfl, kb, _, 0, _, rfl, rfl, hkb, atI_nat (j := 0) rfl, _, _, rfl, ?_⟩
        refine ⟨_, rfl, kb, _, 1, _, rfl, rfl, hkb, atI_nat (j := 1) rfl, _, rfl, kb, _, 1, _, rfl, rfl, hkb, atI_nat (j := 1) rfl, _, _, rfl, ?_⟩
        exact tail _ _ ⟨_, _, _, rfl, s1⟩
def sp_codes_atR (K : PySem.W.Frag) (BB : Addr) : Sp := fun vs H Q E => ∃ (c : V) (a : Addr) (xs : List V) (ds : List PyData) (C : Cod) (b n : Nat), vs = [c, .ref a, .int (b : Int), .int (n : Int)] ∧ C.Ok ∧ Dp K H c C.dat ∧ SqT K H a xs ∧ DiAll K H xs ds ∧ n ≤ 255 ∧ b ≤ 100000 ∧
  (∀ r, cdsTo ds b C.moves.length n ((n + 1) / 2) = .ok r → ∀ t H', Same H H' → Dp K H' t (rowI (r.take n)) → Q t H') ∧ (∀ e, cdsTo ds b C.moves.length n ((n + 1) / 2) = .error e → OneE BB "number" H E (.int (e : Int)))
set_option maxHeartbeats 4000000 in
theorem ok_codes_at (T : Txt K mg) : FnOk P w K mg base (L2.CX P w) 5 T.f__codes_at T.d__codes_at ["coder", "data", "begin", "many"] (sp_codes_atR K T.C_BadByte) := by
  refine T.F__codes_at.okX sc_codes_at (fun vs H Q E h => ?_) (fun cdv A outer s H vs Q E hr h => ?_)
  · obtain ⟨c, a, xs, ds, C, b, n, rfl, _⟩ := h
    rfl
  · obtain ⟨c, a, xs, ds, C, b, n, rfl, O, hc, ha, hd, hn, hb, q1, q2⟩ := h
    obtain ⟨ca, cs, cm, ms, rfl, hca, hcs, hcm, hmd⟩ := cod_at hc
    have hml : ms.length = C.moves.length := by rw [dpAll_len hmd, List.length_map]
    have m1 := O.m1
    have m2 := O.m2
    refine ⟨_,
(pss_cons (ps_set (i := 4) sc_codes_at.nd rfl (Or.inl rfl) (pe_op op_sub (pe_callB (call_len_seq) (by rfl) T.z_len (by decide +kernel) (pa_cons (pe_ix ix_tup (pv 0) pe_int (fun _ _ => rfl)) pa_nil)) pe_int))
      (pss_cons (ps_set (i := 5) sc_codes_at.nd rfl (Or.inl rfl) (pe_lst pa_nil))
      (pss_cons (ps_for (passes_of rfl) rfl (pi_range2 (by rfl) T.z_range (pa_cons (pv 2) (pa_cons (pe_op op_add (pv 2) (pe_op op_fdivN (pe_op op_add (pv 3) pe_int) pe_int)) pa_nil))) (pg_name (i := 6) sc_codes_at.nd rfl (Or.inl rfl)) (pss_cons (ps_set (i := 7) sc_codes_at.nd rfl (Or.inl rfl) (pe_call (ok_byte_at T) (hr.mono (by decide)) (by rfl) T.g__byte_at T.F__byte_at.kp T.b__byte_at .nil (passes_call (takes_of rfl rfl rfl rfl) (fun _ _ _ _ h => h)) (pa_cons (pv 1) (pa_cons (pv 6) pa_nil))))
      (pss_cons (ps_set (i := 8) sc_codes_at.nd rfl (Or.inl rfl) (pe_ifExp (pt_cmpR op_le (pe_op op_add (pe_callB (call_len_seq) (by rfl) T.z_len (by decide +kernel) (pa_cons (pv 5) pa_nil)) pe_int) (pv 3) (nomark _)) (pv 4) pe_int))
      (pss_cons (ps_if (PW.pt (pw_or (pt_cmpR op_gt (pe_op op_modN (pv 7) pe_int) (pv 4) (nomark _)) (pw_or1 (pt_cmpR op_gt (pe_op op_fdivN (pv 7) pe_int) (pv 8) (nomark _))))) (pss_one (ps_raise rfl (takes_of rfl rfl rfl rfl) (pmk_oex T.o_BadByte T.i_BadByte T.t_BadByte (oki_BadByte T) (hr.mono (by decide)) T.bi_BadByte .nil pass0 (by rfl) T.g_BadByte (pa_cons (pv 6) pa_nil)))) pss_nil)
      (pss_cons (ps_expr (pe_bm PySem.F.plainAttrs_list PySem.F.slot_list_append PySem.F.type_list_append mt_append (pv 5) (pa_cons (pe_op op_modN (pv 7) pe_int) pa_nil)))
      (pss_one (ps_expr (pe_bm PySem.F.plainAttrs_list PySem.F.slot_list_append PySem.F.type_list_append mt_append (pv 5) (pa_cons (pe_op op_fdivN (pv 7) pe_int) pa_nil)))))))))
      (pss_one (ps_ret (pe_callTy call_tuple_of (by rfl) T.z_tuple (by decide +kernel) (pa_cons (pe_slice sl_list (pv 5) po_none (po_some (pv 3))) pa_nil)))))))
, ?_⟩
    refine ⟨_, rfl, ca, _, 3, _, rfl, rfl, hca, atI_nat (j := 3) rfl, cm, ms, rfl, .inr hcm, _, _, rfl, rfl, by decide, fun L hL => ?_⟩
    have sL := same_new (o := .lst []) hL
    refine ⟨_, rfl, _, rfl, _, rfl, _, _, rfl, rfl, _, 2, rfl, rfl, ⟨by decide, by decide⟩, _, _, rfl, rfl, _, _, rfl, ?_⟩
    have ef : Int.fdiv ((n : Int) + 1) 2 = (((n + 1) / 2 : Nat) : Int) := by rw [fdp _ (by decide)]; omega
    rw [ef]
    refine ⟨⟨by omega, by omega, by omega, by omega⟩, ?_⟩
    refine for_range (lo := (b : Int)) (n := ((b : Int) + (((n + 1) / 2 : Nat) : Int) - (b : Int)).toNat) (fun j σ H' => ∃ y6 y7 y8 r, σ = [some (.ref ca), some (.ref a), some (.int (b : Int)), some (.int (n : Int)), some (.int ((ms.length : Int) - 1)), some (.ref L), y6, y7, y8] ∧ Same H H' ∧
        H' L = some (.lst (rowV r)) ∧ cdsTo ds b C.moves.length n j = .ok r) ⟨none, none, none, [], rfl, sL, upd_same, rfl⟩ ?_ ?_
    · rintro j σ H1 hj ⟨y6, y7, y8, r, rfl, s1, hL1, hr1⟩
      have hj : j < (n + 1) / 2 := by omega
      obtain ⟨k, hk⟩ : ∃ k, (n + 1) / 2 = (j + 1) + k := ⟨(n + 1) / 2 - (j + 1), by omega⟩
      have hrl := (cds_len hr1).1
      have hul : (rowV r).length = 2 * j := by unfold rowV; rw [List.length_map, hrl]
      have eR : ∀ e, need ds (b + j) (cdOk C.moves.length n j) = .error e → ∀ H', Same H H' → OneE T.C_BadByte "number" H' E (.int ((b + j : Nat) : Int)) := fun e he H' s' => by
        have := need_err he
        subst this
        refine (q2 (b + j) ?_).same s'
        rw [hk]
        exact cds_stay (cds_err hr1 he) k
      refine ⟨_, rfl, _, rfl, a, xs, ds, b + j, rfl, same_tup s1 ha, diAll_same s1 hd, fun z hz H2 s2 => ?_, fun e he => eR (b + j) (need_none he _) _ s1⟩
      have s12 := s1.trans s2
      have hL2 := s2 _ _ hL1
      obtain ⟨_, z0, z1, _⟩ := need_ok hz
      have hz2 := need_all hz (cdOk C.moves.length n j)
      dsimp only
      refine st_tail (fun σ H' => ∃ gr : Int, σ = [some (.ref ca), some (.ref a), some (.int (b : Int)), some (.int (n : Int)), some (.int ((ms.length : Int) - 1)), some (.ref L), some (.int ((b : Int) + (j : Int))), some (.int z), some (.int gr)] ∧ H' = H2 ∧ gr + 1 = (if 2 * j + 2 ≤ n then (C.moves.length : Int) else 1)) ?_ fun tail => ?_
      · rintro σ H3 ⟨gr, rfl, rfl, hgr⟩
        have e1 : Int.fmod z 16 = z % 16 := fmp _ (by decide)
        have e2 : Int.fdiv z 16 = z / 16 := fdp _ (by decide)
        refine ⟨_, rfl, _, 16, rfl, rfl, sixteen, _, rfl, _, _, rfl, rfl, _, rfl, ?_⟩
        rw [e1]
        by_cases b1 : (ms.length : Int) - 1 < z % 16
        · refine ifYes' (decide_eq_true b1) (ifYes' rfl ?_)
          exact ⟨_, rfl, by show 1 ≤ 1000; decide, fun a' ha' => ⟨a', _, rfl, upd_same, fun d hd n => ⟨rfl, d, _, upd_same, (upd_ne n).trans upd_same, (upd_ne n).symm.trans hd, oneE_mk (eR (b + j) (by rw [hz2, if_neg (by unfold cdOk; rw [decide_eq_false (by omega), Bool.false_and]; exact Bool.false_ne_true)]) _ s12) ha' hd n⟩⟩⟩
        refine ifNo' (decide_eq_false b1) ?_
        refine ⟨_, rfl, _, 16, rfl, rfl, ⟨sixteen, by show (16 : Int).natAbs < 1073741824; decide⟩, _, rfl, _, _, rfl, rfl, _, rfl, ?_⟩
        rw [e2]
        by_cases b2 : gr < z / 16
        · refine ifYes' (decide_eq_true b2) ?_
          exact ⟨_, rfl, by show 1 ≤ 1000; decide, fun a' ha' => ⟨a', _, rfl, upd_same, fun d hd n => ⟨rfl, d, _, upd_same, (upd_ne n).trans upd_same, (upd_ne n).symm.trans hd, oneE_mk (eR (b + j) (by rw [hz2, if_neg (by unfold cdOk; rw [← hgr, decide_eq_false (p := z / 16 < gr + 1) (by omega), Bool.and_false]; exact Bool.false_ne_true)]) _ s12) ha' hd n⟩⟩⟩
        refine ifNo' (decide_eq_false b2) ?_
        rw [if_pos (by unfold cdOk; rw [← hgr, decide_eq_true (p := z % 16 < (C.moves.length : Int)) (by omega), decide_eq_true (p := z / 16 < gr + 1) (by omega)]; rfl)] at hz2
        refine ⟨_, rfl, .inl ⟨rfl, _, SqL.of hL2⟩, _, rfl, _, 16, rfl, rfl, sixteen, L, _, _, rfl, rfl, hL2, ?_, ?_⟩
        · rw [hul]
          exact small1000 (by omega)
        refine ⟨_, rfl, .inl ⟨rfl, _, SqL.of upd_same⟩, _, rfl, _, 16, rfl, rfl, ⟨sixteen, by show (16 : Int).natAbs < 1073741824; decide⟩, L, _, _, rfl, rfl, upd_same, ?_, ?_⟩
        · rw [List.length_append, hul]
          exact small1000 (by simp; omega)
        rw [upd_upd]
        refine ⟨_, _, _, r ++ [(z % 16).toNat, (z / 16).toNat], rfl, same_put s12 hL, ?_, cds_ok hr1 hz2⟩
        rw [upd_same, rowV_app]
        show some (HO.lst (rowV r ++ [V.int (z.fmod 16)] ++ [V.int (z.fdiv 16)])) = _
        rw [e1, e2, List.append_assoc]
        show some (HO.lst (rowV r ++ [V.int (z % 16), V.int (z / 16)])) = some (HO.lst (rowV r ++ [V.int (((z % 16).toNat : Nat) : Int), V.int (((z / 16).toNat : Nat) : Int)]))
        rw [show (((z % 16).toNat : Nat) : Int) = z % 16 by omega, show (((z / 16).toNat : Nat) : Int) = z / 16 by omega]
      · refine ⟨_, rfl, L, _, rfl, .inl (SqL.of hL2), _, _, rfl, rfl, _, rfl, _, _, rfl, rfl, _, rfl, ?_⟩
        rw [hul]
        by_cases e : 2 * j + 2 ≤ n
        · refine ifYes' (decide_eq_true (by omega)) ?_
          exact ⟨_, rfl, tail _ _ ⟨_, rfl, rfl, by rw [if_pos e]; omega⟩⟩
        · refine ifNo' (decide_eq_false (by omega)) ?_
          refine tail _ _ ⟨_, rfl, rfl, ?_⟩
          rw [if_neg e]
          decide
    · rintro σ H1 ⟨y6, y7, y8, r, rfl, s1, hL1, hr1⟩
      rw [show ((b : Int) + (((n + 1) / 2 : Nat) : Int) - (b : Int)).toNat = (n + 1) / 2 by omega] at hr1
      refine ⟨_, rfl, _, rfl, _, rfl, L, _, rfl, SqL.of hL1, fun M hM => ?_⟩
      have sM := same_new (o := .lst (cutV (rowV r) none (some (n : Int)))) hM
      refine ⟨M, _, rfl, .inl ⟨SqL.of upd_same, fun t ht => ?_⟩⟩
      refine q1 r hr1 _ _ ((s1.trans sM).trans (same_new ht)) (dp_row ?_)
      have hrl := (cds_len hr1).1
      have e : cutV (rowV r) none (some (n : Int)) = rowV (r.take n) := by
        rw [cutL_take (by unfold rowV; rw [List.length_map]; omega)]
        unfold rowV
        rw [List.map_take]
      rw [e]
      exact upd_tup
end
end My

set_option pp.maxSteps 400
set_option pp.deepTerms false
/-! blocks in any things: a block, salvage -/
namespace My
open PySem PySem.Spec PyProof.Rows L2
theorem need_congr {ds : List PyData} {i : Nat} {p q : Int → Bool} (h : ∀ z, 0 ≤ z → z ≤ 255 → p z = q z) : need ds i p = need ds i q := by
  unfold need
  split
  · rename_i z e
    cases h1 : (decide (0 ≤ z) && decide (z ≤ 255)) with
    | false => rw [Bool.false_and, Bool.false_and]
    | true =>
      obtain ⟨a, b⟩ := Bool.and_eq_true_iff.mp h1
      rw [h z (of_decide_eq_true a) (of_decide_eq_true b)]
  · rfl
theorem between_one {z t : Int} : (decide (t ≤ z) && decide (z ≤ t)) = decide (z = t) := by
  by_cases h : z = t
  · subst h
    rw [decide_eq_true (Int.le_refl _), decide_eq_true rfl]
    rfl
  · rw [decide_eq_false h]
    by_cases h1 : t ≤ z
    · rw [decide_eq_false (p := z ≤ t) (by omega), Bool.and_false]
    · rw [decide_eq_false h1, Bool.false_and]
theorem stR_ints {C : Cod} {ds : List PyData} {i : Nat} {kn : Option (Int × Int)} {s : Int × Int} (h : stR C ds i kn = .ok s) : ∀ j, j < 3 → ∃ z, ds[i + j]? = some (.int z) := by
  unfold stR at h
  split at h
  · cases h
  rename_i g hg
  split at h
  · cases h
  rename_i l hl
  split at h
  · cases h
  rename_i p hp
  intro j hj
  match j, hj with
  | 0, _ => exact ⟨g, (need_ok hg).1⟩
  | 1, _ => exact ⟨l, (need_ok hl).1⟩
  | 2, _ => exact ⟨p, (need_ok hp).1⟩
theorem ints_in {K : PySem.W.Frag} {H : Hp} {xs : List V} {ds : List PyData} {b n : Nat} (h : DiAll K H xs ds) (hz : ∀ j, j < n → ∃ z, ds[b + j]? = some (.int z)) : (xs.drop b).take n = (((ds.drop b).take n).map intOf).map V.int := by
  refine List.ext_getElem? fun j => ?_
  by_cases hj : j < n
  · obtain ⟨z, e⟩ := hz j hj
    have hl := diAll_len h
    have hb := (List.getElem?_eq_some_iff.mp e).1
    have hx : xs[b + j]? = some xs[b + j] := List.getElem?_eq_getElem (by omega)
    obtain ⟨d, h1, h2⟩ := diAll_get h hx
    rw [e] at h1
    cases h1
    rw [h2.int] at hx
    rw [List.getElem?_map, List.getElem?_map, List.getElem?_take_of_lt hj, List.getElem?_take_of_lt hj, List.getElem?_drop, List.getElem?_drop, hx, e]
    rfl
  · rw [List.getElem?_eq_none (by rw [List.length_take]; omega), List.getElem?_eq_none (by rw [List.length_map, List.length_map, List.length_take]; omega)]
section
variable {P : Program} {w : World} {K : PySem.W.Frag} {mg : Str → Option Value} {base : Heap}
def sp_block_atR (K : PySem.W.Frag) (BB : Addr) : Sp := fun vs H Q E => ∃ (c kv : V) (a : Addr) (xs : List V) (ds : List PyData) (C : Cod) (b : Nat) (kn : Option (Int × Int)), vs = [c, .ref a, .int (b : Int), kv] ∧ C.Ok ∧ Dp K H c C.dat ∧ KnV K H kv kn ∧ SqT K H a xs ∧ DiAll K H xs ds ∧ b ≤ 50000 ∧
  (∀ s r e, blkR C ds b kn = .ok (s, r, e) → ∀ t sv rv H', Same H H' → SqT K H' t [sv, rv, .int (e : Int)] → Dp K H' sv (pairI s) → Dp K H' rv (rowI r) → Q (.ref t) H') ∧ (∀ e, blkR C ds b kn = .error e → OneE BB "number" H E (.int (e : Int)))
theorem knv_same {H H' : Hp} {kv : V} {kn : Option (Int × Int)} (h : KnV K H kv kn) (s : Same H H') : KnV K H' kv kn := by
  cases kn with
  | none => exact h
  | some p => exact dp_same s _ _ h
set_option maxHeartbeats 4000000 in
theorem ok_block_at (T : Txt K mg) : FnOk P w K mg base (L2.CX P w) 7 T.f__block_at T.d__block_at ["coder", "data", "begin", "known"] (sp_block_atR K T.C_BadByte) := by
  refine T.F__block_at.okX sc_block_at (fun vs H Q E h => ?_) (fun cdv A outer s H vs Q E hr h => ?_)
  · obtain ⟨c, kv, a, xs, ds, C, b, kn, rfl, _⟩ := h
    rfl
  · obtain ⟨c, kv, a, xs, ds, C, b, kn, rfl, O, hc, hk, ha, hd, hb, q1, q2⟩ := h
    refine ⟨_,
(pss_cons (ps_for (passes_of rfl) rfl (My.pi_enumT (by rfl) T.z_enumerate (pa_cons (pe_glob (v := .ref T.q_MARK) (by rfl) T.g_MARK rfl) pa_nil)) (pg_tup (by rfl) (pgs_cons (pg_name (i := 4) sc_block_at.nd rfl (Or.inl rfl)) (pgs_cons (pg_name (i := 5) sc_block_at.nd rfl (Or.inl rfl)) pgs_nil))) (pss_one (ps_if (pt_cmpR op_ne (pe_call (ok_byte_at T) (hr.mono (by decide)) (by rfl) T.g__byte_at T.F__byte_at.kp T.b__byte_at .nil (passes_call (takes_of rfl rfl rfl rfl) (fun _ _ _ _ h => h)) (pa_cons (pv 1) (pa_cons (pe_op op_add (pv 2) (pv 4)) pa_nil))) (pv 5) (nomark _)) (pss_one (ps_raise rfl (takes_of rfl rfl rfl rfl) (pmk_oex T.o_BadByte T.i_BadByte T.t_BadByte (oki_BadByte T) (hr.mono (by decide)) T.bi_BadByte .nil pass0 (by rfl) T.g_BadByte (pa_cons (pe_op op_add (pv 2) (pv 4)) pa_nil)))) pss_nil)))
      (pss_cons (ps_set (i := 6) sc_block_at.nd rfl (Or.inl rfl) (pe_call (ok_state_at T) (hr.mono (by decide)) (by rfl) T.g__state_at T.F__state_at.kp T.b__state_at .nil (passes_call (takes_of rfl rfl rfl rfl) (fun _ _ _ _ h => h)) (pa_cons (pv 0) (pa_cons (pv 1) (pa_cons (pe_op op_add (pv 2) pe_int) (pa_cons (pv 3) pa_nil))))))
      (pss_cons (ps_set (i := 7) sc_block_at.nd rfl (Or.inl rfl) (pe_call (ok_byte_between T) (hr.mono (by decide)) (by rfl) T.g__byte_between T.F__byte_between.kp T.b__byte_between .nil (passes_call (takes_of rfl rfl rfl rfl) (fun _ _ _ _ h => h)) (pa_cons (pv 1) (pa_cons (pe_op op_sub (pe_op op_add (pv 2) (pe_glob (v := .int 6) (by rfl) T.g_HEAD ⟨_, rfl⟩)) pe_int) (pa_cons pe_int (pa_cons pe_int pa_nil))))))
      (pss_cons (ps_set (i := 8) sc_block_at.nd rfl (Or.inl rfl) (pe_call (ok_codes_at T) (hr.mono (by decide)) (by rfl) T.g__codes_at T.F__codes_at.kp T.b__codes_at .nil (passes_call (takes_of rfl rfl rfl rfl) (fun _ _ _ _ h => h)) (pa_cons (pv 0) (pa_cons (pv 1) (pa_cons (pe_op op_add (pv 2) (pe_glob (v := .int 6) (by rfl) T.g_HEAD ⟨_, rfl⟩)) (pa_cons (pv 7) pa_nil))))))
      (pss_cons (ps_set (i := 9) sc_block_at.nd rfl (Or.inl rfl) (pe_call (ok_sum_index T) (hr.mono (by decide)) (by rfl) T.g__sum_index T.F__sum_index.kp T.b__sum_index .nil pass0 (pa_cons (pv 2) (pa_cons (pv 7) pa_nil))))
      (pss_cons (ps_set (i := 10) sc_block_at.nd rfl (Or.inl rfl) (pe_op op_modN (pe_callB (My.cr_sumT rfl) (by rfl) T.z_sum (by decide +kernel) (pa_cons (pe_slice sl_tupA (pv 1) (po_some (pe_op op_add (pv 2) pe_int)) (po_some (pv 9))) pa_nil)) pe_int))
      (pss_cons (ps_expr (pe_call (ok_byte_between T) (hr.mono (by decide)) (by rfl) T.g__byte_between T.F__byte_between.kp T.b__byte_between .nil (passes_call (takes_of rfl rfl rfl rfl) (fun _ _ _ _ h => h)) (pa_cons (pv 1) (pa_cons (pv 9) (pa_cons (pv 10) (pa_cons (pv 10) pa_nil))))))
      (pss_one (ps_ret (pe_tup (pa_cons (pv 6) (pa_cons (pv 8) (pa_cons (pe_op op_add (pv 9) pe_int) pa_nil)))))))))))))
, ?_⟩
    refine ⟨T.q_MARK, _, rfl, T.qs_MARK _, ?_⟩
    refine for_enumT (K := K) (a := T.q_MARK) (xs := [.int 165, .int 90]) (fun i σ H' => ∃ y4 y5, σ = [some c, some (.ref a), some (.int (b : Int)), some kv, y4, y5, none, none, none, none, none] ∧ Same H H' ∧
      (1 ≤ i → ∃ z, need ds b (fun z => decide (z = 165)) = .ok z) ∧ (2 ≤ i → ∃ z, need ds (b + 1) (fun z => decide (z = 90)) = .ok z)) ⟨none, none, rfl, Same.refl H, fun h => by omega, fun h => by omega⟩ ?_ ?_ ?_
    · rintro i σ H' _ _
      exact T.qs_MARK _
    · rintro i v σ H' p hi ⟨y4, y5, rfl, s1, m1, m2⟩ hp
      have s2 := s1.trans (same_new (o := .tup [.int (i : Nat), v]) hp)
      refine ⟨p, _, rfl, upd_tup, rfl, _, _, rfl, _, _, rfl, rfl, ?_⟩
      obtain ⟨zm, rfl, hi2, hm1, hm2⟩ : ∃ zm : Int, v = .int zm ∧ i < 2 ∧ (i = 0 → zm = 165) ∧ (i = 1 → zm = 90) := by
        match i, hi with
        | 0, hi => cases hi; exact ⟨165, rfl, by decide, fun _ => rfl, (fun h => absurd h (by decide))⟩
        | 1, hi => cases hi; exact ⟨90, rfl, by decide, (fun h => absurd h (by decide)), fun _ => rfl⟩
        | i + 2, hi => cases hi
      have eR : need ds (b + i) (fun z => decide (z = zm)) = .error (b + i) → ∀ H', Same H H' → OneE T.C_BadByte "number" H' E (.int ((b + i : Nat) : Int)) := fun he H' s' => by
        refine (q2 (b + i) ?_).same s'
        unfold blkR
        obtain h0 | h1 : i = 0 ∨ i = 1 := by omega
        · subst h0
          rw [hm1 rfl] at he
          rw [Nat.add_zero] at he
          rw [he]
          rfl
        · subst h1
          rw [hm2 rfl] at he
          obtain ⟨z0, hz0⟩ := m1 (by decide)
          rw [hz0]
          dsimp only
          rw [he]
      refine ⟨_, rfl, _, rfl, _, rfl, _, _, rfl, rfl, a, xs, ds, b + i, rfl, same_tup s2 ha, diAll_same s2 hd, fun z hz H3 s3 => ?_, fun e he => eR (need_none he _) _ s2⟩
      have hz2 := need_all hz (fun z => decide (z = zm))
      refine ⟨_, rfl, rfl, _, rfl, ?_⟩
      by_cases e : z = zm
      · refine ifNo' (by rw [e, decide_eq_true rfl]; rfl) ?_
        rw [if_pos (decide_eq_true e)] at hz2
        refine ⟨_, _, rfl, s2.trans s3, fun _ => ?_, fun h => ?_⟩
        · obtain h0 | h1 : i = 0 ∨ i = 1 := by omega
          · subst h0
            rw [hm1 rfl, Nat.add_zero] at hz2
            exact ⟨_, hz2⟩
          · exact m1 (by omega)
        · obtain rfl : i = 1 := by omega
          rw [hm2 rfl] at hz2
          exact ⟨_, hz2⟩
      · refine ifYes' (by rw [decide_eq_false (fun h => e (V.int.inj h))]; rfl) ?_
        exact ⟨_, rfl, _, rfl, _, _, rfl, rfl, by show 1 ≤ 1000; decide, fun a' ha' => ⟨a', _, rfl, upd_same, fun d hd n => ⟨rfl, d, _, upd_same, (upd_ne n).trans upd_same, (upd_ne n).symm.trans hd, oneE_mk (eR (by rw [hz2, if_neg (by rw [decide_eq_false e]; exact Bool.false_ne_true)]) _ (s2.trans s3)) ha' hd n⟩⟩⟩
    · rintro σ H1 ⟨y4, y5, rfl, s1, m1, m2⟩
      obtain ⟨z0, hz0⟩ := m1 (by decide)
      obtain ⟨z1, hz1⟩ := m2 (by decide)
      have B0 : blkR C ds b kn = match stR C ds (b + 2) kn with
        | .error e => .error e
        | .ok s => match need ds (b + 5) (fun n => decide (1 ≤ n)) with
          | .error e => .error e
          | .ok n => match cdsTo ds (b + 6) C.moves.length n.toNat ((n.toNat + 1) / 2) with
            | .error e => .error e
            | .ok r => match need ds (b + 6 + (n.toNat + 1) / 2) (fun t => decide (t = sumIn ds (b + 2) (b + 6 + (n.toNat + 1) / 2) % 256)) with
              | .error e => .error e
              | .ok _ => .ok (s, r.take n.toNat, b + 6 + (n.toNat + 1) / 2 + 1) := by
        unfold blkR
        rw [hz0]
        dsimp only
        rw [hz1]
        try rfl
      refine ⟨_, rfl, _, rfl, _, rfl, _, _, rfl, rfl, _, rfl, c, kv, a, xs, ds, C, b + 2, kn, rfl, O, dp_same s1 _ _ hc, knv_same hk s1, same_tup s1 ha, diAll_same s1 hd, fun st hst zv H2 s2 hzv => ?_, fun e he => (q2 e (by rw [B0, he])).same s1⟩
      have s12 := s1.trans s2
      have hn1 : need ds (b + 5) (fun n => decide (1 ≤ n)) = need ds (b + 5) (fun z => decide ((1 : Int) ≤ z) && decide (z ≤ 255)) := need_congr fun z _ h => by rw [decide_eq_true h, Bool.and_true]
      have e5 : ((b + 5 : Nat) : Int) = (b : Int) + 6 - 1 := by omega
      refine ⟨_, rfl, _, rfl, _, _, rfl, rfl, _, _, rfl, rfl, a, xs, ds, b + 5, 1, 255, by rw [e5]; rfl, same_tup s12 ha, diAll_same s12 hd, fun n hn H3 s3 => ?_, fun e he => ?_⟩
      · obtain ⟨hn5, n0, n1, nb, _⟩ := need_ok hn
        have nb := of_decide_eq_true (Bool.and_eq_true_iff.mp nb).1
        obtain ⟨nn, rfl⟩ : ∃ nn : Nat, n = (nn : Int) := ⟨n.toNat, by omega⟩
        have s13 := s12.trans s3
        refine ⟨_, rfl, _, rfl, _, rfl, _, _, rfl, rfl, _, rfl, c, a, xs, ds, C, b + 6, nn, rfl, O, dp_same s13 _ _ hc, same_tup s13 ha, diAll_same s13 hd, by omega, by omega, fun r hr rv H4 s4 hrv => ?_, fun e he => (q2 e (by rw [B0, hst]; dsimp only; rw [hn1, hn]; dsimp only; rw [Int.toNat_natCast, he])).same s13⟩
        have s14 := s13.trans s4
        refine ⟨_, rfl, _, rfl, b, nn, rfl, ?_⟩
        obtain ⟨hrl, hend, hby⟩ := cds_len hr
        have hl := diAll_len hd
        have hK : (nn + 1) / 2 ≠ 0 := by omega
        have hend := hend hK
        refine ⟨_, rfl, _, rfl, _, _, rfl, rfl, _, rfl, _, rfl, _, rfl, ?_⟩
        refine sl_partV (lo := b + 2) (hi := b + 6 + (nn + 1) / 2) (same_tup s14 ha) (by omega) fun p5 H5 s5 hp5 => ?_
        have hints : ∀ j, j < b + 6 + (nn + 1) / 2 - (b + 2) → ∃ z, ds[b + 2 + j]? = some (.int z) := fun j hj => by
          by_cases h1 : j < 3
          · exact stR_ints hst j h1
          · by_cases h2 : j = 3
            · subst h2; exact ⟨_, hn5⟩
            · obtain ⟨z, hz, _⟩ := hby (j - 4) (by omega)
              exact ⟨z, by rw [show b + 2 + j = b + 6 + (j - 4) by omega]; exact hz⟩
        rw [ints_in hd hints] at hp5
        refine ⟨p5, _, rfl, hp5, _, 256, rfl, rfl, by show (256 : Int) ≠ 0; decide, ?_⟩
        have s15 := s14.trans s5
        have esum : Int.fmod (((ds.drop (b + 2)).take (b + 6 + (nn + 1) / 2 - (b + 2))).map intOf).sum 256 = sumIn ds (b + 2) (b + 6 + (nn + 1) / 2) % 256 := fmp _ (by decide)
        have hlast : need ds (b + 6 + (nn + 1) / 2) (fun z => decide (sumIn ds (b + 2) (b + 6 + (nn + 1) / 2) % 256 ≤ z) && decide (z ≤ sumIn ds (b + 2) (b + 6 + (nn + 1) / 2) % 256)) = need ds (b + 6 + (nn + 1) / 2) (fun t => decide (t = sumIn ds (b + 2) (b + 6 + (nn + 1) / 2) % 256)) := need_congr fun z _ _ => between_one
        refine ⟨_, rfl, _, rfl, _, rfl, _, rfl, a, xs, ds, b + 6 + (nn + 1) / 2, sumIn ds (b + 2) (b + 6 + (nn + 1) / 2) % 256, sumIn ds (b + 2) (b + 6 + (nn + 1) / 2) % 256, ?_, same_tup s15 ha, diAll_same s15 hd, fun t ht H6 s6 => ?_, fun e he => ?_⟩
        · rw [← esum]
          rfl
        · have s16 := s15.trans s6
          refine ⟨_, rfl, _, rfl, _, rfl, _, _, rfl, rfl, by show 3 ≤ sizeLine; decide, fun tt htt => ?_⟩
          have st' := same_new (o := .tup [zv, rv, V.int (((b + 6 + (nn + 1) / 2 : Nat) : Int) + 1)]) htt
          refine q1 st (r.take nn) (b + 6 + (nn + 1) / 2 + 1) (by rw [B0, hst]; dsimp only; rw [hn1, hn]; dsimp only; rw [Int.toNat_natCast, hr]; dsimp only; rw [← hlast, ht]) tt zv rv _ (s16.trans st') upd_tup (dp_same ((((s3.trans s4).trans s5).trans s6).trans st') _ _ hzv) (dp_same ((s5.trans s6).trans st') _ _ hrv)
        · have := need_err he
          subst this
          exact (q2 (b + 6 + (nn + 1) / 2) (by rw [B0, hst]; dsimp only; rw [hn1, hn]; dsimp only; rw [Int.toNat_natCast, hr]; dsimp only; rw [← hlast, he])).same s15
      · have := need_err he
        subst this
        exact (q2 (b + 5) (by rw [B0, hst]; dsimp only; rw [hn1, he])).same s12
end
end My

set_option pp.maxSteps 400
set_option pp.deepTerms false
/-! salvage -/
namespace My
open PySem PySem.Spec PyProof.Rows L2
def ThZ (K : PySem.W.Frag) (H : Hp) (x : V) : Option (List PyData) → Prop
  | none => Th K H x none
  | some ds => Dt K H x ds
theorem ThZ.same {K : PySem.W.Frag} {H H' : Hp} {x : V} {r : Option (List PyData)} (s : Same H H') (h : ThZ K H x r) : ThZ K H' x r := by
  cases r with
  | none => exact Th.same s (r := none) h
  | some ds => exact Dt.same h s
theorem dt_ty {K : PySem.W.Frag} {H : Hp} {x : V} {ds : List PyData} (h : Dt K H x ds) : TyX K H x (.type (tyN (.tuple ds))) := by
  obtain ⟨a, xs, rfl, h1, h2⟩ := h
  rcases h1 with (h | ⟨o, h⟩) | ⟨o, its, n, h, hc, _⟩
  · exact .base (.tup h)
  · exact .fTuple h
  · exact .kTuple h hc
def entS (e : Nat × (Int × Int) × List Nat) : PyData := .tuple [.int (e.1 : Int), pairI e.2.1, rowI e.2.2]
section
variable {P : Program} {w : World} {K : PySem.W.Frag} {mg : Str → Option Value} {base : Heap}
def sp_need_ctZ (T : Txt K mg) : Sp := fun vs H Q E => ∃ (c x : V) (dc : PyData) (rr : Option (List PyData)), vs = [c, x] ∧ Dp K H c dc ∧ ThZ K H x rr ∧ (∀ y z, FltV (firstF dc) y z → TwoE T.C_BadCoder "part" "number" H E y z) ∧
  (firstF dc = .none → rr = none → OneE T.C_BadByte "number" H E .non) ∧ (firstF dc = .none → ∀ ds, rr = some ds → ∀ H', Same H H' → Q .non H')
theorem ok_need_coder_and_tuple (T : Txt K mg) : FnOk P w K mg base (L2.CX P w) 7 T.f__need_coder_and_tuple T.d__need_coder_and_tuple ["coder", "data"] (sp_need_ctZ T) := by
  refine T.F__need_coder_and_tuple.okX sc_need_coder_and_tuple (fun vs H Q E h => ?_) (fun cdv A outer s H vs Q E hr h => ?_)
  · obtain ⟨c, x, dc, rr, rfl, _⟩ := h
    rfl
  · obtain ⟨c, x, dc, rr, rfl, hc, hx, q1, q2, q3⟩ := h
    refine ⟨_,
(pss_cons (ps_expr (pe_call (ok_need_coder T) (hr.mono (by decide)) (by rfl) T.g_need_coder T.F_need_coder.kp T.b_need_coder .nil (passes_call (takes_of rfl rfl rfl rfl) (fun _ _ _ _ h => h)) (pa_cons (pv 0) pa_nil)))
      (pss_one (ps_if (pt_not (pt_val (pe_callB (call_isi) (by rfl) T.z_isinstance (by decide +kernel) (pa_cons (pv 1) (pa_cons (pe_bltn (v := .ty "tuple") (by rfl) T.z_tuple (by decide +kernel) rfl) pa_nil))))) (pss_one (ps_raise rfl (takes_of rfl rfl rfl rfl) (pmk_oex T.o_BadByte T.i_BadByte T.t_BadByte (oki_BadByte T) (hr.mono (by decide)) T.bi_BadByte .nil pass0 (by rfl) T.g_BadByte (pa_cons pe_non pa_nil)))) pss_nil)))
, ?_⟩
    refine ⟨c, rfl, c, dc, rfl, hc, fun h0 H1 s1 => ?_, q1⟩
    have hx1 := hx.same s1
    cases rr with
    | none =>
      obtain ⟨TT, t1, t2⟩ := hx1
      refine ⟨x, rfl, x, .ty "tuple", _, _, _, rfl, .ty _, t1, t2, _, rfl, ?_⟩
      refine iteT ?_
      refine ⟨by decide, fun a ha => ⟨a, .non, rfl, upd_same, fun d hd n => ⟨rfl, d, _, upd_same, (upd_ne n).trans upd_same, (upd_ne n).symm.trans hd, oneE_mk ((q2 h0 rfl).same s1) ha hd n⟩⟩⟩
    | some ds =>
      have hd : Dt K H1 x ds := hx1
      refine ⟨x, rfl, x, .ty "tuple", _, _, _, rfl, .ty _, dt_ty hd, kitT _, _, rfl, ?_⟩
      exact iteF (q3 h0 ds rfl H1 s1)
end
end My

set_option pp.maxSteps 400
set_option pp.deepTerms false
/-! a file out of any things -/
namespace My
open PySem PySem.Spec PyProof.Rows L2
theorem cds_lt {ds : List PyData} {b M n : Nat} (hM : 1 ≤ M) : ∀ {k : Nat} {r : List Nat}, cdsTo ds b M n k = .ok r → ∀ x ∈ r, x < M
  | 0, r, h => by
    have : r = [] := by
      unfold cdsTo at h
      injection h with h
      exact h.symm
    subst this
    nofun
  | k + 1, r, h => by
    unfold cdsTo at h
    cases e : cdsTo ds b M n k with
    | error x => rw [e] at h; cases h
    | ok r' =>
      rw [e] at h
      dsimp only at h
      cases g : need ds (b + k) (cdOk M n k) with
      | error x => rw [g] at h; cases h
      | ok z =>
        rw [g] at h
        injection h with h
        subst h
        intro x hx
        obtain ⟨_, g2, g3, g4, _⟩ := need_ok g
        obtain ⟨c1, c2⟩ := Bool.and_eq_true_iff.mp (show (decide (z % 16 < (M : Int)) && decide (z / 16 < (if 2 * k + 2 ≤ n then (M : Int) else 1))) = true from g4)
        have c1 := of_decide_eq_true c1
        have c2 := of_decide_eq_true c2
        rcases List.mem_append.mp hx with hx | hx
        · exact cds_lt hM e x hx
        · rcases List.mem_cons.mp hx with rfl | hx
          · omega
          · rw [List.mem_singleton.mp hx]
            split at c2 <;> omega
theorem blkR_ok {C : Cod} (O : C.Ok) {ds : List PyData} {b : Nat} {kn : Option (Int × Int)} (hk : ∀ st, kn = some st → C.St st) {s : Int × Int} {r : List Nat} {e : Nat} (h : blkR C ds b kn = .ok (s, r, e)) : C.St s ∧ ∀ k ∈ r, k < C.moves.length := by
  cases hkn : kn with
  | none =>
    subst hkn
    refine ⟨(blkR_end h).2.2.2.1 rfl, ?_⟩
    unfold blkR at h
    split at h
    · cases h
    split at h
    · cases h
    split at h
    · cases h
    split at h
    · cases h
    split at h
    · cases h
    rename_i row hrow
    split at h
    · cases h
    injection h with h
    injection h with h1 h
    injection h with h2 h3
    subst h2
    exact fun k hk => cds_lt (Nat.le_of_succ_le O.m1) hrow k (List.mem_of_mem_take hk)
  | some st =>
    subst hkn
    have hst := hk st rfl
    unfold blkR at h
    split at h
    · cases h
    split at h
    · cases h
    split at h
    · cases h
    rename_i s' hs'
    split at h
    · cases h
    split at h
    · cases h
    rename_i row hrow
    split at h
    · cases h
    injection h with h
    injection h with h1 h
    injection h with h2 h3
    subst h1 h2
    refine ⟨?_, fun k hk => cds_lt (Nat.le_of_succ_le O.m1) hrow k (List.mem_of_mem_take hk)⟩
    unfold stR at hs'
    split at hs'
    · cases hs'
    split at hs'
    · cases hs'
    rename_i l hl
    split at hs'
    · cases hs'
    rename_i p hp
    injection hs' with hs'
    obtain ⟨_, _, _, l2, _⟩ := need_ok hl
    obtain ⟨_, _, _, p2, _⟩ := need_ok hp
    obtain ⟨a1, a2⟩ := Bool.and_eq_true_iff.mp l2
    obtain ⟨b1, b2⟩ := Bool.and_eq_true_iff.mp p2
    have a1 : st.1 ≤ _ := of_decide_eq_true a1
    have a2 : _ ≤ st.1 := of_decide_eq_true a2
    have b1 : st.2 ≤ p := of_decide_eq_true b1
    have b2 : p ≤ st.2 := of_decide_eq_true b2
    have e1 := Int.le_antisymm a2 a1
    have e2 := Int.le_antisymm b2 b1
    rw [← hs', e1, e2]
    exact hst
/-- the file from an index on -/
def rdF (C : Cod) (ds : List PyData) : Nat → Nat → Option (Int × Int) → (Int × Int) → List Nat → Except Nat ((Int × Int) × List Nat)
  | 0, _, _, first, cs => .ok (first, cs)
  | f + 1, i, kn, first, cs => if i < ds.length then
      match blkR C ds i kn with
      | .error e => .error e
      | .ok (s, r, e) => rdF C ds f e (some (C.run s r)) (if i = 0 then s else first) (cs ++ r)
    else .ok (first, cs)
def rd (C : Cod) (ds : List PyData) : Except Nat ((Int × Int) × List Nat) := rdF C ds ds.length 0 none (0, 0) []
theorem rdF_end {C : Cod} {ds : List PyData} {i : Nat} {kn : Option (Int × Int)} {first : Int × Int} {cs : List Nat} (h : ds.length ≤ i) : ∀ f, rdF C ds f i kn first cs = .ok (first, cs)
  | 0 => rfl
  | f + 1 => if_neg (by omega)
theorem rdF_fuel {C : Cod} {ds : List PyData} : ∀ n i kn first cs, ds.length - i ≤ n → ∀ f g, ds.length ≤ i + f → ds.length ≤ i + g → rdF C ds f i kn first cs = rdF C ds g i kn first cs := by
  intro n
  induction n with
  | zero =>
    intro i kn first cs hi f g _ _
    rw [rdF_end (by omega), rdF_end (by omega)]
  | succ n ih =>
    intro i kn first cs hi f g hf hg
    by_cases hl : ds.length ≤ i
    · rw [rdF_end hl, rdF_end hl]
    · obtain ⟨f, rfl⟩ : ∃ f', f = f' + 1 := ⟨f - 1, by omega⟩
      obtain ⟨g, rfl⟩ : ∃ g', g = g' + 1 := ⟨g - 1, by omega⟩
      show (if i < ds.length then _ else _) = if i < ds.length then _ else _
      rw [if_pos (by omega), if_pos (by omega)]
      cases b : blkR C ds i kn with
      | error e => rfl
      | ok t =>
        obtain ⟨s, r, e⟩ := t
        have he := blkR_end b
        exact ih e _ _ _ (by omega) f g (by omega) (by omega)
def RdAt (C : Cod) (ds : List PyData) (i : Nat) (kn : Option (Int × Int)) (first : Int × Int) (cs : List Nat) (R : Except Nat ((Int × Int) × List Nat)) : Prop := ∀ f, ds.length ≤ i + f → rdF C ds f i kn first cs = R
theorem RdAt.done {C : Cod} {ds : List PyData} {i : Nat} {kn : Option (Int × Int)} {first : Int × Int} {cs : List Nat} {R : Except Nat ((Int × Int) × List Nat)} (h : RdAt C ds i kn first cs R) (hi : ds.length ≤ i) : R = .ok (first, cs) := (h 0 hi).symm
theorem RdAt.bad {C : Cod} {ds : List PyData} {i e : Nat} {kn : Option (Int × Int)} {first : Int × Int} {cs : List Nat} {R : Except Nat ((Int × Int) × List Nat)} (h : RdAt C ds i kn first cs R) (hi : i < ds.length) (b : blkR C ds i kn = .error e) : R = .error e := by
  have := h (ds.length + 1) (by omega)
  rw [← this]
  show (if i < ds.length then _ else _) = _
  rw [if_pos hi, b]
theorem RdAt.good {C : Cod} {ds : List PyData} {i e : Nat} {kn : Option (Int × Int)} {first s : Int × Int} {cs r : List Nat} {R : Except Nat ((Int × Int) × List Nat)} (h : RdAt C ds i kn first cs R) (hi : i < ds.length) (b : blkR C ds i kn = .ok (s, r, e)) : RdAt C ds e (some (C.run s r)) (if i = 0 then s else first) (cs ++ r) R := fun f hf => by
  have he := blkR_end b
  have := h (ds.length + 1) (by omega)
  rw [← this]
  show _ = if i < ds.length then _ else _
  rw [if_pos hi, b]
  exact rdF_fuel ds.length e _ _ _ (by omega) f ds.length hf (by omega)
theorem rdAt_start {C : Cod} {ds : List PyData} : RdAt C ds 0 none (0, 0) [] (rd C ds) := fun f hf => rdF_fuel ds.length 0 _ _ _ (by omega) f ds.length hf (by omega)
section
variable {P : Program} {w : World} {K : PySem.W.Frag} {mg : Str → Option Value} {base : Heap}
theorem knv_keep {H H' : Hp} {kv : V} {kn : Option (Int × Int)} (h : KnV K H kv kn) (s : Keep H H') : KnV K H' kv kn := by
  cases kn with
  | none => exact h
  | some p => exact dp_keep s _ _ (noL_pair p) h
def sp_read_fileR (T : Txt K mg) : Sp := fun vs H Q E => (∃ (c x : V) (dc : PyData) (rr : Option (List PyData)), vs = [c, x] ∧ Dp K H c dc ∧ ThZ K H x rr ∧ (∀ y z, FltV (firstF dc) y z → TwoE T.C_BadCoder "part" "number" H E y z) ∧
  (firstF dc = .none → rr = none ∧ OneE T.C_BadByte "number" H E .non)) ∨
  ∃ (c x : V) (C : Cod) (ds : List PyData), vs = [c, x] ∧ C.Ok ∧ Dp K H c C.dat ∧ Dt K H x ds ∧ ds.length ≤ 50000 ∧ (∀ e, rd C ds = .error e → OneE T.C_BadByte "number" H E (.int (e : Int))) ∧
    (∀ s r, rd C ds = .ok (s, r) → 2000 < r.length → OneE T.C_TooGreat "most" H E (.int 2000)) ∧ (∀ s r, rd C ds = .ok (s, r) → r.length ≤ 2000 → ∀ z H', Same H H' → Dp K H' z (.tuple [pairI s, rowI r]) → Q z H')
set_option maxHeartbeats 4000000 in
theorem ok_read_file (T : Txt K mg) : FnOk P w K mg base (L2.CX P w) 8 T.f_read_file T.d_read_file ["coder", "data"] (sp_read_fileR T) := by
  refine T.F_read_file.okX sc_read_file (fun vs H Q E h => ?_) (fun cdv A outer s H vs Q E hr h => ?_)
  · rcases h with ⟨c, x, dc, rr, rfl, _⟩ | ⟨c, x, C, ds, rfl, _⟩ <;> rfl
  · refine ⟨_,
(pss_cons (ps_expr (pe_call (ok_need_coder_and_tuple T) (hr.mono (by decide)) (by rfl) T.g__need_coder_and_tuple T.F__need_coder_and_tuple.kp T.b__need_coder_and_tuple .nil (passes_call (takes_of rfl rfl rfl rfl) (fun _ _ _ _ h => h)) (pa_cons (pv 0) (pa_cons (pv 1) pa_nil))))
      (pss_cons (ps_set (i := 2) sc_read_file.nd rfl (Or.inl rfl) (pe_tup (pa_cons pe_int (pa_cons pe_int pa_nil))))
      (pss_cons (ps_set (i := 3) sc_read_file.nd rfl (Or.inl rfl) (pe_lst pa_nil))
      (pss_cons (ps_set (i := 4) sc_read_file.nd rfl (Or.inl rfl) pe_non)
      (pss_cons (ps_set (i := 5) sc_read_file.nd rfl (Or.inl rfl) pe_int)
      (pss_cons (ps_while (passes_of rfl) (pt_cmpR op_lt (pv 5) (pe_callB (call_len_seq) (by rfl) T.z_len (by decide +kernel) (pa_cons (pv 1) pa_nil)) (nomark _)) (pss_cons (ps_asg (pe_call (ok_block_at T) (hr.mono (by decide)) (by rfl) T.g__block_at T.F__block_at.kp T.b__block_at .nil (passes_call (takes_of rfl rfl rfl rfl) (fun _ _ _ _ h => h)) (pa_cons (pv 0) (pa_cons (pv 1) (pa_cons (pv 5) (pa_cons (pv 4) pa_nil))))) (pg_tup (by rfl) (pgs_cons (pg_name (i := 6) sc_read_file.nd rfl (Or.inl rfl)) (pgs_cons (pg_name (i := 7) sc_read_file.nd rfl (Or.inl rfl)) (pgs_cons (pg_name (i := 8) sc_read_file.nd rfl (Or.inl rfl)) pgs_nil)))))
      (pss_cons (ps_if (pt_cmpR op_eq (pv 5) pe_int (nomark _)) (pss_one (ps_set (i := 2) sc_read_file.nd rfl (Or.inl rfl) (pv 6))) pss_nil)
      (pss_cons (ps_expr (pe_bm PySem.F.plainAttrs_list PySem.F.slot_list_extend PySem.F.type_list_extend My.mt_extendT (pv 3) (pa_cons (pv 7) pa_nil)))
      (pss_cons (ps_set (i := 4) sc_read_file.nd rfl (Or.inl rfl) (pe_call (ok_state_behind_row T) (hr.mono (by decide)) (by rfl) T.g_state_behind_row T.F_state_behind_row.kp T.b_state_behind_row .nil pass0 (pa_cons (pv 0) (pa_cons (pv 7) (pa_cons (pv 6) pa_nil)))))
      (pss_one (ps_set (i := 5) sc_read_file.nd rfl (Or.inl rfl) (pv 8))))))))
      (pss_cons (ps_if (pt_cmpR op_gt (pe_callB (call_len_seq) (by rfl) T.z_len (by decide +kernel) (pa_cons (pv 3) pa_nil)) (pe_glob (v := .int 2000) (by rfl) T.g_MOST_CODES ⟨_, rfl⟩) (nomark _)) (pss_one (ps_raise rfl (takes_of rfl rfl rfl rfl) (My.pmk_tg T.o_TooGreat T.i_TooGreat T.t_TooGreat (oki_TooGreat T) (hr.mono (by decide)) T.bi_TooGreat .nil pass0 (by rfl) T.g_TooGreat (pa_cons (pe_glob (v := .int 2000) (by rfl) T.g_MOST_CODES ⟨_, rfl⟩) pa_nil)))) pss_nil)
      (pss_one (ps_ret (pe_tup (pa_cons (pv 2) (pa_cons (pe_callTy call_tuple_of (by rfl) T.z_tuple (by decide +kernel) (pa_cons (pv 3) pa_nil)) pa_nil))))))))))))
, ?_⟩
    rcases h with ⟨c, x, dc, rr, rfl, hc, hx, q1, q2⟩ | ⟨c, x, C, ds, rfl, O, hc, hx, hlen, qe, qg, q⟩
    · exact ⟨_, rfl, _, rfl, c, x, dc, rr, rfl, hc, hx, q1, fun h0 e => (q2 h0).2, fun h0 ds e => by rw [(q2 h0).1] at e; cases e⟩
    · refine ⟨_, rfl, _, rfl, c, x, C.dat, some ds, rfl, hc, hx, fun y z hf => fltV_cod O hf, fun _ e => (by cases e), fun _ _ _ H1 s1 => ?_⟩
      refine ⟨by show 2 ≤ sizeLine; decide, fun o ho => ?_⟩
      have so := same_new (o := .tup [V.int 0, V.int 0]) ho
      refine ⟨by decide, fun L hL => ?_⟩
      have sL := same_new (o := .lst []) hL
      have s2 := (s1.trans so).trans sL
      have hL0 : H L = none := (s1.trans so).free hL
      have ho2 : Dp K (upd (upd H1 o (.tup [V.int 0, V.int 0])) L (.lst [])) (.ref o) (pairI (0, 0)) := dp_mkpair (same_tup sL upd_tup)
      dsimp only
      refine ⟨fun μ σ H' => ∃ (i : Nat) (kn : Option (Int × Int)) (first : Int × Int) (cs : List Nat) (fv kv : V) (y6 y7 y8 : Option V), σ = [some c, some x, some fv, some (.ref L), some kv, some (.int (i : Int)), y6, y7, y8] ∧ Same H H' ∧ H' L = some (.lst (rowV cs)) ∧ KnV K H' kv kn ∧ Dp K H' fv (pairI first) ∧
        RdAt C ds i kn first cs (rd C ds) ∧ i ≤ ds.length ∧ cs.length ≤ 255 * i ∧ (∀ st, kn = some st → C.St st) ∧ μ = ds.length - i,
        ⟨_, 0, none, (0, 0), [], _, _, none, none, none, rfl, s2, upd_same, rfl, ho2, rdAt_start, Nat.zero_le _, Nat.le_refl _, nofun, rfl⟩, ?_⟩
      rintro μ σ H2 ⟨i, kn, first, cs, fv, kv, y6, y7, y8, rfl, s2', hL2, hkv, hfv, ra, hi, hcl, hks, rfl⟩
      obtain ⟨a, xs, rfl, ha, hdi⟩ := hx.same s2'
      have hl := diAll_len hdi
      refine ⟨_, rfl, _, rfl, a, xs, rfl, .inr ha, _, _, rfl, rfl, _, rfl, ?_⟩
      by_cases hlt : i < ds.length
      · refine ifYes' (decide_eq_true (by omega)) ?_
        refine ⟨fun σ' H' => ∃ m', m' < ds.length - i ∧ _, fun σ' H' h => h, ?_⟩
        refine ⟨_, rfl, _, rfl, _, rfl, _, rfl, c, kv, a, xs, ds, C, i, kn, rfl, O, dp_same s2' _ _ hc, hkv, ha, hdi, by omega, fun st r e hb t sv rv H3 s3 ht hst hrv => ?_, fun e hb => (qe e (ra.bad hlt hb)).same s2'⟩
        have s23 := s2'.trans s3
        obtain ⟨e1, e2, e3, _, _⟩ := blkR_end hb
        obtain ⟨hs, hr⟩ := blkR_ok O hks hb
        have hL3 := s3 _ _ hL2
        refine ⟨t, _, rfl, ht, rfl, _, _, rfl, _, _, rfl, _, _, rfl, rfl, ?_⟩
        dsimp only
        refine st_tail (fun σ H' => ∃ fv, σ = [some c, some (.ref a), some fv, some (.ref L), some kv, some (.int (i : Int)), some sv, some rv, some (.int (e : Int))] ∧ H' = H3 ∧ Dp K H3 fv (pairI (if i = 0 then st else first))) ?_ fun tail => ?_
        · rintro σ H' ⟨fv, rfl, rfl, hfv3⟩
          obtain ⟨ra', rfl, hra⟩ := row_at hrv
          have hqf : (rowV cs).length + (rowV r).length ≤ sizeLine := by
            unfold rowV
            rw [List.length_map, List.length_map]
            exact Nat.le_trans (show _ ≤ 255 * 50001 by omega) (by decide)
          refine ⟨_, rfl, .inl ⟨rfl, _, SqL.of hL3⟩, _, rfl, L, ra', _, _, rfl, rfl, hL3, hra, hqf, ?_⟩
          have k3 := keep_set (o := .lst (rowV cs ++ rowV r)) hL3
          refine ⟨_, rfl, _, rfl, _, rfl, c, .ref ra', sv, C, r, _, rfl, O, dp_keep k3 _ _ (noL_cod C) (dp_same s23 _ _ hc), dp_keep k3 _ _ (noL_row r) hrv, hr, dp_keep k3 _ _ (noL_pair _) hst, hs, fun zz H5 s5 hzz => ?_⟩
          refine ⟨_, rfl, ?_⟩
          refine ⟨_, ?_, e, some (C.run st r), _, cs ++ r, fv, zz, _, _, _, rfl, (same_put s23 hL0).trans s5, ?_, hzz, dp_same s5 _ _ (dp_keep k3 _ _ (noL_pair _) hfv3), ra.good hlt hb, e2, ?_, fun st' h => ?_, rfl⟩
          · omega
          · rw [s5 _ _ upd_same, rowV_app]
          · rw [List.length_append]
            omega
          · injection h with h
            rw [← h]
            exact run_St O _ hs
        · refine ⟨_, rfl, rfl, _, rfl, ?_⟩
          by_cases h0 : i = 0
          · refine ifYes' (decide_eq_true (by rw [h0]; rfl)) ?_
            exact ⟨_, rfl, tail _ _ ⟨_, rfl, rfl, by rw [if_pos h0]; exact hst⟩⟩
          · refine ifNo' (decide_eq_false fun z => h0 (by have := V.int.inj z; omega)) ?_
            exact tail _ _ ⟨_, rfl, rfl, by rw [if_neg h0]; exact dp_same s3 _ _ hfv⟩
      · refine ifNo' (decide_eq_false (by omega)) ?_
        have hR := ra.done (by omega)
        have hrvl : (rowV cs).length = cs.length := List.length_map ..
        refine ⟨_, rfl, L, _, rfl, .inl (SqL.of hL2), _, _, rfl, rfl, _, rfl, ?_⟩
        rw [hrvl]
        by_cases hg : 2000 < cs.length
        · refine ifYes' (decide_eq_true (by omega)) ?_
          exact ⟨by show 1 ≤ 1000; decide, fun a' ha' => ⟨a', _, rfl, upd_same, fun d hd n => ⟨rfl, d, _, upd_same, (upd_ne n).trans upd_same, (upd_ne n).symm.trans hd, oneE_mk ((qg _ _ hR hg).same s2') ha' hd n⟩⟩⟩
        · refine ifNo' (decide_eq_false (by omega)) ?_
          refine ⟨_, rfl, _, rfl, L, _, rfl, .inl ⟨SqL.of hL2, fun t ht => ⟨by show 2 ≤ sizeLine; decide, fun u hu => ?_⟩⟩⟩
          have s5 := same_new (o := .tup (rowV cs)) ht
          have s6 := same_new (o := .tup [fv, V.ref t]) hu
          exact q _ _ hR (by omega) _ _ ((s2'.trans s5).trans s6) (.tup upd_tup (.cons (dp_same (s5.trans s6) _ _ hfv) (.cons (dp_same s6 _ _ (dp_row upd_tup)) .nil)))
end
end My

set_option pp.maxSteps 400
set_option pp.deepTerms false
/-! a law's own reader of blocks, the state known or not -/
namespace My
open PySem PySem.Spec PyProof.Rows L2
theorem need_gd_bad {ds : List PyData} {i : Nat} {p : Int → Bool} (h : btw ((ds[i]?).getD .none) 0 255 = false) : need ds i p = .error i := by
  cases e : ds[i]? with
  | none =>
    unfold need
    rw [e]
  | some d =>
    rw [e] at h
    exact need_bad e h
theorem need_gd_at {ds : List PyData} {i : Nat} {p : Int → Bool} {z : Int} (h : (ds[i]?).getD .none = .int z) (h0 : 0 ≤ z) (h1 : z ≤ 255) : need ds i p = if p z = true then .ok z else .error i := by
  cases e : ds[i]? with
  | none => rw [e] at h; cases h
  | some d =>
    rw [e] at h
    have h : d = .int z := h
    subst h
    exact need_at e h0 h1
/-- what stands at an index, or nothing -/
theorem rest_at {K : PySem.W.Frag} {H : Hp} {xs : List V} {ds : List PyData} (h : DiAll K H xs ds) (b k : Nat) (hk : k < 6) : ∃ v, (xs.drop b ++ List.replicate 6 V.non)[k]? = some v ∧ Di K H v ((ds[b + k]?).getD .none) := by
  have hl := diAll_len h
  by_cases hi : b + k < xs.length
  · rw [List.getElem?_append_left (by rw [List.length_drop]; omega), List.getElem?_drop]
    have hx : xs[b + k]? = some xs[b + k] := List.getElem?_eq_getElem hi
    obtain ⟨d, h1, h2⟩ := diAll_get h hx
    exact ⟨_, hx, by rw [h1]; exact h2⟩
  · refine ⟨.non, ?_, ?_⟩
    · rw [List.getElem?_append_right (by rw [List.length_drop]; omega)]
      exact List.getElem?_replicate_of_lt (by rw [List.length_drop]; omega)
    · rw [List.getElem?_eq_none (by omega)]
      exact .fl rfl .non
theorem btw_in_byte {d : PyData} {lo hi : Int} (h : btw d lo hi = true) (h0 : 0 ≤ lo) (h1 : hi ≤ 255) : ∃ z, d = .int z ∧ lo ≤ z ∧ z ≤ hi ∧ 0 ≤ z ∧ z ≤ 255 := by
  obtain ⟨z, rfl, a, b⟩ := btw_out h
  exact ⟨z, rfl, a, b, by omega, by omega⟩
/-- a narrower test fails: the byte is none of those -/
theorem need_nar {ds : List PyData} {i : Nat} {lo hi : Int} {p : Int → Bool} (h : btw ((ds[i]?).getD .none) lo hi = false) (hp : ∀ z, 0 ≤ z → z ≤ 255 → p z = true → lo ≤ z ∧ z ≤ hi) : need ds i p = .error i := by
  cases hb : btw ((ds[i]?).getD .none) 0 255 with
  | false => exact need_gd_bad hb
  | true =>
    obtain ⟨z, e, z0, z1⟩ := btw_byte hb
    rw [need_gd_at e z0 z1]
    by_cases hz : p z = true
    · obtain ⟨a, b⟩ := hp z z0 z1 hz
      rw [e] at h
      have h : (decide (lo ≤ z) && decide (z ≤ hi)) = false := h
      rw [decide_eq_true a, decide_eq_true b] at h
      cases h
    · rw [if_neg hz]
section
variable {P : Program} {w : World} {K : PySem.W.Frag} {mg : Str → Option Value} {base : Heap}
def sp_law_block_read (K : PySem.W.Frag) : Sp := fun vs H Q _ => ∃ (c kv : V) (a : Addr) (xs : List V) (ds : List PyData) (C : Cod) (b : Nat) (kn : Option (Int × Int)), vs = [c, .ref a, .int (b : Int), kv] ∧ C.Ok ∧ Dp K H c C.dat ∧ KnV K H kv kn ∧ (∀ st, kn = some st → C.St st) ∧ SqT K H a xs ∧ DiAll K H xs ds ∧ b ≤ ds.length ∧ ds.length ≤ 50000 ∧
  (∀ s r e, blkR C ds b kn = .ok (s, r, e) → ∀ t sv rv H', Same H H' → SqT K H' t [.int (e : Int), sv, rv] → Dp K H' sv (pairI s) → Dp K H' rv (rowI r) → Q (.ref t) H') ∧ (∀ e, blkR C ds b kn = .error e → ∀ H', Same H H' → Q (.int (e : Int)) H')
set_option maxHeartbeats 4000000 in
theorem ok_law_block_read (T : Txt K mg) : FnOk P w K mg base CX0 3 T.f__law_block_read T.d__law_block_read ["coder", "data", "at", "due"] (sp_law_block_read K) := by
  refine T.F__law_block_read.ok sc_law_block_read (fun vs H Q E h => ?_) (fun cdv A outer s H vs Q E hr h => ?_)
  · obtain ⟨c, kv, a, xs, ds, C, b, kn, rfl, _⟩ := h
    rfl
  · obtain ⟨c, kv, a, xs, ds, C, b, kn, rfl, O, hc, hkv, hks, ha, hd, hb, hlen, q1, q2⟩ := h
    obtain ⟨ca, cs, cm, ms, rfl, hca, hcs, hcm, hmd⟩ := cod_at hc
    have hml : ms.length = C.moves.length := by rw [dpAll_len hmd, List.length_map]
    have hl := diAll_len hd
    have n2 := O.s2
    have n1 := O.s1
    have m1 := O.m1
    have m2 := O.m2
    refine ⟨_,
(pss_cons (ps_set (i := 4) sc_law_block_read.nd rfl (Or.inl rfl) (pe_op op_cat (pe_callTy call_list_of (by rfl) T.z_list (by decide +kernel) (pa_cons (pe_slice sl_tupA (pv 1) (po_some (pv 2)) po_none) pa_nil)) (pe_op op_rep (pe_lst (pa_cons pe_non pa_nil)) pe_int)))
      (pss_cons (ps_for PassesOwn.never rfl (pi_range1 (by rfl) T.z_range (pa_cons pe_int pa_nil)) (pg_name (i := 5) sc_law_block_read.nd rfl (Or.inl rfl)) (pss_one (ps_if (pt_not (pt_val (pe_call (ok_law_is_whole T) (hr.mono (by decide)) (by rfl) T.g__law_is_whole T.F__law_is_whole.kp T.b__law_is_whole .nil pass0 (pa_cons (pe_ix ix_list (pv 4) (pv 5) (fun _ _ => rfl)) (pa_cons (pe_ix ix_tup (pe_tup (pa_cons pe_int (pa_cons pe_int pa_nil))) (pv 5) (fun _ _ => rfl)) (pa_cons (pe_ix ix_tup (pe_tup (pa_cons pe_int (pa_cons pe_int pa_nil))) (pv 5) (fun _ _ => rfl)) pa_nil)))))) (pss_one (ps_ret (pe_op op_add (pv 2) (pv 5)))) pss_nil)))
      (pss_cons (ps_asg (pe_ifExp (pt_cmpR op_isN (pv 3) pe_non (nomark _)) (pe_tup (pa_cons (pe_ix ix_tup (pv 0) pe_int (fun _ _ => rfl)) (pa_cons (pe_ix ix_tup (pv 0) pe_int (fun _ _ => rfl)) pa_nil))) (pe_tup (pa_cons (pe_ix ix_tup (pv 3) pe_int (fun _ _ => rfl)) (pa_cons (pe_ix ix_tup (pv 3) pe_int (fun _ _ => rfl)) pa_nil)))) (pg_tup (by rfl) (pgs_cons (pg_name (i := 6) sc_law_block_read.nd rfl (Or.inl rfl)) (pgs_cons (pg_name (i := 7) sc_law_block_read.nd rfl (Or.inl rfl)) pgs_nil))))
      (pss_cons (ps_if (pt_not (pt_val (pe_call (ok_law_is_whole T) (hr.mono (by decide)) (by rfl) T.g__law_is_whole T.F__law_is_whole.kp T.b__law_is_whole .nil pass0 (pa_cons (pe_ix ix_list (pv 4) pe_int (fun _ _ => rfl)) (pa_cons pe_int (pa_cons pe_int pa_nil)))))) (pss_one (ps_ret (pe_op op_add (pv 2) pe_int))) pss_nil)
      (pss_cons (ps_set (i := 8) sc_law_block_read.nd rfl (Or.inl rfl) (pe_op op_mul pe_int (pe_op op_sub (pe_ix ix_list (pv 4) pe_int (fun _ _ => rfl)) (pe_op op_mul pe_int (pe_op op_fdivN (pe_ix ix_list (pv 4) pe_int (fun _ _ => rfl)) pe_int)))))
      (pss_cons (ps_if (PW.pt (pw_or (pt_cmpR op_gt (pv 8) (pv 7) (nomark _)) (pw_or1 (pt_cmpR op_lt (pe_op op_add (pv 8) pe_int) (pv 6) (nomark _))))) (pss_one (ps_ret (pe_op op_add (pv 2) pe_int))) pss_nil)
      (pss_cons (ps_if (PW.pt (pw_or (pt_not (pt_val (pe_call (ok_law_is_whole T) (hr.mono (by decide)) (by rfl) T.g__law_is_whole T.F__law_is_whole.kp T.b__law_is_whole .nil pass0 (pa_cons (pe_ix ix_list (pv 4) pe_int (fun _ _ => rfl)) (pa_cons pe_int (pa_cons pe_int pa_nil)))))) (pw_or1 (pt_not (pt_chain op_le op_le (pv 6) (pe_op op_add (pv 8) (pe_ix ix_list (pv 4) pe_int (fun _ _ => rfl))) (pv 7)))))) (pss_one (ps_ret (pe_op op_add (pv 2) pe_int))) pss_nil)
      (pss_cons (ps_if (PW.pt (pw_or (pt_not (pt_val (pe_call (ok_law_is_whole T) (hr.mono (by decide)) (by rfl) T.g__law_is_whole T.F__law_is_whole.kp T.b__law_is_whole .nil pass0 (pa_cons (pe_ix ix_list (pv 4) pe_int (fun _ _ => rfl)) (pa_cons pe_int (pa_cons (pe_op op_sub (pe_callB (call_len_seq) (by rfl) T.z_len (by decide +kernel) (pa_cons (pe_ix ix_tup (pv 0) pe_int (fun _ _ => rfl)) pa_nil)) pe_int) pa_nil)))))) (pw_or1 (PW.pt (pw_and (pt_cmpR op_notN (pv 3) pe_non (nomark _)) (pw_and1 (pt_cmpR op_ne (pe_ix ix_list (pv 4) pe_int (fun _ _ => rfl)) (pe_ix ix_tup (pv 3) pe_int (fun _ _ => rfl)) (nomark _)))))))) (pss_one (ps_ret (pe_op op_add (pv 2) pe_int))) pss_nil)
      (pss_cons (ps_if (pt_not (pt_val (pe_call (ok_law_is_whole T) (hr.mono (by decide)) (by rfl) T.g__law_is_whole T.F__law_is_whole.kp T.b__law_is_whole .nil pass0 (pa_cons (pe_ix ix_list (pv 4) pe_int (fun _ _ => rfl)) (pa_cons pe_int (pa_cons pe_int pa_nil)))))) (pss_one (ps_ret (pe_op op_add (pv 2) pe_int))) pss_nil)
      (pss_cons (ps_par3 (i := 9) (j := 10) (l := 11) (by rfl) sc_law_block_read.nd rfl rfl rfl (by decide) (by decide) (by decide) rfl rfl rfl (pa_cons (pe_ix ix_list (pv 4) pe_int (fun _ _ => rfl)) (pa_cons (pe_lst pa_nil) (pa_cons (pe_op op_add (pv 2) pe_int) pa_nil))) (by rfl))
      (pss_cons (ps_while PassesOwn.never (pt_cmpR op_lt (pe_callB (call_len_seq) (by rfl) T.z_len (by decide +kernel) (pa_cons (pv 10) pa_nil)) (pv 9) (nomark _)) (pss_cons (ps_set (i := 12) sc_law_block_read.nd rfl (Or.inl rfl) (pe_ifExp (pt_cmpR op_lt (pv 11) (pe_callB (call_len_seq) (by rfl) T.z_len (by decide +kernel) (pa_cons (pv 1) pa_nil)) (nomark _)) (pe_ix ix_tup (pv 1) (pv 11) (fun _ _ => rfl)) pe_non))
      (pss_cons (ps_if (PW.pt (pw_or (pt_not (pt_val (pe_call (ok_law_is_whole T) (hr.mono (by decide)) (by rfl) T.g__law_is_whole T.F__law_is_whole.kp T.b__law_is_whole .nil pass0 (pa_cons (pv 12) (pa_cons pe_int (pa_cons pe_int pa_nil)))))) (pw_or1 (pt_cmpR op_ge (pe_op op_modN (pv 12) pe_int) (pe_callB (call_len_seq) (by rfl) T.z_len (by decide +kernel) (pa_cons (pe_ix ix_tup (pv 0) pe_int (fun _ _ => rfl)) pa_nil)) (nomark _))))) (pss_one (ps_ret (pv 11))) pss_nil)
      (pss_cons (ps_if (pt_cmpR op_ge (pe_op op_fdivN (pv 12) pe_int) (pe_ifExp (pt_cmpR op_lt (pe_op op_add (pe_callB (call_len_seq) (by rfl) T.z_len (by decide +kernel) (pa_cons (pv 10) pa_nil)) pe_int) (pv 9) (nomark _)) (pe_callB (call_len_seq) (by rfl) T.z_len (by decide +kernel) (pa_cons (pe_ix ix_tup (pv 0) pe_int (fun _ _ => rfl)) pa_nil)) pe_int) (nomark _)) (pss_one (ps_ret (pv 11))) pss_nil)
      (pss_one (ps_par (i := 10) (j := 11) (by rfl) sc_law_block_read.nd rfl rfl (by decide) rfl rfl (pa_cons (pe_op op_cat (pv 10) (pe_lst (pa_cons (pe_op op_modN (pv 12) pe_int) (pa_cons (pe_op op_fdivN (pv 12) pe_int) pa_nil)))) (pa_cons (pe_op op_add (pv 11) pe_int) pa_nil)) (by rfl)))))))
      (pss_cons (ps_if (PW.pt (pw_or (pt_cmpR op_eq (pv 11) (pe_callB (call_len_seq) (by rfl) T.z_len (by decide +kernel) (pa_cons (pv 1) pa_nil)) (nomark _)) (pw_or1 (pt_not (pt_val (pe_call (ok_law_is_whole T) (hr.mono (by decide)) (by rfl) T.g__law_is_whole T.F__law_is_whole.kp T.b__law_is_whole .nil pass0 (pa_cons (pe_ix ix_tup (pv 1) (pv 11) (fun _ _ => rfl)) (pa_cons pe_int (pa_cons pe_int pa_nil))))))))) (pss_one (ps_ret (pv 11))) pss_nil)
      (pss_cons (ps_if (pt_cmpR op_ne (pe_ix ix_tup (pv 1) (pv 11) (fun _ _ => rfl)) (pe_op op_modN (pe_callB ((My.cr_sumT rfl)) (by rfl) T.z_sum (by decide +kernel) (pa_cons (pe_slice sl_tupA (pv 1) (po_some (pe_op op_add (pv 2) pe_int)) (po_some (pv 11))) pa_nil)) pe_int) (nomark _)) (pss_one (ps_ret (pv 11))) pss_nil)
      (pss_one (ps_ret (pe_tup (pa_cons (pe_op op_add (pv 11) pe_int) (pa_cons (pe_tup (pa_cons (pe_op op_add (pv 8) (pe_ix ix_list (pv 4) pe_int (fun _ _ => rfl))) (pa_cons (pe_ix ix_list (pv 4) pe_int (fun _ _ => rfl)) pa_nil))) (pa_cons (pe_callTy call_tuple_of (by rfl) T.z_tuple (by decide +kernel) (pa_cons (pe_slice sl_list (pv 10) po_none (po_some (pv 9))) pa_nil)) pa_nil)))))))))))))))))))
, ?_⟩
    refine ⟨_, rfl, _, rfl, (b : Int), rfl, ?_⟩
    dsimp only [tNoPart]
    refine sl_dropV (n := b) ha (by omega) fun t0 H1 s1 ht0 => ?_
    dsimp only [tNil]
    refine ⟨t0, _, rfl, .inr ht0, fun L0 hL0 => ?_⟩
    have z0 := same_new (o := .lst (xs.drop b)) hL0
    have l0 : upd H1 L0 (.lst (xs.drop b)) L0 = some (.lst (xs.drop b)) := upd_same
    generalize upd H1 L0 (.lst (xs.drop b)) = H2 at z0 l0
    refine ⟨by show 1 ≤ sizeLine; decide, fun L1 hL1 => ?_⟩
    have z1 := same_new (o := .lst [V.non]) hL1
    have l1 : upd H2 L1 (.lst [V.non]) L1 = some (.lst [V.non]) := upd_same
    generalize upd H2 L1 (.lst [V.non]) = H3 at z1 l1
    refine ⟨L1, 6, _, rfl, rfl, l1, by decide, by decide, by show 1 * 6 ≤ sizeLine; decide, fun L2 hL2 => ?_⟩
    have z2 := same_new (o := .lst (List.replicate (6 : Int).toNat [V.non]).flatten) hL2
    have l2 : upd H3 L2 (.lst (List.replicate (6 : Int).toNat [V.non]).flatten) L2 = some (.lst (List.replicate 6 V.non)) := upd_same
    generalize upd H3 L2 (.lst (List.replicate (6 : Int).toNat [V.non]).flatten) = H4 at z2 l2
    refine ⟨L0, L2, _, _, rfl, rfl, (z1.trans z2) _ _ l0, l2, ?_, fun R hR => ?_⟩
    · rw [List.length_drop, List.length_replicate]
      exact Nat.le_trans (show xs.length - b + 6 ≤ 60000 by omega) (by decide)
    have z3 := same_new (o := .lst (xs.drop b ++ List.replicate 6 V.non)) hR
    have lR : upd H4 R (.lst (xs.drop b ++ List.replicate 6 V.non)) R = some (.lst (xs.drop b ++ List.replicate 6 V.non)) := upd_same
    generalize upd H4 R (.lst (xs.drop b ++ List.replicate 6 V.non)) = H5 at z3 lR
    have s5 := (((s1.trans z0).trans z1).trans z2).trans z3
    clear z0 z1 z2 z3 l0 l1 l2 hL0 hL1 hL2 hR ht0 s1
    -- the mark
    refine ⟨2, rfl, by decide, by decide, ?_⟩
    refine for_range (lo := 0) (n := 2) (fun k σ H' => ∃ y5, σ = [some (.ref ca), some (.ref a), some (.int (b : Int)), some kv, some (.ref R), y5, none, none, none, none, none, none, none] ∧ Same H5 H' ∧
      (1 ≤ k → ∃ z, need ds b (fun z => decide (z = 165)) = .ok z) ∧ (2 ≤ k → ∃ z, need ds (b + 1) (fun z => decide (z = 90)) = .ok z)) ⟨none, rfl, Same.refl _, fun h => by omega, fun h => by omega⟩ ?_ ?_
    · rintro k σ H6 hk ⟨y5, rfl, s6, m1', m2'⟩
      have s56 := s5.trans s6
      obtain ⟨v, hv, hdv⟩ := rest_at (diAll_same s56 hd) b k (by omega)
      obtain ⟨zm, hzm, hm1, hm2⟩ : ∃ zm : Int, [V.int 165, V.int 90][k]? = some (.int zm) ∧ (k = 0 → zm = 165) ∧ (k = 1 → zm = 90) := by
        obtain rfl | rfl : k = 0 ∨ k = 1 := by omega
        · exact ⟨165, rfl, fun _ => rfl, (fun h => absurd h (by decide))⟩
        · exact ⟨90, rfl, (fun h => absurd h (by decide)), fun _ => rfl⟩
      have e0 : (0 : Int) + (k : Int) = (k : Int) := by omega
      rw [e0]
      refine ⟨_, rfl, _, rfl, R, _, _, v, rfl, rfl, SqL.of (s6 _ _ lR), atI_nat hv, ?_⟩
      refine ⟨by show 2 ≤ sizeLine; decide, fun T1 h_T1 => ?_⟩
      have s_T1 := same_new (o := .tup [.int 165, .int 90]) h_T1
      have t_T1 : SqT K (upd H6 T1 (.tup [.int 165, .int 90])) T1 [.int 165, .int 90] := upd_tup
      generalize upd H6 T1 (.tup [.int 165, .int 90]) = H7 at s_T1 t_T1
      clear h_T1
      refine ⟨_, rfl, T1, _, _, _, rfl, rfl, t_T1, atI_nat hzm, ?_⟩
      refine ⟨by show 2 ≤ sizeLine; decide, fun T2 h_T2 => ?_⟩
      have s_T2 := same_new (o := .tup [.int 165, .int 90]) h_T2
      have t_T2 : SqT K (upd H7 T2 (.tup [.int 165, .int 90])) T2 [.int 165, .int 90] := upd_tup
      generalize upd H7 T2 (.tup [.int 165, .int 90]) = H8 at s_T2 t_T2
      clear h_T2
      refine ⟨_, rfl, T2, _, _, _, rfl, rfl, t_T2, atI_nat hzm, ?_⟩
      have s68 := s_T1.trans s_T2
      refine ⟨v, _, zm, zm, rfl, hdv.same s68, fun H9 s9 => ⟨_, rfl, ?_⟩⟩
      have s69 := s6.trans (s68.trans s9)
      have hzb : 0 ≤ zm ∧ zm ≤ 255 := by
        obtain rfl | rfl : k = 0 ∨ k = 1 := by omega
        · rw [hm1 rfl]; decide
        · rw [hm2 rfl]; decide
      cases hb2 : btw ((ds[b + k]?).getD .none) zm zm with
      | true =>
        refine iteF ?_
        obtain ⟨z, e, za, zb, zc, zd⟩ := btw_in_byte hb2 hzb.1 hzb.2
        have hok : need ds (b + k) (fun z => decide (z = zm)) = .ok z := by rw [need_gd_at e zc zd, if_pos (decide_eq_true (by omega))]
        refine ⟨_, rfl, s69, fun _ => ?_, fun h => ?_⟩
        · obtain rfl | rfl : k = 0 ∨ k = 1 := by omega
          · rw [hm1 rfl] at hok
            exact ⟨_, hok⟩
          · exact m1' (by decide)
        · obtain rfl : k = 1 := by omega
          rw [hm2 rfl] at hok
          exact ⟨_, hok⟩
      | false =>
        refine iteT ?_
        have he : need ds (b + k) (fun z => decide (z = zm)) = .error (b + k) := need_nar hb2 fun z _ _ h => by have := of_decide_eq_true h; omega
        refine ⟨_, rfl, _, rfl, _, _, rfl, rfl, ?_⟩
        refine q2 (b + k) ?_ _ (s5.trans s69)
        unfold blkR
        obtain rfl | rfl : k = 0 ∨ k = 1 := by omega
        · rw [hm1 rfl, Nat.add_zero] at he
          rw [he]
          rfl
        · rw [hm2 rfl] at he
          obtain ⟨z0, hz0⟩ := m1' (by decide)
          rw [hz0]
          dsimp only
          rw [he]
    · rintro σ H6 ⟨y5, rfl, s6, m1', m2'⟩
      obtain ⟨z0, hz0⟩ := m1' (by decide)
      obtain ⟨z1, hz1⟩ := m2' (by decide)
      have B0 : blkR C ds b kn = match stR C ds (b + 2) kn with
        | .error e => .error e
        | .ok s => match need ds (b + 5) (fun n => decide (1 ≤ n)) with
          | .error e => .error e
          | .ok n => match cdsTo ds (b + 6) C.moves.length n.toNat ((n.toNat + 1) / 2) with
            | .error e => .error e
            | .ok r => match need ds (b + 6 + (n.toNat + 1) / 2) (fun t => decide (t = sumIn ds (b + 2) (b + 6 + (n.toNat + 1) / 2) % 256)) with
              | .error e => .error e
              | .ok _ => .ok (s, r.take n.toNat, b + 6 + (n.toNat + 1) / 2 + 1) := by
        unfold blkR
        rw [hz0]
        dsimp only [tNext]
        rw [hz1]
        try rfl
      have s06 := s5.trans s6
      have lR := s6 _ _ lR
      have hd := diAll_same s06 hd
      have hca := same_tup s06 hca
      have hcs := same_tup s06 hcs
      have hcm := same_tup s06 hcm
      have ha := same_tup s06 ha
      have hkv := knv_same hkv s06
      obtain ⟨v2, h2, d2⟩ := rest_at hd b 2 (by decide)
      obtain ⟨v3, h3, d3⟩ := rest_at hd b 3 (by decide)
      obtain ⟨v4, h4, d4⟩ := rest_at hd b 4 (by decide)
      obtain ⟨v5, h5, d5⟩ := rest_at hd b 5 (by decide)
      dsimp only
      refine st_tail (fun σ H' => σ = [some (.ref ca), some (.ref a), some (.int (b : Int)), some kv, some (.ref R), y5, some (.int (kLo C kn)), some (.int (kHi C kn)), none, none, none, none, none] ∧ Same H6 H') ?_ fun tail => ?_
      · rintro σ H7 ⟨rfl, a7⟩
        refine ⟨_, rfl, R, _, 2, v2, rfl, rfl, SqL.of (a7 _ _ lR), atI_nat (j := 2) h2, v2, _, 0, 255, rfl, (d2.same a7), fun H8 x2 => ⟨_, rfl, ?_⟩⟩
        have a8 := a7.trans x2
        cases b2 : btw ((ds[b + 2]?).getD .none) 0 255 with
        | false =>
          refine iteT ?_
          exact ⟨_, rfl, _, _, rfl, rfl, q2 (b + 2) (by rw [B0]; unfold stR; rw [need_gd_bad b2]) _ (s06.trans a8)⟩
        | true =>
        refine iteF ?_
        obtain ⟨g, eg, g0, g1⟩ := btw_byte b2
        rw [eg] at d2
        obtain rfl := d2.int
        have etop : 256 * (g - 256 * g.fdiv 128) = bse g := by
          rw [fdp _ (by decide)]
          unfold bse
          split <;> omega
        refine ⟨_, rfl, R, _, 2, _, rfl, rfl, SqL.of (a8 _ _ lR), atI_nat (j := 2) h2, _, rfl, R, _, 2, _, rfl, rfl, SqL.of (a8 _ _ lR), atI_nat (j := 2) h2, g, 128, rfl, rfl, ⟨by decide, by decide⟩, _, _, rfl, rfl, .inl ⟨by decide, by decide⟩, _, _, rfl, rfl, _, _, rfl, rfl, .inl ⟨by decide, by decide⟩, ?_⟩
        refine ⟨_, rfl, _, rfl, bse g, kHi C kn, by rw [← etop], rfl, _, rfl, ?_⟩
        have hg2 : need ds (b + 2) (fun g => !(decide (kHi C kn < bse g) || decide (bse g + 255 < kLo C kn))) = if (!(decide (kHi C kn < bse g) || decide (bse g + 255 < kLo C kn))) = true then .ok g else .error (b + 2) := need_gd_at eg g0 g1
        have r2 : (!(decide (kHi C kn < bse g) || decide (bse g + 255 < kLo C kn))) = false → ∀ H', Same H6 H' → Q (.int ((b + 2 : Nat) : Int)) H' := fun hb H' s' => q2 (b + 2) (by rw [B0]; unfold stR; rw [hg2, if_neg (by rw [hb]; exact Bool.false_ne_true)]) _ (s06.trans s')
        by_cases b1 : kHi C kn < bse g
        · refine ifYes' (decide_eq_true b1) (ifYes' rfl ?_)
          exact ⟨_, rfl, _, _, rfl, rfl, r2 (by rw [decide_eq_true b1]; rfl) _ a8⟩
        refine ifNo' (decide_eq_false b1) ?_
        refine ⟨_, rfl, bse g, 255, by rw [← etop], rfl, _, rfl, _, _, rfl, rfl, _, rfl, ?_⟩
        by_cases b3 : bse g + 255 < kLo C kn
        · refine ifYes' (decide_eq_true b3) ?_
          exact ⟨_, rfl, _, _, rfl, rfl, r2 (by rw [decide_eq_true b3, Bool.or_true]; rfl) _ a8⟩
        refine ifNo' (decide_eq_false b3) ?_
        rw [if_pos (by rw [decide_eq_false b1, decide_eq_false b3]; rfl)] at hg2
        clear r2
        refine ⟨_, rfl, R, _, 3, v3, rfl, rfl, SqL.of (a8 _ _ lR), atI_nat (j := 3) h3, v3, _, 0, 255, rfl, d3.same a8, fun H9 x3 => ⟨_, rfl, ?_⟩⟩
        have a9 := a8.trans x3
        have r3 : ∀ {p}, p = (fun l => decide (kLo C kn ≤ bse g + l) && decide (bse g + l ≤ kHi C kn)) → need ds (b + 3) p = .error (b + 3) → ∀ H', Same H6 H' → Q (.int ((b + 3 : Nat) : Int)) H' := fun hp he H' s' => by
          subst hp
          exact q2 (b + 3) (by rw [B0]; unfold stR; rw [hg2]; dsimp only; rw [he]) _ (s06.trans s')
        cases b4 : btw ((ds[b + 3]?).getD .none) 0 255 with
        | false =>
          refine ifYes' rfl (ifYes' rfl ?_)
          exact ⟨_, rfl, _, _, rfl, rfl, r3 rfl (need_gd_bad b4) _ a9⟩
        | true =>
        refine ifNo' rfl ?_
        obtain ⟨l, el, l0, l1⟩ := btw_byte b4
        rw [el] at d3
        obtain rfl := d3.int
        have hl2 : need ds (b + 3) (fun l => decide (kLo C kn ≤ bse g + l) && decide (bse g + l ≤ kHi C kn)) = if (decide (kLo C kn ≤ bse g + l) && decide (bse g + l ≤ kHi C kn)) = true then .ok l else .error (b + 3) := need_gd_at el l0 l1
        refine ⟨_, rfl, _, rfl, _, rfl, R, _, 3, _, rfl, rfl, SqL.of (a9 _ _ lR), atI_nat (j := 3) h3, bse g, l, by rw [← etop], rfl, kLo C kn, bse g + l, rfl, rfl, _, rfl, ?_⟩
        by_cases b5 : kLo C kn ≤ bse g + l
        case neg =>
          refine ifNo' (decide_eq_false b5) ?_
          refine ⟨_, rfl, ifYes' rfl ?_⟩
          exact ⟨_, rfl, _, _, rfl, rfl, r3 rfl (by rw [hl2, if_neg (by rw [decide_eq_false b5]; exact Bool.false_ne_true)]) _ a9⟩
        refine ifYes' (decide_eq_true b5) ?_
        refine ⟨_, rfl, bse g + l, kHi C kn, rfl, rfl, _, rfl, ?_⟩
        by_cases b6 : bse g + l ≤ kHi C kn
        case neg =>
          refine ifYes' (by rw [decide_eq_false b6]; rfl) ?_
          exact ⟨_, rfl, _, _, rfl, rfl, r3 rfl (by rw [hl2, if_neg (by rw [decide_eq_false b6, Bool.and_false]; exact Bool.false_ne_true)]) _ a9⟩
        refine ifNo' (by rw [decide_eq_true b6]; rfl) ?_
        rw [if_pos (by rw [decide_eq_true b5, decide_eq_true b6]; rfl)] at hl2
        clear r3
        -- the place
        dsimp only [tNext]
        refine st_tail (fun σ H' => σ = [some (.ref ca), some (.ref a), some (.int (b : Int)), some kv, some (.ref R), y5, some (.int (kLo C kn)), some (.int (kHi C kn)), some (.int (bse g)), none, none, none, none] ∧ Same H9 H' ∧ ∃ p, v4 = .int p ∧ stR C ds (b + 2) kn = .ok (bse g + l, p)) ?_ fun tail4 => ?_
        · rintro σ H10 ⟨rfl, x4, p, rfl, hst⟩
          have a10 := a9.trans x4
          refine ⟨_, rfl, R, _, 5, v5, rfl, rfl, SqL.of (a10 _ _ lR), atI_nat (j := 5) h5, v5, _, 1, 255, rfl, d5.same a10, fun H11 x5 => ⟨_, rfl, ?_⟩⟩
          have a11 := a10.trans x5
          cases b8 : btw ((ds[b + 5]?).getD .none) 1 255 with
          | false =>
            refine ifYes' rfl ?_
            have he : need ds (b + 5) (fun n => decide (1 ≤ n)) = .error (b + 5) := need_nar b8 fun z _ hz h => ⟨of_decide_eq_true h, hz⟩
            exact ⟨_, rfl, _, _, rfl, rfl, q2 (b + 5) (by rw [B0, hst]; dsimp only; rw [he]) _ (s06.trans a11)⟩
          | true =>
          refine ifNo' rfl ?_
          obtain ⟨n, en, n0, n1', _, _⟩ := btw_in_byte b8 (by decide) (by decide)
          rw [en] at d5
          obtain rfl := d5.int
          have hn : need ds (b + 5) (fun n => decide (1 ≤ n)) = .ok n := by rw [need_gd_at en (by omega) n1', if_pos (decide_eq_true n0)]
          obtain ⟨nn, rfl⟩ : ∃ nn : Nat, n = (nn : Int) := ⟨n.toNat, by omega⟩
          refine ⟨_, rfl, R, _, 5, _, rfl, rfl, SqL.of (a11 _ _ lR), atI_nat (j := 5) h5, by show 0 ≤ sizeLine; decide, fun R0 hR0 => ?_⟩
          have x6 := same_new (o := .lst []) hR0
          have a12 := a11.trans x6
          have l0 : upd H11 R0 (.lst []) R0 = some (.lst []) := upd_same
          generalize upd H11 R0 (.lst []) = H12 at x6 a12 l0
          refine ⟨_, rfl, _, _, rfl, rfl, ?_⟩
          dsimp only [tNil]
          refine ⟨_, _, _, rfl, ?_⟩
          have cR : ∀ k e, cdsTo ds (b + 6) C.moves.length nn k = .error e → k ≤ (nn + 1) / 2 → ∀ H', Same H6 H' → Q (.int (e : Int)) H' := fun k e he hk H' s' => by
            refine q2 e ?_ _ (s06.trans s')
            rw [B0, hst]
            dsimp only
            rw [hn]
            dsimp only
            rw [Int.toNat_natCast, show (nn + 1) / 2 = k + ((nn + 1) / 2 - k) by omega, cds_stay he]
          refine ⟨fun μ σ H' => ∃ (RA : Addr) (r : List Nat) (j : Nat) (y12 : Option V), σ = [some (.ref ca), some (.ref a), some (.int (b : Int)), some kv, some (.ref R), y5, some (.int (kLo C kn)), some (.int (kHi C kn)), some (.int (bse g)), some (.int (nn : Int)), some (.ref RA), some (.int ((b + 6 + j : Nat) : Int)), y12] ∧ Same H6 H' ∧ H' RA = some (.lst (rowV r)) ∧
            cdsTo ds (b + 6) C.moves.length nn j = .ok r ∧ j ≤ (nn + 1) / 2 ∧ μ = (nn + 1) / 2 - j, ⟨_, _, [], 0, none, by rw [← etop]; rfl, a12, l0, rfl, Nat.zero_le _, rfl⟩, ?_⟩
          rintro μ σ H13 ⟨RA, r, j, y12, rfl, s13, hRA, hr, hj, rfl⟩
          obtain ⟨hrl, hend, hby⟩ := cds_len hr
          have hul : (rowV r).length = 2 * j := by unfold rowV; rw [List.length_map, hrl]
          refine ⟨_, rfl, RA, _, rfl, .inl (SqL.of hRA), _, rfl, _, _, rfl, rfl, _, rfl, ?_⟩
          rw [hul]
          by_cases hjn : 2 * j < nn
          · refine ifYes' (decide_eq_true (by omega)) ?_
            refine ⟨fun σ' H' => ∃ m', m' < (nn + 1) / 2 - j ∧ _, fun σ' H' h => h, ?_⟩
            refine st_tail (fun σ H' => ∃ v, σ = [some (.ref ca), some (.ref a), some (.int (b : Int)), some kv, some (.ref R), y5, some (.int (kLo C kn)), some (.int (kHi C kn)), some (.int (bse g)), some (.int (nn : Int)), some (.ref RA), some (.int ((b + 6 + j : Nat) : Int)), some v] ∧ H' = H13 ∧ Di K H13 v ((ds[b + 6 + j]?).getD .none)) ?_ fun tail => ?_
            · rintro σ H' ⟨v, rfl, rfl, dv⟩
              refine ⟨_, rfl, v, _, 0, 255, rfl, dv, fun H14 s14 => ⟨_, rfl, ?_⟩⟩
              have s6' := s13.trans s14
              have eb : ∀ e, need ds (b + 6 + j) (cdOk C.moves.length nn j) = .error e → ∀ H', Same H6 H' → Q (.int ((b + 6 + j : Nat) : Int)) H' := fun e he H' s' => by
                have := need_err he
                subst this
                exact cR (j + 1) _ (cds_err hr he) (by omega) _ s'
              cases bt : btw ((ds[b + 6 + j]?).getD .none) 0 255 with
              | false =>
                refine ifYes' rfl (ifYes' rfl ?_)
                exact ⟨_, rfl, eb _ (need_gd_bad bt) _ s6'⟩
              | true =>
              refine ifNo' rfl ?_
              obtain ⟨z, ez, z0', z1'⟩ := btw_byte bt
              rw [ez] at dv
              obtain rfl := dv.int
              have hz := need_gd_at (p := cdOk C.moves.length nn j) ez z0' z1'
              have e1 : Int.fmod z 16 = z % 16 := fmp _ (by decide)
              have e2 : Int.fdiv z 16 = z / 16 := fdp _ (by decide)
              have hRA14 := s14 _ _ hRA
              refine ⟨_, rfl, _, 16, rfl, rfl, sixteen, _, rfl, ca, _, 3, _, rfl, rfl, same_tup s6' hca, atI_nat (j := 3) rfl, cm, ms, rfl, .inr (same_tup s6' hcm), _, _, rfl, rfl, _, rfl, ?_⟩
              rw [e1, hml]
              by_cases c1 : (C.moves.length : Int) ≤ z % 16
              · refine ifYes' (decide_eq_true c1) ?_
                exact ⟨_, rfl, eb (b + 6 + j) (by rw [hz, if_neg (by unfold cdOk; rw [decide_eq_false (by omega), Bool.false_and]; exact Bool.false_ne_true)]) _ s6'⟩
              refine ifNo' (decide_eq_false c1) ?_
              dsimp only [tNext]
              refine st_tail (fun σ H' => σ = [some (.ref ca), some (.ref a), some (.int (b : Int)), some kv, some (.ref R), y5, some (.int (kLo C kn)), some (.int (kHi C kn)), some (.int (bse g)), some (.int (nn : Int)), some (.ref RA), some (.int ((b + 6 + j : Nat) : Int)), some (.int z)] ∧ H' = H14 ∧ cdOk C.moves.length nn j z = true) ?_ fun tail2 => ?_
              · rintro σ H' ⟨rfl, rfl, ck⟩
                rw [if_pos ck] at hz
                refine ⟨_, rfl, _, rfl, _, 16, rfl, rfl, sixteen, _, rfl, _, 16, rfl, rfl, ⟨sixteen, by show (16 : Int).natAbs < 1073741824; decide⟩, ?_⟩
                refine ⟨by show 2 ≤ sizeLine; decide, fun L1 h_L1 => ?_⟩
                have s_L1 := same_new (o := .lst [.int (z.fmod 16), .int (z.fdiv 16)]) h_L1
                have l_L1 : (upd H' L1 (.lst [.int (z.fmod 16), .int (z.fdiv 16)])) L1 = some (.lst [.int (z.fmod 16), .int (z.fdiv 16)]) := upd_same
                generalize upd H' L1 (.lst [.int (z.fmod 16), .int (z.fdiv 16)]) = H15 at s_L1 l_L1
                clear h_L1
                refine ⟨RA, L1, _, _, rfl, rfl, s_L1 _ _ hRA14, l_L1, Nat.le_trans (show (rowV r).length + 2 ≤ 1000 by omega) (by decide), fun RB hRB => ?_⟩
                have sB := same_new (o := .lst (rowV r ++ [V.int (z.fmod 16), V.int (z.fdiv 16)])) hRB
                refine ⟨_, rfl, _, _, rfl, rfl, ?_⟩
                dsimp only [tNil]
                refine ⟨_, _, rfl, ?_⟩
                refine ⟨_, ?_, RB, r ++ [(z % 16).toNat, (z / 16).toNat], j + 1, _, rfl, (s6'.trans s_L1).trans sB, ?_, cds_ok hr hz, by omega, rfl⟩
                · omega
                · rw [upd_same, rowV_app]
                  show some (HO.lst (rowV r ++ [V.int (z.fmod 16), V.int (z.fdiv 16)])) = some (HO.lst (rowV r ++ [V.int (((z % 16).toNat : Nat) : Int), V.int (((z / 16).toNat : Nat) : Int)]))
                  rw [e1, e2, show (((z % 16).toNat : Nat) : Int) = z % 16 by omega, show (((z / 16).toNat : Nat) : Int) = z / 16 by omega]
              · refine ⟨_, rfl, _, 16, rfl, rfl, ⟨sixteen, by show (16 : Int).natAbs < 1073741824; decide⟩, _, rfl, RA, _, rfl, .inl (SqL.of hRA14), _, _, rfl, rfl, _, rfl, _, _, rfl, rfl, _, rfl, ?_⟩
                rw [hul]
                by_cases c2 : 2 * j + 2 ≤ nn
                · refine ifYes' (decide_eq_true (by omega)) ?_
                  refine ⟨_, rfl, ca, _, 3, _, rfl, rfl, same_tup s6' hca, atI_nat (j := 3) rfl, cm, ms, rfl, .inr (same_tup s6' hcm), _, _, rfl, rfl, _, rfl, ?_⟩
                  rw [e2, hml]
                  by_cases c3 : (C.moves.length : Int) ≤ z / 16
                  · refine ifYes' (decide_eq_true c3) ?_
                    exact ⟨_, rfl, eb (b + 6 + j) (by rw [hz, if_neg (by unfold cdOk; rw [if_pos c2, decide_eq_false (p := z / 16 < (C.moves.length : Int)) (by omega), Bool.and_false]; exact Bool.false_ne_true)]) _ s6'⟩
                  · refine ifNo' (decide_eq_false c3) ?_
                    refine tail2 _ _ ⟨rfl, rfl, ?_⟩
                    unfold cdOk
                    rw [if_pos c2, decide_eq_true (p := z / 16 < (C.moves.length : Int)) (by omega), decide_eq_true (p := z % 16 < (C.moves.length : Int)) (by omega)]
                    rfl
                · refine ifNo' (decide_eq_false (by omega)) ?_
                  refine ⟨_, _, rfl, rfl, _, rfl, ?_⟩
                  rw [e2]
                  by_cases c3 : 1 ≤ z / 16
                  · refine ifYes' (decide_eq_true c3) ?_
                    exact ⟨_, rfl, eb (b + 6 + j) (by rw [hz, if_neg (by unfold cdOk; rw [if_neg c2, decide_eq_false (p := z / 16 < 1) (by omega), Bool.and_false]; exact Bool.false_ne_true)]) _ s6'⟩
                  · refine ifNo' (decide_eq_false c3) ?_
                    refine tail2 _ _ ⟨rfl, rfl, ?_⟩
                    unfold cdOk
                    rw [if_neg c2, decide_eq_true (p := z / 16 < 1) (by omega), decide_eq_true (p := z % 16 < (C.moves.length : Int)) (by omega)]
                    rfl
            · refine ⟨_, rfl, _, rfl, a, xs, rfl, .inr (same_tup s13 ha), _, _, rfl, rfl, _, rfl, ?_⟩
              by_cases hin : b + 6 + j < xs.length
              · refine ifYes' (decide_eq_true (by omega)) ?_
                have hx : xs[b + 6 + j]? = some xs[b + 6 + j] := List.getElem?_eq_getElem hin
                generalize xs[b + 6 + j] = x at hx
                obtain ⟨d, hdd, hdx⟩ := diAll_get (diAll_same s13 hd) hx
                refine ⟨_, rfl, _, rfl, a, xs, _, x, rfl, rfl, same_tup s13 ha, atI_nat hx, ?_⟩
                exact tail _ _ ⟨x, rfl, rfl, by rw [hdd]; exact hdx⟩
              · refine ifNo' (decide_eq_false (by omega)) ?_
                exact tail _ _ ⟨.non, rfl, rfl, by rw [List.getElem?_eq_none (by omega)]; exact .fl rfl .non⟩
          · refine ifNo' (decide_eq_false (by omega)) ?_
            obtain rfl : j = (nn + 1) / 2 := by omega
            obtain ⟨x, hx0⟩ : ∃ x, x = 0 := ⟨0, rfl⟩
            have s613 := s06.trans s13
            have hd13 := diAll_same s13 hd
            have hlt : b + 6 + (nn + 1) / 2 ≤ ds.length := hend (by omega)
            have lastE : ∀ {p}, p = (fun t => decide (t = sumIn ds (b + 2) (b + 6 + (nn + 1) / 2) % 256)) → need ds (b + 6 + (nn + 1) / 2) p = .error (b + 6 + (nn + 1) / 2) → ∀ H', Same H6 H' → Q (.int ((b + 6 + (nn + 1) / 2 : Nat) : Int)) H' := fun hp he H' s' => by
              subst hp
              exact q2 _ (by rw [B0, hst]; dsimp only; rw [hn]; dsimp only; rw [Int.toNat_natCast, hr]; dsimp only; rw [he]) _ (s06.trans s')
            refine ⟨_, rfl, _, rfl, a, xs, rfl, .inr (same_tup s13 ha), rfl, _, rfl, ?_⟩
            by_cases hin : b + 6 + (nn + 1) / 2 = xs.length
            · refine ifYes' (decide_eq_true (by rw [hin])) (ifYes' rfl ?_)
              exact ⟨_, rfl, lastE rfl (need_out (by omega)) _ s13⟩
            refine ifNo' (decide_eq_false fun z => hin (by have := V.int.inj z; omega)) ?_
            have hx : xs[b + 6 + (nn + 1) / 2]? = some xs[b + 6 + (nn + 1) / 2] := List.getElem?_eq_getElem (by omega)
            generalize xs[b + 6 + (nn + 1) / 2] = xv at hx
            obtain ⟨d, hdd, hdx⟩ := diAll_get hd13 hx
            refine ⟨_, rfl, _, rfl, a, xs, _, xv, rfl, rfl, same_tup s13 ha, atI_nat hx, xv, d, 0, 255, rfl, hdx, fun H14 s14 => ⟨_, rfl, ?_⟩⟩
            have s614 := s13.trans s14
            cases bt : btw d 0 255 with
            | false =>
              refine ifYes' rfl ?_
              exact ⟨_, rfl, lastE rfl (need_bad hdd bt) _ s614⟩
            | true =>
            refine ifNo' rfl ?_
            obtain ⟨z, rfl, z0', z1'⟩ := btw_byte bt
            obtain rfl := hdx.int
            have hz := need_at (p := fun t => decide (t = sumIn ds (b + 2) (b + 6 + (nn + 1) / 2) % 256)) hdd z0' z1'
            have hn5 := (need_ok hn).1
            have hints : ∀ j, j < b + 6 + (nn + 1) / 2 - (b + 2) → ∃ z, ds[b + 2 + j]? = some (.int z) := fun j hj => by
              by_cases h1 : j < 3
              · exact stR_ints hst j h1
              · by_cases h2 : j = 3
                · subst h2; exact ⟨_, hn5⟩
                · obtain ⟨z, hz, _⟩ := hby (j - 4) (by omega)
                  exact ⟨z, by rw [show b + 2 + j = b + 6 + (j - 4) by omega]; exact hz⟩
            refine ⟨_, rfl, _, rfl, a, xs, _, _, rfl, rfl, same_tup s614 ha, atI_nat hx, ?_⟩
            refine ⟨_, rfl, _, rfl, _, _, rfl, rfl, _, rfl, _, rfl, _, rfl, ?_⟩
            refine sl_partV (lo := b + 2) (hi := b + 6 + (nn + 1) / 2) (same_tup s614 ha) (by omega) fun p5 H15 s15 hp5 => ?_
            rw [ints_in hd hints] at hp5
            refine ⟨p5, _, rfl, hp5, _, 256, rfl, rfl, by show (256 : Int) ≠ 0; decide, rfl, _, rfl, ?_⟩
            have esum : Int.fmod (((ds.drop (b + 2)).take (b + 6 + (nn + 1) / 2 - (b + 2))).map intOf).sum 256 = sumIn ds (b + 2) (b + 6 + (nn + 1) / 2) % 256 := fmp _ (by decide)
            have s615 := s614.trans s15
            by_cases ce : z = sumIn ds (b + 2) (b + 6 + (nn + 1) / 2) % 256
            case neg =>
              refine ifYes' (by
                show (!decide (V.int z = V.int (Int.fmod (((ds.drop (b + 2)).take (b + 6 + (nn + 1) / 2 - (b + 2))).map intOf).sum 256))) = true
                rw [esum, decide_eq_false fun h => ce (V.int.inj h)]
                rfl) ?_
              exact ⟨_, rfl, lastE rfl (by rw [hz, if_neg (by rw [decide_eq_false ce]; exact Bool.false_ne_true)]) _ s615⟩
            refine ifNo' (by
              show (!decide (V.int z = V.int (Int.fmod (((ds.drop (b + 2)).take (b + 6 + (nn + 1) / 2 - (b + 2))).map intOf).sum 256))) = false
              rw [esum, ← ce, decide_eq_true rfl]
              rfl) ?_
            rw [if_pos (decide_eq_true ce)] at hz
            refine ⟨_, rfl, _, _, rfl, rfl, _, rfl, _, rfl, R, _, 3, _, rfl, rfl, SqL.of (s615 _ _ lR), atI_nat (j := 3) h3, _, _, rfl, rfl, _, rfl, R, _, 4, _, rfl, rfl, SqL.of (s615 _ _ lR), atI_nat (j := 4) h4, ?_⟩
            refine ⟨by show 2 ≤ sizeLine; decide, fun tp h_tp => ?_⟩
            have s_tp := same_new (o := .tup [.int (bse g + l), .int p]) h_tp
            have t_tp : SqT K (upd H15 tp (.tup [.int (bse g + l), .int p])) tp [.int (bse g + l), .int p] := upd_tup
            generalize upd H15 tp (.tup [.int (bse g + l), .int p]) = H16 at s_tp t_tp
            clear h_tp
            have s1316 := (s14.trans s15).trans s_tp
            refine ⟨_, rfl, _, rfl, _, rfl, RA, _, rfl, SqL.of (s1316 _ _ hRA), fun M hM => ?_⟩
            have sM := same_new (o := .lst (cutV (rowV r) none (some (nn : Int)))) hM
            refine ⟨M, _, rfl, .inl ⟨SqL.of upd_same, fun t ht => ?_⟩⟩
            have st1 := same_new (o := .tup (cutV (rowV r) none (some (nn : Int)))) ht
            have e : cutV (rowV r) none (some (nn : Int)) = rowV (r.take nn) := by
              rw [cutL_take (by unfold rowV; rw [List.length_map]; omega)]
              unfold rowV
              rw [List.map_take]
            refine ⟨by show 3 ≤ sizeLine; decide, fun tt htt => ?_⟩
            have st2 := same_new (o := .tup [V.int (((b + 6 + (nn + 1) / 2 : Nat) : Int) + 1), .ref tp, .ref t]) htt
            refine q1 (bse g + l, p) (r.take nn) (b + 6 + (nn + 1) / 2 + 1) ?_ tt (.ref tp) (.ref t) _ (((((s06.trans s13).trans s1316).trans sM).trans st1).trans st2) upd_tup (dp_same ((sM.trans st1).trans st2) _ _ (dp_mkpair t_tp)) (dp_same st2 _ _ (dp_row (by rw [e]; exact upd_tup)))
            rw [B0, hst]
            dsimp only
            rw [hn]
            dsimp only
            rw [Int.toNat_natCast, hr]
            dsimp only
            rw [hz]
        · refine ⟨_, rfl, R, _, 4, v4, rfl, rfl, SqL.of (a9 _ _ lR), atI_nat (j := 4) h4, _, rfl, ca, _, 2, _, rfl, rfl, same_tup a9 hca, atI_nat (j := 2) rfl, cs, _, rfl, .inr (same_tup a9 hcs), _, 1, rfl, rfl, v4, _, 0, _, rfl, d4.same a9, fun H10 x4 => ⟨_, rfl, ?_⟩⟩
          have a10 := a9.trans x4
          have els : (((C.steps.map V.int).length : Nat) : Int) - 1 = (C.steps.length : Int) - 1 := by rw [List.length_map]
          have hpl : ∀ p : Int, kPl kn ≤ p → p ≤ kPh C kn → 0 ≤ p ∧ p ≤ (C.steps.length : Int) - 1 := fun p u1 u2 => by
            cases hk : kn with
            | none =>
              rw [hk] at u1 u2
              exact ⟨u1, u2⟩
            | some st =>
              obtain ⟨_, _, g3, g4⟩ := hks st hk
              rw [hk] at u1 u2
              have u1 : st.2 ≤ p := u1
              have u2 : p ≤ st.2 := u2
              omega
          have rE : need ds (b + 4) (fun p => decide (kPl kn ≤ p) && decide (p ≤ kPh C kn)) = .error (b + 4) → ∀ H', Same H6 H' → Q (.int ((b + 4 : Nat) : Int)) H' := fun he H' s' =>
            q2 (b + 4) (by rw [B0]; unfold stR; rw [hg2]; dsimp only; rw [hl2]; dsimp only; rw [he]) _ (s06.trans s')
          cases b7 : btw ((ds[b + 4]?).getD .none) 0 ((((C.steps.map V.int).length : Nat) : Int) - 1) with
          | false =>
            refine ifYes' rfl (ifYes' rfl ?_)
            rw [els] at b7
            have he : need ds (b + 4) (fun p => decide (kPl kn ≤ p) && decide (p ≤ kPh C kn)) = .error (b + 4) := need_nar b7 fun z _ _ h => by
              obtain ⟨x, y⟩ := Bool.and_eq_true_iff.mp h
              exact hpl z (of_decide_eq_true x) (of_decide_eq_true y)
            exact ⟨_, rfl, _, _, rfl, rfl, rE he _ a10⟩
          | true =>
            refine ifNo' rfl ?_
            rw [els] at b7
            obtain ⟨p, ep, p0, p1, p2, p3⟩ := btw_in_byte b7 (by decide) (by omega)
            rw [ep] at d4
            obtain rfl := d4.int
            have hp2 : need ds (b + 4) (fun p => decide (kPl kn ≤ p) && decide (p ≤ kPh C kn)) = if (decide (kPl kn ≤ p) && decide (p ≤ kPh C kn)) = true then .ok p else .error (b + 4) := need_gd_at ep p2 p3
            have hgo : (decide (kPl kn ≤ p) && decide (p ≤ kPh C kn)) = true → stR C ds (b + 2) kn = .ok (bse g + l, p) := fun hb => by
              rw [if_pos hb] at hp2
              unfold stR
              rw [hg2]
              dsimp only
              rw [hl2]
              dsimp only
              rw [hp2]
            refine ⟨_, rfl, rfl, _, rfl, ?_⟩
            cases hk : kn with
            | none =>
              rw [hk] at hkv
              obtain rfl : kv = .non := hkv
              refine ifNo' rfl (ifNo' rfl ?_)
              exact tail4 _ _ ⟨by rw [← etop, hk]; rfl, x4, p, rfl, hgo (by rw [hk]; show (decide (0 ≤ p) && decide (p ≤ (C.steps.length : Int) - 1)) = true; rw [decide_eq_true p0, decide_eq_true p1]; rfl)⟩
            | some st =>
              rw [hk] at hkv
              obtain ⟨kb, rfl, hkb⟩ := dp_pair (dp_same a10 _ _ (show Dp K H6 kv (pairI st) from hkv))
              refine ifYes' rfl ?_
              refine ⟨_, rfl, R, _, 4, _, rfl, rfl, SqL.of (a10 _ _ lR), atI_nat (j := 4) h4, _, rfl, kb, _, 1, _, rfl, rfl, hkb, atI_nat (j := 1) rfl, rfl, _, rfl, ?_⟩
              by_cases hps : p = st.2
              · refine ifNo' (by rw [hps, decide_eq_true rfl]; rfl) ?_
                exact tail4 _ _ ⟨by rw [← etop, hk]; rfl, x4, p, rfl, hgo (by rw [hk]; show (decide (st.2 ≤ p) && decide (p ≤ st.2)) = true; rw [decide_eq_true (by omega), decide_eq_true (by omega)]; rfl)⟩
              · refine ifYes' (by rw [decide_eq_false (fun h => hps (V.int.inj h))]; rfl) ?_
                exact ⟨_, rfl, _, _, rfl, rfl, rE (by
                  rw [hp2, hk]
                  show (if (decide (st.2 ≤ p) && decide (p ≤ st.2)) = true then _ else _) = _
                  rw [if_neg (fun h => by
                    obtain ⟨x, y⟩ := Bool.and_eq_true_iff.mp h
                    exact hps (Int.le_antisymm (of_decide_eq_true y) (of_decide_eq_true x)))]) _ a10⟩
      · refine ⟨_, rfl, rfl, _, rfl, ?_⟩
        cases kn with
        | none =>
          obtain rfl : kv = .non := hkv
          refine ifYes' (decide_eq_true rfl) ?_
          refine ⟨_, rfl, ca, _, 0, _, rfl, rfl, hca, atI_nat (j := 0) rfl, _, rfl, ca, _, 1, _, rfl, rfl, hca, atI_nat (j := 1) rfl, ?_⟩
          refine ⟨by show 2 ≤ sizeLine; decide, fun LH h_LH => ?_⟩
          have s_LH := same_new (o := .tup [.int C.low, .int C.high]) h_LH
          have t_LH : SqT K (upd H6 LH (.tup [.int C.low, .int C.high])) LH [.int C.low, .int C.high] := upd_tup
          generalize upd H6 LH (.tup [.int C.low, .int C.high]) = H7 at s_LH t_LH
          clear h_LH
          exact ⟨LH, _, rfl, t_LH, rfl, _, _, rfl, _, _, rfl, rfl, tail _ _ ⟨rfl, s_LH⟩⟩
        | some st =>
          obtain ⟨kb, rfl, hkb⟩ := dp_pair (show Dp K H6 kv (pairI st) from hkv)
          refine ifNo' (decide_eq_false (fun z => by cases z)) ?_
          refine ⟨_, rfl, kb, _, 0, _, rfl, rfl, hkb, atI_nat (j := 0) rfl, _, rfl, kb, _, 0, _, rfl, rfl, hkb, atI_nat (j := 0) rfl, ?_⟩
          refine ⟨by show 2 ≤ sizeLine; decide, fun LH h_LH => ?_⟩
          have s_LH := same_new (o := .tup [.int st.1, .int st.1]) h_LH
          have t_LH : SqT K (upd H6 LH (.tup [.int st.1, .int st.1])) LH [.int st.1, .int st.1] := upd_tup
          generalize upd H6 LH (.tup [.int st.1, .int st.1]) = H7 at s_LH t_LH
          clear h_LH
          exact ⟨LH, _, rfl, t_LH, rfl, _, _, rfl, _, _, rfl, rfl, tail _ _ ⟨rfl, s_LH⟩⟩
end
end My

set_option pp.maxSteps 400
set_option pp.deepTerms false
/-! a law's own reader of files -/
namespace My
open PySem PySem.Spec PyProof.Rows L2
def rdP : Except Nat ((Int × Int) × List Nat) → PyData
  | .error e => .tuple [.str "byte", .int (e : Int)]
  | .ok p => .list [.tuple [pairI p.1, rowI p.2]]
theorem sqT_ty {K : PySem.W.Frag} {H : Hp} {t : Addr} {xs : List V} (h1 : SqT K H t xs) : TyX K H (.ref t) (.type (tyN (.tuple []))) := by
  rcases h1 with (h | ⟨o, h⟩) | ⟨o, its, n, h, hc, _⟩
  · exact .base (.tup h)
  · exact .fTuple h
  · exact .kTuple h hc
section
variable {P : Program} {w : World} {K : PySem.W.Frag} {mg : Str → Option Value} {base : Heap}
def sp_law_due (K : PySem.W.Frag) : Sp := fun vs H Q _ => ∃ (c : V) (x : V) (ds : List PyData) (C : Cod), vs = [c, x] ∧ C.Ok ∧ Dp K H c C.dat ∧ Dt K H x ds ∧ ds.length ≤ 50000 ∧
  ∀ z H', Same H H' → Dp K H' z (rdP (rd C ds)) → Q z H'
set_option maxHeartbeats 4000000 in
theorem ok_law_due (T : Txt K mg) : FnOk P w K mg base CX0 5 T.f__law_due T.d__law_due ["coder", "data"] (sp_law_due K) := by
  refine T.F__law_due.ok sc_law_due (fun vs H Q E h => ?_) (fun cdv A outer s H vs Q E hr h => ?_)
  · obtain ⟨c, x, ds, C, rfl, _⟩ := h
    rfl
  · obtain ⟨c, x, ds, C, rfl, O, hc, hx, hlen, q⟩ := h
    refine ⟨_,
(pss_cons (ps_asg (pe_tup (pa_cons pe_int (pa_cons (pe_tup (pa_cons pe_int (pa_cons pe_int pa_nil))) (pa_cons pe_non (pa_cons (pe_tup pa_nil) pa_nil))))) (pg_tup (by rfl) (pgs_cons (pg_name (i := 2) sc_law_due.nd rfl (Or.inl rfl)) (pgs_cons (pg_name (i := 3) sc_law_due.nd rfl (Or.inl rfl)) (pgs_cons (pg_name (i := 4) sc_law_due.nd rfl (Or.inl rfl)) (pgs_cons (pg_name (i := 5) sc_law_due.nd rfl (Or.inl rfl)) pgs_nil))))))
      (pss_cons (ps_while PassesOwn.never (pt_cmpR op_lt (pv 2) (pe_callB (call_len_seq) (by rfl) T.z_len (by decide +kernel) (pa_cons (pv 1) pa_nil)) (nomark _)) (pss_cons (ps_set (i := 6) sc_law_due.nd rfl (Or.inl rfl) (pe_call (ok_law_block_read T) (hr.mono (by decide)) (by rfl) T.g__law_block_read T.F__law_block_read.kp T.b__law_block_read .nil pass0 (pa_cons (pv 0) (pa_cons (pv 1) (pa_cons (pv 2) (pa_cons (pv 4) pa_nil))))))
      (pss_cons (ps_if (pt_not (pt_val (pe_callB (call_isi) (by rfl) T.z_isinstance (by decide +kernel) (pa_cons (pv 6) (pa_cons (pe_bltn (v := .ty "tuple") (by rfl) T.z_tuple (by decide +kernel) rfl) pa_nil))))) (pss_one (ps_ret (pe_tup (pa_cons pe_str (pa_cons (pv 6) pa_nil))))) pss_nil)
      (pss_cons (ps_set (i := 3) sc_law_due.nd rfl (Or.inl rfl) (pe_ifExp (pt_cmpR op_isN (pv 4) pe_non (nomark _)) (pe_ix ix_tup (pv 6) pe_int (fun _ _ => rfl)) (pv 3)))
      (pss_cons (ps_par (i := 2) (j := 5) (by rfl) sc_law_due.nd rfl rfl (by decide) rfl rfl (pa_cons (pe_ix ix_tup (pv 6) pe_int (fun _ _ => rfl)) (pa_cons (pe_op op_catA (pv 5) (pe_ix ix_tup (pv 6) pe_int (fun _ _ => rfl))) pa_nil)) (by rfl))
      (pss_one (ps_set (i := 4) sc_law_due.nd rfl (Or.inl rfl) (pe_ix ix_list (pe_call (ok_law_walked T) (hr.mono (by decide)) (by rfl) T.g__law_walked T.F__law_walked.kp T.b__law_walked .nil pass0 (pa_cons (pv 0) (pa_cons (pe_ix ix_tup (pv 6) pe_int (fun _ _ => rfl)) (pa_cons (pe_ix ix_tup (pv 6) pe_int (fun _ _ => rfl)) pa_nil)))) (pe_un un_neg pe_int) (fun _ _ => rfl)))))))))
      (pss_one (ps_ret (pe_lst (pa_cons (pe_tup (pa_cons (pv 3) (pa_cons (pv 5) pa_nil))) pa_nil))))))
, ?_⟩
    refine ⟨by show 2 ≤ sizeLine; decide, fun o ho => ⟨by show 0 ≤ sizeLine; decide, fun u hu => ⟨by show 4 ≤ sizeLine; decide, fun t ht => ?_⟩⟩⟩
    have so := same_new (o := .tup [V.int 0, V.int 0]) ho
    have su := same_new (o := .tup []) hu
    have st := same_new (o := .tup [V.int 0, .ref o, .non, .ref u]) ht
    have s1 := (so.trans su).trans st
    have hfv : Dp K _ (.ref o) (pairI (0, 0)) := dp_same st _ _ (dp_same su _ _ (dp_mkpair upd_tup))
    have hrw : Dp K _ (.ref u) (rowI []) := dp_same st _ _ (dp_row (r := []) upd_tup)
    refine ⟨t, _, rfl, upd_tup, rfl, _, _, rfl, _, _, rfl, _, _, rfl, _, _, rfl, rfl, ?_⟩
    dsimp only
    refine ⟨fun μ σ H' => ∃ (i : Nat) (kn : Option (Int × Int)) (first : Int × Int) (cs : List Nat) (fv kv rv : V) (y6 : Option V), σ = [some c, some x, some (.int (i : Int)), some fv, some kv, some rv, y6] ∧ Same H H' ∧ KnV K H' kv kn ∧ Dp K H' fv (pairI first) ∧ Dp K H' rv (rowI cs) ∧
      RdAt C ds i kn first cs (rd C ds) ∧ i ≤ ds.length ∧ cs.length ≤ 255 * i ∧ (∀ st, kn = some st → C.St st) ∧ (kn = none ↔ i = 0) ∧ μ = ds.length - i,
      ⟨_, 0, none, (0, 0), [], _, _, _, none, rfl, s1, rfl, hfv, hrw, rdAt_start, Nat.zero_le _, Nat.le_refl _, nofun, ⟨fun _ => rfl, fun _ => rfl⟩, rfl⟩, ?_⟩
    rintro μ σ H2 ⟨i, kn, first, cs, fv, kv, rv, y6, rfl, s2, hkv, hfv2, hrv2, ra, hi, hcl, hks, hk0, rfl⟩
    obtain ⟨a, xs, rfl, ha, hdi⟩ := hx.same s2
    have hl := diAll_len hdi
    refine ⟨_, rfl, _, rfl, a, xs, rfl, .inr ha, _, _, rfl, rfl, _, rfl, ?_⟩
    by_cases hlt : i < ds.length
    · refine ifYes' (decide_eq_true (by omega)) ?_
      refine ⟨fun σ' H' => ∃ m', m' < ds.length - i ∧ _, fun σ' H' h => h, ?_⟩
      refine ⟨_, rfl, _, rfl, _, rfl, _, rfl, c, kv, a, xs, ds, C, i, kn, rfl, O, dp_same s2 _ _ hc, hkv, hks, ha, hdi, by omega, hlen, fun st' r e hb t' sv rv' H3 s3 ht' hst hrv => ?_, fun e hb H3 s3 => ?_⟩
      · have s23 := s2.trans s3
        obtain ⟨e1, e2, e3, _, _⟩ := blkR_end hb
        obtain ⟨hs, hr'⟩ := blkR_ok O hks hb
        refine ⟨_, rfl, _, .ty "tuple", _, _, _, rfl, .ty _, sqT_ty ht', kitT _, _, rfl, ?_⟩
        refine ifNo' rfl ?_
        dsimp only [tNext]
        refine st_tail (fun σ H' => ∃ fv', σ = [some c, some (.ref a), some (.int (i : Int)), some fv', some kv, some rv, some (.ref t')] ∧ H' = H3 ∧ Dp K H3 fv' (pairI (if i = 0 then st' else first))) ?_ fun tail => ?_
        · rintro σ H' ⟨fv', rfl, rfl, hfv3⟩
          obtain ⟨ua, rfl, hua⟩ := row_at (dp_same s3 _ _ hrv2)
          obtain ⟨va, rfl, hva⟩ := row_at hrv
          refine ⟨_, rfl, t', _, 0, _, rfl, rfl, ht', atI_nat (j := 0) rfl, _, rfl, _, rfl, t', _, 2, _, rfl, rfl, ht', atI_nat (j := 2) rfl, ?_⟩
          have hqf : (rowV cs).length + (rowV r).length ≤ sizeLine := by
            unfold rowV
            rw [List.length_map, List.length_map]
            exact Nat.le_trans (show _ ≤ 255 * 50001 by omega) (by decide)
          refine cat_any hua hva hqf fun ca H4 s4 hca => ?_
          refine ⟨_, _, rfl, ?_⟩
          have ht4 := same_tup s4 ht'
          refine ⟨_, rfl, _, rfl, t', _, 1, _, rfl, rfl, ht4, atI_nat (j := 1) rfl, _, rfl, t', _, 2, _, rfl, rfl, ht4, atI_nat (j := 2) rfl, ?_⟩
          refine ⟨c, sv, .ref va, C, r, st', rfl, O, dp_same (s23.trans s4) _ _ hc, dp_same s4 _ _ hrv, ⟨by omega, hr'⟩, dp_same s4 _ _ hst, hs, fun p ps H5 s5 hp0 hp hps => ?_⟩
          obtain ⟨ys, z, rfl, hz⟩ := last_of_path hps
          refine ⟨1, rfl, p, _, -1, z, rfl, rfl, SqL.of hp, atI_last _ _, ?_⟩
          have s35 := s4.trans s5
          refine ⟨_, ?_, e, some (C.run st' r), _, cs ++ r, fv', z, .ref ca, _, rfl, s23.trans s35, hz, dp_same s35 _ _ hfv3, dp_same s5 _ _ (dp_row (by rw [rowV_app]; exact hca)), ra.good hlt hb, e2, ?_, fun st2 h => ?_, ⟨fun h => (by cases h), fun h => (by omega)⟩, rfl⟩
          · omega
          · rw [List.length_append]
            omega
          · injection h with h
            rw [← h]
            exact run_St O _ hs
        · refine ⟨_, rfl, rfl, _, rfl, ?_⟩
          cases kn with
          | none =>
            obtain rfl : kv = .non := hkv
            refine ifYes' (decide_eq_true rfl) ?_
            exact ⟨_, rfl, t', _, 1, _, rfl, rfl, ht', atI_nat (j := 1) rfl, tail _ _ ⟨_, rfl, rfl, by rw [if_pos (hk0.mp rfl)]; exact hst⟩⟩
          | some k0 =>
            obtain ⟨kb, rfl, hkb⟩ := dp_pair (show Dp K H2 kv (pairI k0) from hkv)
            refine ifNo' (decide_eq_false (fun z => by cases z)) ?_
            exact ⟨_, rfl, tail _ _ ⟨_, rfl, rfl, by rw [if_neg (fun z => by cases hk0.mpr z)]; exact dp_same s3 _ _ hfv2⟩⟩
      · refine ⟨_, rfl, _, .ty "tuple", _, _, _, rfl, .ty _, tyx (.int _), kitT _, _, rfl, ?_⟩
        refine ifYes' rfl ?_
        refine ⟨_, rfl, by show 2 ≤ sizeLine; decide, fun p hp => ?_⟩
        refine q _ _ ((s2.trans s3).trans (same_new hp)) ?_
        rw [ra.bad hlt hb]
        exact .tup upd_tup (.cons (.str _) (.cons (.int _) .nil))
    · refine ifNo' (decide_eq_false (by omega)) ?_
      have hR := ra.done (by omega)
      refine ⟨_, rfl, _, rfl, by show 2 ≤ sizeLine; decide, fun p hp => ⟨by show 1 ≤ sizeLine; decide, fun p2 hp2 => ?_⟩⟩
      have sp := same_new (o := .tup [fv, rv]) hp
      have sp2 := same_new (o := .lst [V.ref p]) hp2
      refine q _ _ ((s2.trans sp).trans sp2) ?_
      rw [hR]
      exact .lst (SqL.of upd_same) (.cons (.tup (same_tup sp2 upd_tup) (.cons (dp_same (sp.trans sp2) _ _ hfv2) (.cons (dp_same (sp.trans sp2) _ _ hrv2) .nil))) .nil)
end
end My

/-! The end of a law with lambdas in several defs. -/
namespace My
open PySem PySem.Spec PyProof.Rows L2 LamX
theorem law_callGTs {Pr : Program} {w : World} {K : PySem.W.Frag} {mg mb : Str → Option Value} {k : Nat} {fa a : Addr} {cs : List (Addr × Addr)} {fd : FuncData} {x : Str} {sp : Sp} {s₁ : Shared} {vs : List Value} {ns : List Int}
    (inK : K.In s₁.heap) (glob : s₁.heap.Ns mainGlobals mg) (blt : s₁.heap.Ns builtinsNs mb) (boot : ∀ x : Str, x ≠ "__name__" → mb x = bootBuiltins x) (nolim : s₁.heap.NoLimit) (nogen : s₁.gens = #[])
    (hT : ∀ p ∈ cs, s₁.heap.get? p.2 = some (tabO #[])) (nT : ∀ p ∈ cs, K.lookup p.2 = none) (C : ∀ p ∈ cs, PySem.W.CodeHd s₁.heap p.1 p.2)
    (hbm : ∃ (bm : Addr) (ob : Obj), mg "__builtins__" = some (.ref bm) ∧ bm ≠ builtinsNs ∧ s₁.heap.get? bm = some ob ∧ ob.cls = .type "module" ∧ ob.dict = some builtinsNs ∧ ob.data = .plain)
    (hobj : s₁.heap.get? a = some { cls := .type "list", data := .seq vs.toArray }) (hints : IntsAre vs ns) (hlen : ns.length ≤ sizeLine) (room : Room k callerA)
    (F : ∀ base : Heap, K.In base → base.Ns mainGlobals mg → (∀ p ∈ cs, TabB base mg p.1 p.2) → FnG Pr w K mg base k fa fd [x] sp) (binds : ∀ (s : Shared) (u : Value), BindsTo s fd ⟨[u], []⟩ [(x, u)])
    (want : ∀ H : Hp, (∀ p ∈ cs, H p.2 = some (.tbl #[])) → SqL K H a (ns.map V.int) → sp [.ref a] H (fun v _ => v = .bl true) fun _ _ _ => False) :
    codeAny (model Pr w) callerA (.call (.ref fa) ⟨[.ref a], []⟩) (fun r s' => r = .ok (.ret (.bool true)) ∧ OldK s₁.heap s'.heap ∧ s'.os = s₁.os ∧ AllBare s'.gens) s₁ := by
  have relv := vals_ints hints
  have isT : ∀ b : Addr, b ∈ cs.map (·.2) → s₁.heap.get? b = some (tabO #[]) := fun b hb => by
    obtain ⟨p, hp, e⟩ := List.mem_map.mp hb
    exact e ▸ hT p hp
  have inT : ∀ p ∈ cs, p.2 ∈ cs.map (·.2) := fun p hp => List.mem_map_of_mem hp
  have noK : ∀ b : Addr, b ∈ cs.map (·.2) → K.lookup b = none := fun b hb => by
    obtain ⟨p, hp, e⟩ := List.mem_map.mp hb
    exact e ▸ nT p hp
  have naP : a ∉ cs.map (·.2) := fun z => by
    rw [isT a z] at hobj
    have z' : Data.fields #[] = Data.seq vs.toArray _ := congrArg Obj.data (Option.some.inj hobj)
    cases z'
  have core : ∀ H : Hp, (∀ p ∈ cs, H p.2 = some (.tbl #[])) → (∀ b, H b = none ∨ b ∈ cs.map (·.2) ∨ ∃ o xs, H b = some (.frz o (.lst xs))) → SqL K H a (ns.map V.int) → HOk Pr w H s₁.heap → (∀ b, H b ≠ none → b = a ∨ b ∈ cs.map (·.2)) → (H a ≠ none → K.lookup a = none) →
      codeAny (model Pr w) callerA (.call (.ref fa) ⟨[.ref a], []⟩) (fun r s' => r = .ok (.ret (.bool true)) ∧ OldK s₁.heap s'.heap ∧ s'.os = s₁.os ∧ AllBare s'.gens) s₁ := by
    intro H hP only seq ok one notK
    have up : ∀ {b : Addr} {o : Obj}, s₁.heap.get? b = some o → H b = none → (hidT s₁.heap H).get? b = some o := fun e n => hidT_get e n
    -- what is neither a list nor a table is not tracked
    have out : ∀ {b : Addr} {o : Obj}, s₁.heap.get? b = some o → (∀ vs n, o.data ≠ .seq vs n) → o.data ≠ .fields #[] → H b = none := by
      intro b o e h1 h2
      cases q : H b with
      | none => rfl
      | some u =>
        rcases one b (fun z => by rw [q] at z; cases z) with z | z
        · rw [z, hobj] at e
          cases e
          exact (h1 _ _ rfl).elim
        · rw [isT b z] at e
          cases e
          exact (h2 rfl).elim
    have outD : ∀ {b : Addr} {o : Obj} {es : Array DictEntry} {ep : Nat}, s₁.heap.get? b = some o → o.data = .dict es ep → H b = none := fun {b o es ep} e d =>
      out e (fun vs n z => by rw [d] at z; cases z) (fun z => by rw [d] at z; cases z)
    have nsUp : ∀ {b : Addr} {m : Str → Option Value}, s₁.heap.Ns b m → (hidT s₁.heap H).Ns b m :=
      fun {_ _} ⟨o, es, ep, e, d, r⟩ => ⟨o, es, ep, up e (outD e d), d, r⟩
    have kUp : K.In (hidT s₁.heap H) := by
      intro b o e
      refine up (inK b o e) ?_
      cases q : H b with
      | none => rfl
      | some u =>
        rcases one b (fun z => by rw [q] at z; cases z) with z | z
        · rw [z, notK (fun y => by rw [← z, q] at y; cases y)] at e
          cases e
        · rw [noK b z] at e
          cases e
    have mod : Mod K mg (hidT s₁.heap H) := ⟨kUp, nsUp glob, ⟨mb, nsUp blt, boot⟩, nolim.imp fun mc z => ⟨nsUp z.1, z.2⟩⟩
    have tb : ∀ p ∈ cs, TabB (hidT s₁.heap H) mg p.1 p.2 := by
      intro p hp
      have hTp := hT p hp
      refine ⟨?_, ?_, fun z => ?_⟩
      · obtain ⟨o, us, file, tf, flags, tg, inF, text, tt, e1, r1, r2, r3, r⟩ := C p hp
        refine ⟨o, us, file, tf, flags, tg, inF, text, tt, up e1 (out e1 (fun vs n z => ?_) fun z => ?_), r1, r2, r3, r⟩
        · rw [r2] at z
          cases z
        · rw [r2] at z
          cases z
          simp at r3
      · obtain ⟨bm, ob, b1, b2, b3, b4, b5, b6⟩ := hbm
        have nG : bm ≠ mainGlobals := fun q => by
          obtain ⟨o, es, ep, e, hd, _⟩ := glob
          rw [q, e] at b3
          cases b3
          rw [hd] at b6
          cases b6
        have nP : bm ≠ p.2 := fun q => by
          rw [q, hTp] at b3
          cases b3
          cases b6
        exact ⟨bm, ob, b1, b2, nG, nP, up b3 (out b3 (fun vs n z => by rw [b6] at z; cases z) fun z => by rw [b6] at z; cases z), b4, b5, b6⟩
      · obtain ⟨o, es, ep, e, hd, _⟩ := glob
        rw [z, hTp] at e
        cases e
        cases hd
    have env0 : Env0 Pr w K mg (hidT s₁.heap H) callerA [] s₁ H :=
      ⟨rfl, mod, fun b o e => of_hidT e, Nat.le_of_eq (hidT_size _ _), trivial, fun b hb => absurd (show b ∈ ([] : List Addr) from hb) (by simp), ok, .of_eq nogen⟩
    have call := (F _ kUp (nsUp glob) tb).go callerA [] s₁ H ⟨[.ref a], []⟩ [.ref a] [.ref a] _ _ rfl room env0 (binds s₁ (.ref a)) (.cons rfl .nil) (want H hP seq)
    refine codeAny_mono call fun r s' h => ?_
    match r, h with
    | .error e, h => exact (show False from h).elim
    | .ok (.ret u), h =>
      obtain ⟨v, H', os, bare, un, ok', rv, q⟩ := h
      obtain rfl : v = .bl true := q
      obtain rfl : u = Value.bool true := rv
      have stays : ∀ b o, b ∉ cs.map (·.2) → s₁.heap.get? b = some o → s'.heap.get? b = some o := fun b o nb e => by
        rcases only b with z | z | ⟨ob, xs, z⟩
        · exact un.keep b o e z (fun y => absurd (show b ∈ ([] : List Addr) from y) (by simp)) (by simp)
        · exact absurd z nb
        · obtain ⟨e1, _⟩ := ok b _ z
          obtain ⟨e2, _⟩ := ok' b _ (un.frzs b ob _ z)
          rw [e] at e1
          cases e1
          exact e2
      have grown : ∀ p ∈ cs, ∃ more : Array Value, s'.heap.get? p.2 = some (tabO more) := fun p hp => by
        obtain ⟨more, z⟩ := un.tbls p.2 #[] (hP p hp)
        exact ⟨_, ok' p.2 _ z⟩
      refine ⟨rfl, ⟨fun b o e => ?_, fun b o e => ?_⟩, os, bare⟩
      · by_cases hb : b ∈ cs.map (·.2)
        · obtain ⟨p, hp, rfl⟩ := List.mem_map.mp hb
          obtain ⟨more, hm⟩ := grown p hp
          rw [hT p hp] at e
          cases e
          exact .inr (.inl ⟨((C p hp).tab (hT p hp)).isCodeTable, rfl, #[], more, rfl, by rw [Array.empty_append]; exact hm⟩)
        · exact .inl (stays b o hb e)
      · by_cases hb : b ∈ cs.map (·.2)
        · obtain ⟨p, hp, rfl⟩ := List.mem_map.mp hb
          obtain ⟨more, hm⟩ := grown p hp
          exact ⟨_, hm⟩
        · exact ⟨o, stays b o hb e⟩
  let t0 : Hp := fun b => if b ∈ cs.map (·.2) then some (.tbl #[]) else none
  have t0P : ∀ {b}, b ∈ cs.map (·.2) → t0 b = some (.tbl #[]) := fun h => if_pos h
  have t0o : ∀ {b}, b ∉ cs.map (·.2) → t0 b = none := fun h => if_neg h
  cases hk : K.lookup a with
  | some o =>
    have e := inK a o hk
    rw [hobj] at e
    cases e
    have stands : SqL K t0 a (ns.map V.int) := .inr ⟨_, vs.toArray, _, hk, rfl, rfl, rfl, by rw [List.size_toArray, hints.length]; exact hlen, by simpa using relv⟩
    refine core t0 (fun p hp => t0P (inT p hp)) (fun b => ?_) stands (fun b u z => ?_) (fun b z => ?_) fun z => absurd (t0o naP) z
    · by_cases hb : b ∈ cs.map (·.2)
      · exact .inr (.inl hb)
      · exact .inl (t0o hb)
    · by_cases hb : b ∈ cs.map (·.2)
      · rw [t0P hb] at z
        cases z
        exact isT b hb
      · rw [t0o hb] at z
        cases z
    · by_cases hb : b ∈ cs.map (·.2)
      · exact .inr hb
      · exact absurd (t0o hb) z
  | none =>
    let o : Obj := { cls := .type "list", data := .seq vs.toArray }
    let H1 : Hp := fun b => if b = a then some (.frz o (.lst (ns.map V.int))) else t0 b
    have atA : H1 a = some (.frz o (.lst (ns.map V.int))) := if_pos rfl
    have ofA : ∀ {b}, b ≠ a → H1 b = t0 b := fun h => if_neg h
    refine core H1 (fun p hp => (ofA (fun e => naP (e ▸ inT p hp))).trans (t0P (inT p hp))) (fun b => ?_) (.inl (.inr ⟨o, atA⟩)) (fun b u z => ?_) (fun b z => ?_) fun _ => hk
    · by_cases hb : b = a
      · exact .inr (.inr ⟨_, _, by rw [hb]; exact atA⟩)
      · by_cases hb2 : b ∈ cs.map (·.2)
        · exact .inr (.inl hb2)
        · exact .inl ((ofA hb).trans (t0o hb2))
    · by_cases hb : b = a
      · rw [hb, atA] at z
        cases z
        rw [hb]
        exact ⟨hobj, by rw [List.length_map]; exact hlen, vs, _, relv, hobj⟩
      · rw [ofA hb] at z
        by_cases hb2 : b ∈ cs.map (·.2)
        · rw [t0P hb2] at z
          cases z
          exact isT b hb2
        · rw [t0o hb2] at z
          cases z
    · by_cases hb : b = a
      · exact .inl hb
      · by_cases hb2 : b ∈ cs.map (·.2)
        · exact .inr hb2
        · exact absurd ((ofA hb).trans (t0o hb2)) z
theorem walk_ofGTs {l : PySem.W.OpenLaw} {n k : Nat} {q : Program} {loose : List Str} {XP : (Str → Option Value) → Heap → Prop} {YP : World → Heap → Prop} {d : DefRec}
    {K : Params → PySem.W.Frag} {sp : PySem.W.Frag → List (Addr × Addr) → Sp} {NM : List Str} {x : Str}
    (hn : l.most = some n) (hn2 : n ≤ sizeLine) (hdf : d.params.defaults = []) (room : Room k callerA) (hrec : (NM.all fun nm => (recsOf q).any fun e => e.name == nm) = true)
    (hY : ∀ (w : World) (h : Heap), YP w h → (K w.params).In h)
    (F : ∀ (w : World) (mg : Str → Option Value) (fa : Addr) (h : Heap), (K w.params).In h → h.Ns mainGlobals mg → mg d.name = some (.ref fa) → (∀ nm ∈ NM, ∀ f, mg nm = some (.ref f) → OwnTab (K w.params) f h) →
      ∃ (fd : FuncData) (cs : List (Addr × Addr)), (∀ p ∈ cs, h.get? p.2 = some (tabO #[])) ∧ (∀ p ∈ cs, (K w.params).lookup p.2 = none) ∧ (∀ p ∈ cs, PySem.W.CodeHd h p.1 p.2) ∧ (∀ (s : Shared) (u : Value), BindsTo s fd ⟨[u], []⟩ [(x, u)]) ∧
        ∀ base : Heap, (K w.params).In base → base.Ns mainGlobals mg → (∀ p ∈ cs, TabB base mg p.1 p.2) → FnG l.prog w (K w.params) mg base k fa fd [x] (sp (K w.params) cs))
    (want : ∀ (K : PySem.W.Frag) (H : Hp) (a : Addr) (cs : List (Addr × Addr)) (ns : List Int), ns.length ≤ n → (∀ p ∈ cs, H p.2 = some (.tbl #[])) → SqL K H a (ns.map V.int) → sp K cs [.ref a] H (fun v _ => v = .bl true) fun _ _ _ => False) :
    PySem.W.WalkO q loose XP YP l.row.toRowW d [] (fun f vs => PySem.call f vs) := by
  refine Att.attach_callB hn hdf fun w s₀ s₁ mg mb fa o pm cd doc a vs ns G Y ho hd hcd hmg hobj hints hlen hbits hg => ?_
  have KX := hY w _ Y
  have own : ∀ nm ∈ NM, ∀ f, mg nm = some (.ref f) → OwnTab (K w.params) f s₁.heap := fun nm hnm f hf c P o1 fd1 e dd vs1 sl k1 k2 k3 k4 k5 => by
    obtain ⟨dL, hm, hn1⟩ := List.any_eq_true.mp (List.all_eq_true.mp hrec nm hnm)
    have hname : dL.name = nm := beq_iff_eq.mp hn1
    obtain ⟨a', o', fd', c', P', h1, h2, h3, h4, h5, h6⟩ := G.T.tab dL hm
    rw [hname, hf] at h1
    cases h1
    rw [KX _ _ k1] at h2
    cases h2
    rw [k2] at h3
    cases h3
    rw [k3] at h4
    cases h4
    obtain ⟨⟨oc, vc, e1, _, e3, e4⟩, hP⟩ := h6
    rw [KX _ _ k4] at e1
    cases e1
    cases e3
    rw [k5] at e4
    cases e4
    exact hP
  obtain ⟨fd, cs, hT, nT, C, hb, hF⟩ := F w mg fa _ KX G.T.g hmg own
  exact law_callGTs KX G.T.g G.T.b G.T.builtins G.T.nolimit hg hT nT C G.T.bmain hobj hints (Nat.le_trans hlen hn2) room hF hb fun H hH hS => want (K w.params) H a cs ns hlen hH hS
end My

/-! _law_outcome(lambda: ..) where several defs hold lambdas -/
namespace My
open PySem PySem.Spec PyProof.Rows L2 LamX
theorem pe_outcomeL {X : Cx} (T : Txt X.K X.mg) (S : List (Addr × Str)) {c P : Addr} {k : Nat} {body : Expr} {params : Arguments} {scope : Scope} {t : XK → TE} {p lpos pos : Pos} (TB : TabB X.base X.mg c P) (hcode : X.env.code = .ref c) (hm : (P, X.env.qual ++ "<lambda>") ∈ S)
    (ho : ∀ p ∈ S, ∀ q ∈ S, p.1 = q.1 → p.2 = q.2) (hg : Gl X "_law_outcome") (hr : Room (k + 3) X.A) (L : LamS X.env.scope scope)
    (hdef : defaultsOf params X.env = ([], [])) (hbind : ∀ (q : Str) (cl : List (Str × Addr)) (pm cv ctv : Value), bindArgs (PySem.W.kla_fn "<lambda>" q params body scope cl pm cv ctv) ⟨[], []⟩ = pure [])
    (hbody : ∀ (A : Around) (outer : List Env) (s : Shared) (H : Hp) (E : XK) (f c' : Addr), Room (k + 1) (A.deeper (lamEnv X scope s.heap.objs.size f c')) → PE (lamCx X A outer s H E scope f c') body (t E)) :
    PE X (.Call (.Name "_law_outcome" p) [.Lambda params body scope lpos] [] pos) (tLam S (TTO T) t) := by
  obtain ⟨oc, od, dV, kV, doc, pm, an, cdv, ct, osl, lk, hcd, hb⟩ := T.lk_oc
  exact pe_lamcall (k := k + 1) (Ng := ["deed", "caught", "found", "e"]) (a := "deed") hg T.g__law_outcome T.kp_oc lk hcd hb sc_law_outcome rfl (.inl rfl) (outcome_gives T (hr.mono (by omega))) TB hcode hm
    (fun p hp e => ho p hp _ hm e) hr L hdef hbind hbody
end My

set_option pp.maxSteps 600
namespace My
open PySem PySem.Spec PyProof.Rows L2 LamX
theorem rdF_ok {C : Cod} (O : C.Ok) {ds : List PyData} {p : (Int × Int) → Prop} (hp : ∀ s, C.St s → p s) : ∀ f i kn first cs, (∀ st, kn = some st → C.St st) → p first → (∀ k ∈ cs, k < C.moves.length) → ∀ {s : Int × Int} {r : List Nat}, rdF C ds f i kn first cs = .ok (s, r) → p s ∧ ∀ k ∈ r, k < C.moves.length
  | 0, i, kn, first, cs, _, h1, h2, s, r, e => by
    injection e with e
    injection e with e1 e2
    subst e1 e2
    exact ⟨h1, h2⟩
  | f + 1, i, kn, first, cs, h0, h1, h2, s, r, e => by
    have e : (if i < ds.length then _ else _) = Except.ok (s, r) := e
    by_cases hl : i < ds.length
    · rw [if_pos hl] at e
      cases b : blkR C ds i kn with
      | error x => rw [b] at e; cases e
      | ok t =>
        obtain ⟨s', r', e'⟩ := t
        rw [b] at e
        obtain ⟨g1, g2⟩ := blkR_ok O h0 b
        refine rdF_ok O hp f e' (some (C.run s' r')) _ (cs ++ r') (fun st h => ?_) ?_ (fun k hk => ?_) e
        · injection h with h
          rw [← h]
          exact run_St O _ g1
        · split
          · exact hp _ g1
          · exact h1
        · rcases List.mem_append.mp hk with h | h
          · exact h2 k h
          · exact g2 k h
    · rw [if_neg hl] at e
      injection e with e
      injection e with e1 e2
      subst e1 e2
      exact ⟨h1, h2⟩
theorem cds_err_le {ds : List PyData} {b M n : Nat} : ∀ {k e : Nat}, cdsTo ds b M n k = .error e → e ≤ b + k
  | 0, e, h => by
    unfold cdsTo at h
    cases h
  | k + 1, e, h => by
    unfold cdsTo at h
    cases g : cdsTo ds b M n k with
    | error x =>
      rw [g] at h
      injection h with h
      have := cds_err_le g
      omega
    | ok r =>
      rw [g] at h
      dsimp only at h
      cases g2 : need ds (b + k) (cdOk M n k) with
      | error x =>
        rw [g2] at h
        injection h with h
        have := need_err g2
        omega
      | ok z => rw [g2] at h; cases h
theorem stR_err_le {C : Cod} {ds : List PyData} {i e : Nat} {kn : Option (Int × Int)} (h : stR C ds i kn = .error e) : e ≤ i + 2 := by
  unfold stR at h
  split at h
  · rename_i x hx
    injection h with h
    have := need_err hx
    omega
  split at h
  · rename_i x hx
    injection h with h
    have := need_err hx
    omega
  split at h
  · rename_i x hx
    injection h with h
    have := need_err hx
    omega
  · cases h
theorem blkR_err_le {C : Cod} {ds : List PyData} {b e : Nat} {kn : Option (Int × Int)} (h : blkR C ds b kn = .error e) : e ≤ b + 200 := by
  unfold blkR at h
  split at h
  · rename_i x hx
    injection h with h
    have := need_err hx
    omega
  split at h
  · rename_i x hx
    injection h with h
    have := need_err hx
    omega
  split at h
  · rename_i x hx
    injection h with h
    have := stR_err_le hx
    omega
  split at h
  · rename_i x hx
    injection h with h
    have := need_err hx
    omega
  rename_i n hn
  obtain ⟨_, n0, n1, _, _⟩ := need_ok hn
  split at h
  · rename_i x hx
    injection h with h
    have := cds_err_le hx
    omega
  split at h
  · rename_i x hx
    injection h with h
    have := need_err hx
    omega
  · cases h
theorem rdF_err_le {C : Cod} {ds : List PyData} : ∀ f i kn first cs, i ≤ ds.length → ∀ {e : Nat}, rdF C ds f i kn first cs = .error e → e ≤ ds.length + 200
  | 0, i, kn, first, cs, _, e, h => by cases h
  | f + 1, i, kn, first, cs, hi, e, h => by
    have h : (if i < ds.length then _ else _) = Except.error e := h
    by_cases hl : i < ds.length
    · rw [if_pos hl] at h
      cases b : blkR C ds i kn with
      | error x =>
        rw [b] at h
        injection h with h
        have := blkR_err_le b
        omega
      | ok t =>
        obtain ⟨s', r', e'⟩ := t
        rw [b] at h
        exact rdF_err_le f e' _ _ _ (blkR_end b).2.1 h
    · rw [if_neg hl] at h
      cases h
theorem rdP_sh {C : Cod} (O : C.Ok) {ds : List PyData} (hl : ds.length ≤ 50000) (hg : ∀ s r, rd C ds = .ok (s, r) → r.length ≤ 2000) : ∃ k n, Sh k n (rdP (rd C ds)) ∧ k ≤ 60 ∧ n ≤ sizeLine := by
  cases e : rd C ds with
  | error i =>
    have hi := rdF_err_le _ _ _ _ _ (Nat.zero_le _) e
    exact ⟨1, 3 * (2000 + 2) + 3, sh_t (k := 0) (n := 2000) (ds := [.str "byte", .int (i : Int)]) (by show 2 ≤ 3; decide) (all1 ⟨rfl, rfl, by decide, by decide +kernel⟩ (all1 (sh_i (by omega)) all0)), by decide, by decide⟩
  | ok t =>
    obtain ⟨s, r⟩ := t
    obtain ⟨⟨h1, h1'⟩, h2⟩ := rdF_ok O (p := fun s => s.1.natAbs < 2 ^ 64 ∧ s.2.natAbs < 2 ^ 64) (fun s ⟨g1, g2, g3, g4⟩ => by
      have := O.l1
      have := O.h2
      have := O.s2
      constructor <;> omega) ds.length 0 none (0, 0) [] nofun (by decide) nofun e
    have hr := hg s r e
    have m2 := O.m2
    have sr : Sh 1 4000000 (rowI r) := (sh_tup (k := 0) (n := 1921) (ds := r.map fun k : Nat => PyData.int (k : Int)) fun d hd => by
      obtain ⟨k, hk, rfl⟩ := List.mem_map.mp hd
      exact sh_int (by have := h2 k hk; omega)).mono (Nat.le_refl _) (by rw [List.length_map]; omega)
    have s2 : Sh 2 (3 * (4000000 + 2) + 3) (.tuple [pairI s, rowI r]) := sh_t (k := 1) (n := 4000000) (by show 2 ≤ 3; decide) (all1 ((sh_pair h1 h1').mono (by decide) (by decide)) (all1 sr all0))
    exact ⟨3, _, (sh_list (k := 2) (ds := [.tuple [pairI s, rowI r]]) (all1 s2 all0)), by decide, by show 1 * _ + 2 ≤ sizeLine; decide⟩
theorem diAll_ext {K : PySem.W.Frag} {H H' : Hp} (e : ExtN H H') : ∀ {vs : List V} {ds : List PyData}, DiAll K H vs ds → DiAll K H' vs ds
  | _, _, .nil => .nil
  | _, _, .cons h t => .cons (by
      cases h with
      | fl n h => exact .fl n (dp_ext e _ _ h)
      | ls h1 h2 h3 h4 => exact .ls (e _ _ h1 nofun) h2 (dpAll_ext e _ _ h3) h4
      | dk h => exact .dk (e _ _ h nofun)) (diAll_ext e t)
theorem dt_ext {K : PySem.W.Frag} {H H' : Hp} {v : V} {ds : List PyData} (e : ExtN H H') (h : Dt K H v ds) : Dt K H' v ds := by
  obtain ⟨a, xs, rfl, h1, h2⟩ := h
  exact ⟨a, xs, rfl, ext_tup e h1, diAll_ext e h2⟩
section
variable {P : Program} {w : World} {K : PySem.W.Frag} {mg : Str → Option Value} {base : Heap}
def sp_law_right (T : Txt K mg) : Sp := fun vs H Q _ => ∃ (c x : V) (ds : List PyData) (C : Cod), vs = [c, x] ∧ C.Ok ∧ Dp K H c C.dat ∧ Dt K H x ds ∧ (PyData.tuple ds).showable = true ∧ (PyData.tuple ds).depth ≤ 60 ∧ (PyData.tuple ds).shown.length ≤ sizeLine ∧ ds.length ≤ 50000 ∧
  (∀ s r, rd C ds = .ok (s, r) → r.length ≤ 2000) ∧ Tabs (TL T) H ∧ ∀ H', ExtN H H' → Tabs (TL T) H' → Q (.bl true) H'
set_option maxHeartbeats 4000000 in
theorem ok_law_right (T : Txt K mg) (TB : TabB base mg T.c__law_right T.P__law_right) : FnG P w K mg base 16 T.f__law_right T.d__law_right ["coder", "data"] (sp_law_right T) := by
  refine okGc T.F__law_right T.cd__law_right sc_law_right (fun vs H Q E h => ?_) (fun A outer s H vs Q E hgd hr h => ?_)
  · obtain ⟨c, x, ds, C, rfl, _⟩ := h
    rfl
  · obtain ⟨c, x, ds, C, rfl, O, hc, hx, w1, w2, w3, hlen, hg, hT, q⟩ := h
    refine ⟨_,
(pss_cons (ps_set (i := 2) sc_law_right.nd rfl (Or.inl rfl) (pe_callB (My.call_reprZ (K := K) hgd hr.units) (by rfl) T.z_repr (by decide +kernel) (pa_cons (pv 1) pa_nil)))
      (pss_one (ps_ret (pe_and (pe_cmpR op_eq (pe_callB ((call_repr hgd hr.units)) (by rfl) T.z_repr (by decide +kernel) (pa_cons (My.pe_outcomeL (k := 12) T (TL T) TB rfl (.head _) (tl_ok T) (by rfl) (hr.mono (by decide)) (lamS_by (by show lamSB (defScope s_law_right) _ = true; decide +kernel)) rfl (fun _ _ _ _ _ => rfl) (fun A outer s H E f c' hr => (pe_call (ok_read_file T) (hr.mono (by decide)) (by rfl) T.g_read_file T.F_read_file.kp T.b_read_file .nil (passes_call (takes_of rfl rfl rfl rfl) (fun _ _ _ _ h => h)) (pa_cons (pv 0) (pa_cons (pv 1) pa_nil))))) pa_nil)) (pe_callB ((call_repr hgd hr.units)) (by rfl) T.z_repr (by decide +kernel) (pa_cons (pe_call (ok_law_due T) (hr.mono (by decide)) (by rfl) T.g__law_due T.F__law_due.kp T.b__law_due .nil pass0 (pa_cons (pv 0) (pa_cons (pv 1) pa_nil))) pa_nil)) (nomark _)) (pe_one (pe_cmpR op_eq (pe_callB (My.call_reprZ (K := K) hgd hr.units) (by rfl) T.z_repr (by decide +kernel) (pa_cons (pv 1) pa_nil)) (pv 2) (nomark _)))))))
, ?_⟩
    obtain ⟨kk, nn, hsh, hk60, hnl⟩ := rdP_sh O hlen hg
    refine ⟨_, rfl, _, ds, rfl, hx, w1, w2, w3, ?_⟩
    refine ⟨hT, fun H1 e1 t1 H2 s2 Q2 hq2 => ⟨_, rfl, _, rfl, ?_⟩⟩
    have e12 := e1.trans (ext_same s2)
    dsimp only [tNil]
    refine .inr ⟨c, x, C, ds, rfl, O, dp_ext e12 _ _ hc, dt_ext e12 hx, hlen, fun e he => byte_E (n := .int (e : Int)) (fun _ _ => .int _) fun z H3 s3 hz => ?_, fun s r hr hl => absurd (hg s r hr) (by omega), fun s r hr hl z H3 s3 hz => ?_⟩
    · have e3 := e12.trans (ext_same s3)
      have t3 := tabs_same t1 (s2.trans s3)
      have hz : Dp K H3 z (rdP (rd C ds)) := by rw [he]; exact hz
      refine ⟨_, _, rfl, hz, hsh.sh, hsh.nd, Nat.le_trans hsh.dp hk60, Nat.le_trans hsh.le hnl, ?_⟩
      refine ⟨_, rfl, _, rfl, c, x, ds, C, rfl, O, dp_ext e3 _ _ hc, dt_ext e3 hx, hlen, fun z5 H5 s5 hz5 => ?_⟩
      refine ⟨_, _, rfl, hz5, hsh.sh, hsh.nd, Nat.le_trans hsh.dp hk60, Nat.le_trans hsh.le hnl, ?_⟩
      refine ⟨rfl, _, rfl, ifYes' (decide_eq_true rfl) ?_⟩
      refine ⟨_, rfl, _, ds, rfl, dt_ext (e3.trans (ext_same s5)) hx, w1, w2, w3, _, rfl, rfl, ?_⟩
      rw [decide_eq_true rfl]
      exact q _ (e3.trans (ext_same s5)) (tabs_same t3 s5)
    · refine hq2 z H3 fun l hl' => ?_
      have s4 := s3.trans (same_new (o := .lst [z]) hl')
      have e3 := e12.trans (ext_same s4)
      have t3 := tabs_same t1 (s2.trans s4)
      have hz : Dp K (upd H3 l (.lst [z])) (.ref l) (rdP (rd C ds)) := by
        rw [hr]
        exact .lst (SqL.of upd_same) (.cons (dp_same (same_new hl') _ _ hz) .nil)
      refine ⟨_, _, rfl, hz, hsh.sh, hsh.nd, Nat.le_trans hsh.dp hk60, Nat.le_trans hsh.le hnl, ?_⟩
      refine ⟨_, rfl, _, rfl, c, x, ds, C, rfl, O, dp_ext e3 _ _ hc, dt_ext e3 hx, hlen, fun z5 H5 s5 hz5 => ?_⟩
      refine ⟨_, _, rfl, hz5, hsh.sh, hsh.nd, Nat.le_trans hsh.dp hk60, Nat.le_trans hsh.le hnl, ?_⟩
      refine ⟨rfl, _, rfl, ifYes' (decide_eq_true rfl) ?_⟩
      refine ⟨_, rfl, _, ds, rfl, dt_ext (e3.trans (ext_same s5)) hx, w1, w2, w3, _, rfl, rfl, ?_⟩
      rw [decide_eq_true rfl]
      exact q _ (e3.trans (ext_same s5)) (tabs_same t3 s5)
end
end My

set_option pp.maxSteps 400
set_option pp.deepTerms false
/-! drawn data of small things -/
namespace My
open PySem PySem.Spec PyProof.Rows L2
theorem fileB_bd {C : Cod} (O : C.Ok) : ∀ {rs : List (List Nat)} {s : Int × Int}, C.St s → (∀ r ∈ rs, r.length ≤ 255 ∧ ∀ k ∈ r, k < C.moves.length) → ∀ z ∈ fileB C s rs, 0 ≤ z ∧ z ≤ 255
  | [], _, _, _, z, hz => by cases hz
  | r :: rs, s, hs, h, z, hz => by
    obtain ⟨h1, h2⟩ := h r List.mem_cons_self
    rcases List.mem_append.mp (show z ∈ blk s r ++ fileB C (C.run s r) rs from hz) with e | e
    · exact blk_bd O hs h2 h1 z e
    · exact fileB_bd O (run_St O _ hs) (fun r hr => h r (List.mem_cons_of_mem _ hr)) z e
theorem FileOf.bd {C : Cod} (O : C.Ok) {s : Int × Int} {row : List Nat} {ds : List Int} (h : FileOf C s row ds) (hs : C.St s) (R : C.Row row) : ∀ z ∈ ds, 0 ≤ z ∧ z ≤ 255 := by
  obtain ⟨rs, p, rfl, rfl⟩ := h
  exact fileB_bd O hs fun r hr => ⟨p.le r hr, fun k hk => R.lt k (List.mem_flatten.mpr ⟨r, hr, hk⟩)⟩
/-- a small thing -/
structure Sd (d : PyData) : Prop where
  sh : d.showable = true
  dp : d.depth ≤ 2
  le : d.shown.length ≤ 2000
theorem Sd.of {k : Nat} {d : PyData} (h : Sh k 2000 d) (hk : k ≤ 2) : Sd d := ⟨h.sh, Nat.le_trans h.dp hk, h.le⟩
theorem sd_int {z : Int} (h : z.natAbs < 2 ^ 64) : Sd (.int z) := Sd.of (sh_i h) (by decide)
theorem sd_all : ∀ {ds : List PyData}, (∀ d ∈ ds, Sd d) → PyData.showableAll ds = true ∧ PyData.depthAll ds ≤ 2 ∧ piled (PyData.shownAll ds) ≤ ds.length * 2002 ∧ (PyData.shownAll ds).length = ds.length
  | [], _ => ⟨rfl, Nat.zero_le _, Nat.zero_le _, rfl⟩
  | d :: r, h => by
    obtain ⟨h1, h3, h4, h5⟩ := sd_all fun e he => h e (List.mem_cons_of_mem d he)
    have hd := h d List.mem_cons_self
    refine ⟨?_, ?_, ?_, ?_⟩
    · show (d.showable && PyData.showableAll r) = true
      rw [hd.sh, h1]
      rfl
    · show max d.depth (PyData.depthAll r) ≤ 2
      exact Nat.max_le.mpr ⟨hd.dp, h3⟩
    · show piled (d.shown :: PyData.shownAll r) ≤ (r.length + 1) * 2002
      rw [piled_cons, Nat.succ_mul]
      have := hd.le
      omega
    · show (PyData.shownAll r).length + 1 = r.length + 1
      rw [h5]
theorem sd_tup {ds : List PyData} (h : ∀ d ∈ ds, Sd d) (hl : ds.length ≤ 3000) : (PyData.tuple ds).showable = true ∧ (PyData.tuple ds).depth ≤ 60 ∧ (PyData.tuple ds).shown.length ≤ sizeLine := by
  obtain ⟨h1, h3, h4, h5⟩ := sd_all h
  refine ⟨h1, Nat.le_trans (Nat.succ_le_succ h3) (by decide), Nat.le_trans ?_ (show 7000000 ≤ sizeLine by decide)⟩
  show (tupleText (PyData.shownAll ds)).length ≤ _
  unfold tupleText
  rw [strLen_append, strLen_append]
  have e1 : ((("(" : String) : Str)).length = 1 := rfl
  have e3 : (((if (PyData.shownAll ds).length == 1 then ",)" else ")" : String) : Str)).length ≤ 2 := by split <;> decide
  rw [e1]
  by_cases hn : PyData.shownAll ds = []
  · rw [hn] at e3 ⊢
    have : (Str.join ", " []).length = 0 := rfl
    omega
  · have := join_length_add (PyData.shownAll ds) hn
    omega
theorem sh_code {k : Nat} (h : k < 16) : Sh 0 2 (.int (k : Int)) := by
  have hs := sh_int (i := (k : Int)) (by omega)
  have e : ∀ k : Fin 16, (PyData.int (k.val : Int)).shown.length ≤ 2 := by decide +kernel
  exact ⟨hs.sh, hs.nd, hs.dp, e ⟨k, h⟩⟩
theorem sh_codes {r : List Nat} (h : ∀ k ∈ r, k < 16) (hl : r.length ≤ 255) : Sh 1 1030 (rowI r) := by
  have := sh_tup (k := 0) (n := 2) (ds := r.map fun k : Nat => PyData.int (k : Int)) fun d hd => by
    obtain ⟨k, hk, rfl⟩ := List.mem_map.mp hd
    exact sh_code (h k hk)
  rw [List.length_map] at this
  exact this.mono (Nat.le_refl _) (by omega)
theorem sh_entS {e : Nat × (Int × Int) × List Nat} (h1 : e.1 ≤ 100000) (h2 : e.2.1.1.natAbs < 2 ^ 64) (h3 : e.2.1.2.natAbs < 2 ^ 64) (h4 : e.2.2.length ≤ 255) (h5 : ∀ k ∈ e.2.2, k < 16) : Sh 2 13000 (entS e) := by
  refine (sh_tup (k := 1) (n := 4000) (ds := [.int (e.1 : Int), pairI e.2.1, rowI e.2.2]) fun d hd => ?_).mono (Nat.le_refl _) (by simp)
  rcases List.mem_cons.mp hd with rfl | hd
  · exact (sh_int (by omega)).mono (by decide) (by decide)
  rcases List.mem_cons.mp hd with rfl | hd
  · exact sh_pair h2 h3
  · rw [List.mem_singleton.mp hd]
    exact (sh_codes h5 h4).mono (Nat.le_refl _) (by decide)
theorem salvF_all {C : Cod} {ds : List PyData} {p : Nat × (Int × Int) × List Nat → Prop} (hp : ∀ i s r e, i < ds.length → blkR C ds i none = .ok (s, r, e) → p (i, s, r)) :
    ∀ f i acc, (∀ e ∈ acc, p e) → (∀ e ∈ salvF C ds f i acc, p e) ∧ (acc.length ≤ i → i ≤ ds.length → (salvF C ds f i acc).length ≤ ds.length)
  | 0, i, acc, h => ⟨h, fun h1 h2 => Nat.le_trans h1 h2⟩
  | f + 1, i, acc, h => by
    show (∀ e ∈ (if i < ds.length then _ else _), p e) ∧ (_ → _ → List.length (if i < ds.length then _ else _) ≤ _)
    by_cases hl : i < ds.length
    · rw [if_pos hl]
      cases b : blkR C ds i none with
      | error e =>
        obtain ⟨i1, i2⟩ := salvF_all hp f (i + 1) acc h
        exact ⟨i1, fun a _ => i2 (by omega) (by omega)⟩
      | ok t =>
        obtain ⟨s, r, e⟩ := t
        obtain ⟨e1, e2, _⟩ := blkR_end b
        obtain ⟨i1, i2⟩ := salvF_all hp f e (acc ++ [(i, s, r)]) fun x hx => by
          rcases List.mem_append.mp hx with hx | hx
          · exact h x hx
          · rw [List.mem_singleton.mp hx]
            exact hp _ _ _ _ hl b
        exact ⟨i1, fun a _ => i2 (by rw [List.length_append]; show acc.length + 1 ≤ e; omega) e2⟩
    · rw [if_neg hl]
      exact ⟨h, fun h1 h2 => Nat.le_trans h1 h2⟩
theorem salv_show {C : Cod} (O : C.Ok) {ds : List PyData} (hl : ds.length ≤ 1000) : ∃ k n, Sh k n (.list ((salv C ds).map entS)) ∧ k ≤ 60 ∧ n ≤ sizeLine := by
  obtain ⟨h1, h2⟩ := salvF_all (C := C) (ds := ds) (p := fun e => Sh 2 13000 (entS e)) (fun i s r e hi hb => by
    obtain ⟨_, _, e3, e4, e5⟩ := blkR_end hb
    obtain ⟨g1, g2, g3, g4⟩ := e4 rfl
    have := O.l1
    have := O.h2
    have := O.s2
    exact sh_entS (by show i ≤ 100000; omega) (by show s.1.natAbs < 2 ^ 64; omega) (by show s.2.natAbs < 2 ^ 64; omega) e3 e5) ds.length 0 [] nofun
  have hn : (salv C ds).length ≤ ds.length := h2 (Nat.zero_le _) (Nat.zero_le _)
  refine ⟨_, _, sh_list (k := 2) (n := 13000) fun d hd => ?_, by decide, ?_⟩
  · obtain ⟨e, he, rfl⟩ := List.mem_map.mp hd
    exact h1 e he
  · rw [List.length_map]
    exact Nat.le_trans (show _ ≤ 14000000 by omega) (by decide)
/-! what the drawer hides -/
theorem hide_step {m l l' : Addr} {H H' : Hp} (k : Kp m l H l' H') : Same (hide m l H) (hide m l' H') := fun b o h => by
  have h1 : H b = some o := hide_sub b o h
  have h2 := hide_kp k b o h
  unfold hide at h ⊢
  by_cases e : b = m ∨ b = l
  · rw [if_pos e] at h
    cases h
  · rw [if_neg (fun z => by
      rcases z with z | z
      · exact e (.inl z)
      · rcases k.nw with y | y
        · exact e (.inr (z.trans y))
        · rw [z, y] at h1
          cases h1)]
    exact h2
theorem sq_hide {K : PySem.W.Frag} {H : Hp} {m c l n a : Addr} {xs : List V} (D : Dr H m c l n) (h : SqT K H a xs) : SqT K (hide m l H) a xs := by
  obtain ⟨cs, ls, k, h1, h2, h3, _⟩ := D.ex
  have hh : ∀ o, H a = some o → Tp o → hide m l H a = some o := fun o e t => by
    unfold hide
    rw [if_neg (fun z => by
      rcases z with z | z
      · rw [z, h1] at e; cases e; exact t
      · rw [z, h3] at e; cases e; exact t)]
    exact e
  rcases h with (h | ⟨o, h⟩) | h
  · exact .inl (.inl (hh _ h trivial))
  · exact .inl (.inr ⟨o, hh _ h trivial⟩)
  · exact .inr h
/-- a tuple of small things, at most so many -/
def Dz (K : PySem.W.Frag) (H : Hp) (v : V) (n : Nat) : Prop := ∃ a xs ds, v = .ref a ∧ SqT K H a xs ∧ DiAll K H xs ds ∧ (∀ d ∈ ds, Sd d) ∧ ds.length ≤ n
theorem Dz.same {K : PySem.W.Frag} {H H' : Hp} {v : V} {n : Nat} (h : Dz K H v n) (s : Same H H') : Dz K H' v n := by
  obtain ⟨a, xs, ds, rfl, h1, h2, h3, h4⟩ := h
  exact ⟨a, xs, ds, rfl, same_tup s h1, diAll_same s h2, h3, h4⟩
theorem Dz.mono {K : PySem.W.Frag} {H : Hp} {v : V} {n n' : Nat} (h : Dz K H v n) (hn : n ≤ n') : Dz K H v n' := by
  obtain ⟨a, xs, ds, rfl, h1, h2, h3, h4⟩ := h
  exact ⟨a, xs, ds, rfl, h1, h2, h3, Nat.le_trans h4 hn⟩
theorem diAll_ints {K : PySem.W.Frag} {H : Hp} : ∀ zs : List Int, DiAll K H (zs.map V.int) (zs.map PyData.int)
  | [] => .nil
  | z :: zs => .cons (.fl rfl (.int z)) (diAll_ints zs)
theorem dz_ints {K : PySem.W.Frag} {H : Hp} {a : Addr} {zs : List Int} (h : SqT K H a (zs.map V.int)) (hz : ∀ z ∈ zs, 0 ≤ z ∧ z ≤ 255) : Dz K H (.ref a) zs.length :=
  ⟨a, _, _, rfl, h, diAll_ints zs, fun d hd => by
    obtain ⟨z, hz', rfl⟩ := List.mem_map.mp hd
    have := hz z hz'
    exact sd_int (by omega), by rw [List.length_map]; exact Nat.le_refl _⟩
theorem dz_cat {K : PySem.W.Frag} {H : Hp} {m c l k n1 n2 : Nat} {v1 v2 : V} {Q : VK} (D : Dr H m c l k) (h1 : Dz K (hide m l H) v1 n1) (h2 : Dz K (hide m l H) v2 n2) (hl : n1 + n2 ≤ 60000)
    (q : ∀ v H', Same H H' → Dr H' m c l k → Dz K (hide m l H') v (n1 + n2) → Q v H') : rCatA K v1 v2 H Q := by
  obtain ⟨a, xs, ds, rfl, a1, a2, a3, a4⟩ := h1
  obtain ⟨b, ys, es, rfl, b1, b2, b3, b4⟩ := h2
  have l1 := diAll_len a2
  have l2 := diAll_len b2
  refine cat_any (same_tup hide_sub a1) (same_tup hide_sub b1) (Nat.le_trans (show _ ≤ 60000 by omega) (by decide)) fun c' H' s hc => ?_
  have D' := D.same s
  refine q _ H' s D' ⟨c', _, _, rfl, sq_hide D' hc, diAll_app (diAll_same (hide_same s) a2) (diAll_same (hide_same s) b2), fun d hd => ?_, by rw [List.length_append]; omega⟩
  rcases List.mem_append.mp hd with h | h
  · exact a3 d h
  · exact b3 d h
theorem dz_cut {K : PySem.W.Frag} {H : Hp} {m c l k n : Nat} {v : V} {lo hi : Option Int} {Q : VK} (D : Dr H m c l k) (h : Dz K (hide m l H) v n)
    (q : ∀ v H', Same H H' → Dr H' m c l k → Dz K (hide m l H') v n → Q v H') : rSlA K v lo hi H Q := by
  obtain ⟨a, xs, ds, rfl, a1, a2, a3, a4⟩ := h
  refine ⟨a, xs, rfl, same_tup hide_sub a1, fun _ => q _ H (Same.refl H) D ⟨a, xs, ds, rfl, a1, a2, a3, a4⟩, fun _ p hp => ?_⟩
  have s := same_new (o := .tup (cutV xs lo hi)) hp
  have D' := D.same s
  refine q _ _ s D' ⟨p, _, _, rfl, sq_hide D' upd_tup, diAll_same (hide_same s) (diAll_take _ (diAll_drop _ a2)), fun d hd => a3 d (List.mem_of_mem_drop (List.mem_of_mem_take hd)), ?_⟩
  rw [List.length_take, List.length_drop]
  omega
theorem dz_one {K : PySem.W.Frag} {H : Hp} {m c l k : Nat} {v : V} {d : PyData} {p : Addr} (D : Dr H m c l k) (h : Di K (hide m l H) v d) (hd : Sd d) (hp : H p = none) : Dr (upd H p (.tup [v])) m c l k ∧ Same H (upd H p (.tup [v])) ∧ Dz K (hide m l (upd H p (.tup [v]))) (.ref p) 1 := by
  have s := same_new (o := .tup [v]) hp
  have D' := D.same s
  refine ⟨D', s, p, [v], [d], rfl, sq_hide D' upd_tup, .cons (h.same (hide_same s)) .nil, fun e he => by rw [List.mem_singleton.mp he]; exact hd, Nat.le_refl _⟩
end My

set_option pp.maxSteps 400
set_option pp.deepTerms false
/-! drawn files, things otherwise, of any things -/
namespace My
open PySem PySem.Spec PyProof.Rows L2
theorem noL_ints (ns : List Int) : noL (.tuple (ns.map .int)) = true := noLs_ints ns
theorem kp_of {m l : Addr} {H H' : Hp} (s : Same H H') : Kp m l H l H' := ⟨fun b o h _ _ => s b o h, .inl rfl, fun b h => by
  cases e : H b with
  | none => rfl
  | some o => rw [s b o e] at h; cases h⟩
/-- these things in a tuple, each small -/
def Dy (K : PySem.W.Frag) (H : Hp) (v : V) (ds : List PyData) : Prop := Dt K H v ds ∧ ∀ d ∈ ds, Sd d
theorem Dy.same {K : PySem.W.Frag} {H H' : Hp} {v : V} {ds : List PyData} (h : Dy K H v ds) (s : Same H H') : Dy K H' v ds := ⟨h.1.same s, h.2⟩
theorem dy_cat {K : PySem.W.Frag} {H : Hp} {m c l k : Nat} {v1 v2 : V} {d1 d2 : List PyData} {Q : VK} (D : Dr H m c l k) (h1 : Dy K (hide m l H) v1 d1) (h2 : Dy K (hide m l H) v2 d2) (hl : d1.length + d2.length ≤ 60000)
    (q : ∀ v H', Same H H' → Dr H' m c l k → Dy K (hide m l H') v (d1 ++ d2) → Q v H') : rCatA K v1 v2 H Q := by
  obtain ⟨⟨a, xs, rfl, a1, a2⟩, a3⟩ := h1
  obtain ⟨⟨b, ys, rfl, b1, b2⟩, b3⟩ := h2
  have l1 := diAll_len a2
  have l2 := diAll_len b2
  refine cat_any (same_tup hide_sub a1) (same_tup hide_sub b1) (Nat.le_trans (show _ ≤ 60000 by omega) (by decide)) fun c' H' s hc => ?_
  have D' := D.same s
  refine q _ H' s D' ⟨⟨c', _, rfl, sq_hide D' hc, diAll_app (diAll_same (hide_same s) a2) (diAll_same (hide_same s) b2)⟩, fun d hd => ?_⟩
  rcases List.mem_append.mp hd with h | h
  · exact a3 d h
  · exact b3 d h
theorem dy_take {K : PySem.W.Frag} {H : Hp} {m c l k i : Nat} {v : V} {ds : List PyData} {Q : VK} (D : Dr H m c l k) (h : Dy K (hide m l H) v ds) (hi : i ≤ ds.length)
    (q : ∀ v H', Same H H' → Dr H' m c l k → Dy K (hide m l H') v (ds.take i) → Q v H') : rSlA K v none (some (i : Int)) H Q := by
  obtain ⟨⟨a, xs, rfl, a1, a2⟩, a3⟩ := h
  have hl := diAll_len a2
  refine sl_takeV (same_tup hide_sub a1) (by omega) fun b H' s hb => ?_
  have D' := D.same s
  exact q _ H' s D' ⟨⟨b, _, rfl, sq_hide D' hb, diAll_take _ (diAll_same (hide_same s) a2)⟩, fun d hd => a3 d (List.mem_of_mem_take hd)⟩
theorem dy_drop {K : PySem.W.Frag} {H : Hp} {m c l k i : Nat} {v : V} {ds : List PyData} {Q : VK} (D : Dr H m c l k) (h : Dy K (hide m l H) v ds)
    (q : ∀ v H', Same H H' → Dr H' m c l k → Dy K (hide m l H') v (ds.drop i) → Q v H') : rSlA K v (some (i : Int)) none H Q := by
  obtain ⟨⟨a, xs, rfl, a1, a2⟩, a3⟩ := h
  have hl := diAll_len a2
  have key : ∀ b H', Same H H' → SqT K H' b (xs.drop i) → Q (.ref b) H' := fun b H' s hb =>
    q _ H' s (D.same s) ⟨⟨b, _, rfl, sq_hide (D.same s) hb, diAll_drop _ (diAll_same (hide_same s) a2)⟩, fun d hd => a3 d (List.mem_of_mem_drop hd)⟩
  by_cases hi : i ≤ xs.length
  · exact sl_dropV (same_tup hide_sub a1) hi key
  · have e : xs.drop i = [] := List.drop_eq_nil_of_le (by omega)
    have es : HT.sIx xs.length 0 (some (i : Int)) = xs.length := by rw [HT.sIx_nat, Nat.min_eq_right (by omega)]
    refine ⟨a, xs, rfl, same_tup hide_sub a1, fun ⟨e0, _⟩ => ?_, fun _ p hp => ?_⟩
    · refine key a H (Same.refl H) ?_
      rw [es] at e0
      rw [e, ← List.length_eq_zero_iff.mp e0]
      exact same_tup hide_sub a1
    · refine key p _ (same_new hp) ?_
      have ec : cutV xs (some (i : Int)) none = xs.drop i := by
        unfold cutV
        rw [es, e, List.drop_eq_nil_of_le (Nat.le_refl _), List.take_nil]
      rw [ec]
      exact upd_tup
theorem dy_cut {K : PySem.W.Frag} {H : Hp} {m c l k : Nat} {v : V} {ds : List PyData} {lo hi : Option Int} {Q : VK} (D : Dr H m c l k) (h : Dy K (hide m l H) v ds)
    (q : ∀ v H' ds', Same H H' → Dr H' m c l k → ds'.length ≤ ds.length → Dy K (hide m l H') v ds' → Q v H') : rSlA K v lo hi H Q := by
  obtain ⟨⟨a, xs, rfl, a1, a2⟩, a3⟩ := h
  refine ⟨a, xs, rfl, same_tup hide_sub a1, fun _ => q _ H _ (Same.refl H) D (Nat.le_refl _) ⟨⟨a, xs, rfl, a1, a2⟩, a3⟩, fun _ p hp => ?_⟩
  have s := same_new (o := .tup (cutV xs lo hi)) hp
  have D' := D.same s
  refine q _ _ _ s D' ?_ ⟨⟨p, _, rfl, sq_hide D' upd_tup, diAll_same (hide_same s) (diAll_take _ (diAll_drop _ a2))⟩, fun d hd => a3 d (List.mem_of_mem_drop (List.mem_of_mem_take hd))⟩
  rw [List.length_take, List.length_drop]
  omega
theorem dy_one {K : PySem.W.Frag} {H : Hp} {m c l k : Nat} {v : V} {d : PyData} {p : Addr} (D : Dr H m c l k) (h : Di K (hide m l H) v d) (hd : Sd d) (hp : H p = none) : Dr (upd H p (.tup [v])) m c l k ∧ Same H (upd H p (.tup [v])) ∧ Dy K (hide m l (upd H p (.tup [v]))) (.ref p) [d] := by
  have s := same_new (o := .tup [v]) hp
  have D' := D.same s
  exact ⟨D', s, ⟨p, [v], rfl, sq_hide D' upd_tup, .cons (h.same (hide_same s)) .nil⟩, fun e he => by rw [List.mem_singleton.mp he]; exact hd⟩
/-- one thing more at most, or a beginning and an end -/
def Bent (ds ds' : List PyData) : Prop := ds'.length ≤ ds.length + 1 ∨ ∃ i j, ds' = ds.take i ++ ds.drop j
/-- so many drawn files of at most 14 codes, one behind the other -/
inductive Pcs (C : Cod) : Nat → List Int → Prop
  | nil : Pcs C 0 []
  | snoc {n : Nat} {zs es : List Int} {s : Int × Int} {row : List Nat} : Pcs C n zs → C.St s → C.Row row → row.length ≤ 14 → FileOf C s row es → Pcs C (n + 1) (zs ++ es)
section
variable {P : Program} {w : World} {K : PySem.W.Frag} {mg : Str → Option Value} {base : Heap}
def sp_law_pieces (K : PySem.W.Frag) : Sp := fun vs H Q _ => ∃ (m c l : Addr) (k : Nat) (x : V) (C : Cod) (many : Nat), vs = [.ref m, x, .int (many : Int)] ∧ 1 ≤ many ∧ many ≤ 3 ∧ C.Ok ∧ Dp K H x C.dat ∧ Dr H m c l (k + 20 * many + 1) ∧
  ∀ z (ds : List Int) l' H', Kp m l H l' H' → Dr H' m c l' k → Dp K H' z (.tuple (ds.map .int)) → (∀ z ∈ ds, 0 ≤ z ∧ z ≤ 255) → ds.length ≤ 112 * many → (∃ n, n ≤ many ∧ Pcs C n ds) → Q z H'
set_option maxHeartbeats 4000000 in
theorem ok_law_pieces (T : Txt K mg) : FnOk P w K mg base CX0 6 T.f__law_pieces T.d__law_pieces ["m", "coder", "many"] (sp_law_pieces K) := by
  refine T.F__law_pieces.ok sc_law_pieces (fun vs H Q E h => ?_) (fun cdv A outer s H vs Q E hr h => ?_)
  · obtain ⟨m, c, l, k, x, C, many, rfl, _⟩ := h
    rfl
  · obtain ⟨m, c, l, k, cv, C, many, rfl, hm1, hm3, O, hc, D0, q⟩ := h
    refine ⟨_,
(pss_cons (ps_set (i := 3) sc_law_pieces.nd rfl (Or.inl rfl) (pe_tup pa_nil))
      (pss_cons (ps_for PassesOwn.never rfl (pi_range1 (by rfl) T.z_range (pa_cons (pe_op op_add pe_int (pe_call (ok_law_next T) (hr.mono (by decide)) (by rfl) T.g__law_next T.F__law_next.kp T.b__law_next .nil pass0 (pa_cons (pv 0) (pa_cons (pv 2) pa_nil)))) pa_nil)) (pg_name (i := 4) sc_law_pieces.nd rfl (Or.inl rfl)) (pss_cons (ps_set (i := 5) sc_law_pieces.nd rfl (Or.inl rfl) (pe_lst (pa_cons (pe_op op_add pe_int (pe_call (ok_law_next T) (hr.mono (by decide)) (by rfl) T.g__law_next T.F__law_next.kp T.b__law_next .nil pass0 (pa_cons (pv 0) (pa_cons (pe_ix ix_list (pe_lst (pa_cons pe_int (pa_cons pe_int (pa_cons pe_int pa_nil)))) (pe_call (ok_law_next T) (hr.mono (by decide)) (by rfl) T.g__law_next T.F__law_next.kp T.b__law_next .nil pass0 (pa_cons (pv 0) (pa_cons pe_int pa_nil))) (fun _ _ => rfl)) pa_nil)))) pa_nil)))
      (pss_one (ps_set (i := 3) sc_law_pieces.nd rfl (Or.inl rfl) (pe_op op_catA (pv 3) (pe_call (ok_law_file T) (hr.mono (by decide)) (by rfl) T.g__law_file T.F__law_file.kp T.b__law_file .nil pass0 (pa_cons (pv 1) (pa_cons (pe_call (ok_law_row T) (hr.mono (by decide)) (by rfl) T.g__law_row T.F__law_row.kp T.b__law_row .nil pass0 (pa_cons (pv 0) (pa_cons (pv 1) (pa_cons pe_int pa_nil)))) (pa_cons (pv 5) (pa_cons (pe_call (ok_law_some_state T) (hr.mono (by decide)) (by rfl) T.g__law_some_state T.F__law_some_state.kp T.b__law_some_state .nil pass0 (pa_cons (pv 0) (pa_cons (pv 1) pa_nil))) pa_nil))))))))))
      (pss_one (ps_ret (pv 3)))))
, ?_⟩
    refine ⟨by show 0 ≤ sizeLine; decide, fun p0 hp0 => ?_⟩
    have s0 := same_new (o := .tup []) hp0
    have D1 := D0.new (o := .tup []) hp0
    have kp1 : Kp m l H l (upd H p0 (.tup [])) := Kp.new hp0
    have hv : Dp K (upd H p0 (.tup [])) (.ref p0) (.tuple (([] : List Int).map .int)) := dp_tints (ns := []) upd_tup
    generalize upd H p0 (.tup []) = H1 at s0 D1 kp1 hv
    refine ⟨_, rfl, _, rfl, m, c, l, k + 20 * many, (many : Int), rfl, by omega, by omega, D1, fun r0 l1 H2 p00 p01 kp2 D2 => ?_⟩
    have kA := (keep_same s0).trans (keep_draw kp2 D1)
    have kpA := kp1.trans kp2
    refine ⟨_, _, rfl, rfl, 1 + r0, rfl, by omega, by omega, ?_⟩
    refine for_range (lo := 0) (n := (1 + r0).toNat) (fun i σ H' => ∃ (y4 y5 : Option V) (v : V) (zs : List Int) (l' : Addr), σ = [some (.ref m), some cv, some (.int (many : Int)), some v, y4, y5] ∧ Kp m l H l' H' ∧ Dr H' m c l' (k + 20 * many - 20 * i) ∧ Keep H H' ∧ Dp K H' v (.tuple (zs.map .int)) ∧ (∀ z ∈ zs, 0 ≤ z ∧ z ≤ 255) ∧ zs.length ≤ 112 * i ∧ Pcs C i zs)
      ⟨none, none, _, [], l1, rfl, kpA, D2, kA, dp_keep (keep_draw kp2 D1) _ _ rfl hv, nofun, Nat.le_refl _, .nil⟩ ?_ ?_
    · rintro i σ H3 hi ⟨y4, y5, v, zs, l3, rfl, kp3, D3, k3, hv3, hz3, hl3, hpc⟩
      have hi : i < many := by omega
      -- sizes
      refine ⟨_, rfl, by show 3 ≤ sizeLine; decide, fun W hW => ?_⟩
      have oW := own_mk (xs := ([3, 9, 255] : List Int).map V.int) D3 hW
      have sW := same_new (o := .lst (([3, 9, 255] : List Int).map V.int)) hW
      have DW : Dr _ m c l3 (k + 20 * many - 20 * (i + 1) + 18 + 1 + 1) := (D3.new (o := .lst (([3, 9, 255] : List Int).map V.int)) hW).less (by omega)
      have kpW : Kp m l3 H3 l3 (upd H3 W (.lst (([3, 9, 255] : List Int).map V.int))) := Kp.new hW
      refine ⟨_, rfl, m, c, l3, k + 20 * many - 20 * (i + 1) + 18 + 1, 3, rfl, by decide, by decide, DW, fun ra lA HA a0 a1 kpa DA => ?_⟩
      obtain ⟨u, hu, hatA⟩ := pick_int (xs := [3, 9, 255]) a0 a1
      have hu : 3 ≤ u ∧ u ≤ 255 := by
        simp only [List.mem_cons, List.not_mem_nil, or_false] at hu
        omega
      refine ⟨W, _, ra, _, rfl, rfl, SqL.of (oW.kp kpa).st, hatA, m, c, lA, k + 20 * many - 20 * (i + 1) + 18, u, rfl, by omega, by omega, DA, fun rb lB HB b0 b1 kpb DB => ⟨1, rb, rfl, rfl, ?_⟩⟩
      refine ⟨by show 1 ≤ sizeLine; decide, fun S hS => ?_⟩
      have oS := own_mk (xs := ([1 + rb] : List Int).map V.int) DB hS
      have sS := same_new (o := .lst (([1 + rb] : List Int).map V.int)) hS
      have DS : Dr (upd HB S (.lst (([1 + rb] : List Int).map V.int))) m c lB (k + 20 * many - 20 * (i + 1) + 3 + 14 + 1) := (DB.new hS).less (by omega)
      have kpS : Kp m lB HB lB (upd HB S (.lst (([1 + rb] : List Int).map V.int))) := Kp.new hS
      have kp4 := (((kp3.trans kpW).trans kpa).trans kpb).trans kpS
      have k34 := (((keep_same sW).trans (keep_draw kpa DW)).trans (keep_draw kpb DA)).trans (keep_same sS)
      clear oW sW sS DW kpW kpS hatA
      have hc4 := dp_keep (k3.trans k34) _ _ (noL_cod C) hc
      have hv4 := dp_keep k34 _ _ (noL_ints zs) hv3
      -- the file
      refine ⟨_, rfl, _, rfl, _, rfl, _, rfl, m, c, lB, k + 20 * many - 20 * (i + 1) + 3, cv, C, 14, rfl, by decide, O, hc4, DS, fun rv row l5 H5 kp5 D5 R hrl hrv => ?_⟩
      have k45 := keep_draw kp5 DS
      have oS5 := oS.kp kp5
      have hc5 := dp_keep k45 _ _ (noL_cod C) hc4
      have hv5 := dp_keep k45 _ _ (noL_ints zs) hv4
      have D5 : Dr H5 m c l5 (k + 20 * many - 20 * (i + 1) + 2) := D5.less (by omega)
      refine ⟨_, rfl, _, rfl, _, rfl, m, c, l5, k + 20 * many - 20 * (i + 1), cv, C, rfl, O, hc5, D5, fun sv st l6 H6 kp6 D6 hst hsv => ?_⟩
      have k56 := keep_draw kp6 D5
      have oS6 := oS5.kp kp6
      have hc6 := dp_keep k56 _ _ (noL_cod C) hc5
      have hv6 := dp_keep k56 _ _ (noL_ints zs) hv5
      have hrv6 := dp_keep k56 _ _ (noL_row row) hrv
      refine ⟨cv, rv, sv, S, C, row, st, [1 + rb], rfl, O, hc6, hrv6, R, SqL.of oS6.st, nofun, fun z hz => by rw [List.mem_singleton.mp hz]; omega, hsv, hst, fun fv es H7 s7 hF hfv => ?_⟩
      obtain ⟨va, rfl, hva⟩ := sig_at' (dp_same s7 _ _ hv6)
      obtain ⟨fa, rfl, hfa⟩ := sig_at' hfv
      have hel := hF.len
      refine cat_ints hva hfa (sz_line (by omega)) fun v8 H8 s8 hv8 => ?_
      have s68 := s7.trans s8
      refine ⟨_, _, _, zs ++ es, l6, rfl, (((kp4.trans kp5).trans kp6).trans (kp_of s68)), D6.same s68, (((k3.trans k34).trans k45).trans k56).trans (keep_same s68), hv8, fun z hz => ?_, by rw [List.length_append]; omega, hpc.snoc hst R hrl hF⟩
      rcases List.mem_append.mp hz with h | h
      · exact hz3 z h
      · exact hF.bd O hst R z h
    · rintro σ H3 ⟨y4, y5, v, zs, l3, rfl, kp3, D3, k3, hv3, hz3, hl3, hpc⟩
      exact ⟨_, rfl, q v zs l3 H3 kp3 (D3.less (by omega)) hv3 hz3 (by omega) ⟨_, by omega, hpc⟩⟩
def sp_law_bent (K : PySem.W.Frag) : Sp := fun vs H Q _ => ∃ (m c l : Addr) (k : Nat) (v : V) (ds : List PyData), vs = [.ref m, v] ∧ Dy K (hide m l H) v ds ∧ ds.length ≤ 2000 ∧ Dr H m c l (k + 5) ∧
  ∀ z l' H' ds', Kp m l H l' H' → Dr H' m c l' k → Bent ds ds' → Dy K (hide m l' H') z ds' → Q z H'
set_option maxHeartbeats 8000000 in
theorem ok_law_bent_data (T : Txt K mg) : FnOk P w K mg base CX0 3 T.f__law_bent_data T.d__law_bent_data ["m", "data"] (sp_law_bent K) := by
  refine T.F__law_bent_data.ok sc_law_bent_data (fun vs H Q E h => ?_) (fun cdv A outer s H vs Q E hr h => ?_)
  · obtain ⟨m, c, l, k, v, ds, rfl, _⟩ := h
    rfl
  · obtain ⟨m, c, l, k, v, ds, rfl, hz0, hl, D0, q⟩ := h
    obtain ⟨⟨a, xs, rfl, hah, hdh⟩, hds⟩ := hz0
    have hxl := diAll_len hdh
    have hz0 : Dy K (hide m l H) (.ref a) ds := ⟨⟨a, xs, rfl, hah, hdh⟩, hds⟩
    have ha := same_tup hide_sub hah
    refine ⟨_,
(pss_cons (ps_par3 (i := 2) (j := 3) (l := 4) (by rfl) sc_law_bent_data.nd rfl rfl rfl (by decide) (by decide) (by decide) rfl rfl rfl (pa_cons (pe_call (ok_law_next T) (hr.mono (by decide)) (by rfl) T.g__law_next T.F__law_next.kp T.b__law_next .nil pass0 (pa_cons (pv 0) (pa_cons (pe_op op_add (pe_callB (call_len_seq) (by rfl) T.z_len (by decide +kernel) (pa_cons (pv 1) pa_nil)) pe_int) pa_nil))) (pa_cons (pe_call (ok_law_next T) (hr.mono (by decide)) (by rfl) T.g__law_next T.F__law_next.kp T.b__law_next .nil pass0 (pa_cons (pv 0) (pa_cons pe_int pa_nil))) (pa_cons (pe_call (ok_law_next T) (hr.mono (by decide)) (by rfl) T.g__law_next T.F__law_next.kp T.b__law_next .nil pass0 (pa_cons (pv 0) (pa_cons (pe_op op_add (pe_callB (call_len_seq) (by rfl) T.z_len (by decide +kernel) (pa_cons (pv 1) pa_nil)) pe_int) pa_nil))) pa_nil))) (by rfl))
      (pss_cons (ps_set (i := 5) sc_law_bent_data.nd rfl (Or.inl rfl) (pe_ix ix_list (pe_lst (pa_cons pe_non (pa_cons pe_bl (pa_cons pe_str (pa_cons (pe_un un_neg pe_int) (pa_cons pe_int (pa_cons (pe_tup (pa_cons pe_int pa_nil)) (pa_cons pe_int (pa_cons pe_int (pa_cons pe_int (pa_cons pe_int (pa_cons pe_int (pa_cons pe_int (pa_cons (My.pe_lstB pa_nil) (pa_cons pe_dnewK (pa_cons (My.pe_lstB (pa_cons pe_int pa_nil)) pa_nil)))))))))))))))) (pe_call (ok_law_next T) (hr.mono (by decide)) (by rfl) T.g__law_next T.F__law_next.kp T.b__law_next .nil pass0 (pa_cons (pv 0) (pa_cons pe_int pa_nil))) (fun _ _ => rfl)))
      (pss_cons (ps_if (pt_cmpR op_lt (pv 3) pe_int (nomark _)) (pss_one (ps_ret (pe_op op_catA (pe_op op_catA (pe_slice sl_tupA (pv 1) po_none (po_some (pv 2))) (pe_tup (pa_cons (pv 5) pa_nil))) (pe_slice sl_tupA (pv 1) (po_some (pe_op op_add (pv 2) pe_int)) po_none)))) pss_nil)
      (pss_cons (ps_if (pt_cmpR op_eq (pv 3) pe_int (nomark _)) (pss_one (ps_ret (pe_op op_catA (pe_op op_catA (pe_slice sl_tupA (pv 1) po_none (po_some (pv 2))) (pe_tup (pa_cons (pe_call (ok_law_next T) (hr.mono (by decide)) (by rfl) T.g__law_next T.F__law_next.kp T.b__law_next .nil pass0 (pa_cons (pv 0) (pa_cons pe_int pa_nil))) pa_nil))) (pe_slice sl_tupA (pv 1) (po_some (pe_op op_add (pv 2) pe_int)) po_none)))) pss_nil)
      (pss_cons (ps_if (pt_cmpR op_eq (pv 3) pe_int (nomark _)) (pss_cons (ps_if (PW.pt (pw_or (pt_cmpR op_eq (pv 2) (pe_callB (call_len_seq) (by rfl) T.z_len (by decide +kernel) (pa_cons (pv 1) pa_nil)) (nomark _)) (pw_or1 (pt_not (pt_val (pe_callB (call_isi) (by rfl) T.z_isinstance (by decide +kernel) (pa_cons (pe_ix ix_tup (pv 1) (pv 2) (fun _ _ => rfl)) (pa_cons (pe_bltn (v := .ty "int") (by rfl) T.z_int (by decide +kernel) rfl) pa_nil)))))))) (pss_one (ps_ret (pe_slice sl_tupA (pv 1) po_none (po_some (pe_un un_neg pe_int))))) pss_nil)
      (pss_one (ps_ret (pe_op op_catA (pe_op op_catA (pe_slice sl_tupA (pv 1) po_none (po_some (pv 2))) (pe_tup (pa_cons (pe_op op_modN (pe_op My.op_addB (pe_ix ix_tup (pv 1) (pv 2) (fun _ _ => rfl)) pe_int) pe_int) pa_nil))) (pe_slice sl_tupA (pv 1) (po_some (pe_op op_add (pv 2) pe_int)) po_none))))) pss_nil)
      (pss_cons (ps_if (pt_cmpR op_eq (pv 3) pe_int (nomark _)) (pss_one (ps_ret (pe_op op_catA (pe_slice sl_tupA (pv 1) po_none (po_some (pv 2))) (pe_slice sl_tupA (pv 1) (po_some (pe_op op_add (pv 2) pe_int)) po_none)))) pss_nil)
      (pss_cons (ps_if (pt_cmpR op_eq (pv 3) pe_int (nomark _)) (pss_one (ps_ret (pe_op op_catA (pe_op op_catA (pe_slice sl_tupA (pv 1) po_none (po_some (pv 2))) (pe_tup (pa_cons (pv 5) pa_nil))) (pe_slice sl_tupA (pv 1) (po_some (pv 2)) po_none)))) pss_nil)
      (pss_cons (ps_if (pt_cmpR op_eq (pv 3) pe_int (nomark _)) (pss_one (ps_ret (pe_slice sl_tupA (pv 1) po_none (po_some (pv 2))))) pss_nil)
      (pss_one (ps_ret (pe_ifExp (pt_cmpR op_eq (pv 3) pe_int (nomark _)) (pe_op op_catA (pe_slice sl_tupA (pv 1) po_none (po_some (pv 2))) (pe_slice sl_tupA (pv 1) (po_some (pv 4)) po_none)) (pe_op op_catA (pv 1) (pe_slice sl_tupA (pv 1) (po_some (pv 2)) po_none)))))))))))))
, ?_⟩
    have D0 : Dr H m c l (k + 4 + 1) := D0
    refine ⟨_, rfl, _, rfl, a, _, rfl, .inr ha, _, _, rfl, rfl, m, c, l, k + 4, (xs.length : Int) + 1, rfl, by omega, by omega, D0, fun at' l1 H1 a0 a1 kp1 D1 => ?_⟩
    have D1 : Dr H1 m c l1 (k + 3 + 1) := D1
    have hz1 := hz0.same (hide_step kp1)
    refine ⟨_, rfl, m, c, l1, k + 3, 9, rfl, by decide, by decide, D1, fun way l2 H2 w0 w1 kp2 D2 => ?_⟩
    have D2 : Dr H2 m c l2 (k + 2 + 1) := D2
    have hz2 := hz1.same (hide_step kp2)
    have ha2 : SqT K H2 a xs := same_tup (hide_kp kp2) (same_tup (hide_step kp1) (sq_hide D0 ha))
    refine ⟨_, rfl, _, rfl, a, _, rfl, .inr ha2, _, _, rfl, rfl, m, c, l2, k + 2, (xs.length : Int) + 1, rfl, by omega, by omega, D2, fun to l3 H3 t0 t1 kp3 D3 => ?_⟩
    have hz3 := hz2.same (hide_step kp3)
    have kp03 := (kp1.trans kp2).trans kp3
    refine ⟨_, _, _, rfl, ?_⟩
    -- odd things
    refine ⟨1, rfl, by show 1 ≤ sizeLine; decide, fun p1 hp1 => ⟨by show 0 ≤ sizeLine; decide, fun p2 hp2 hm2 => fun p3 hp3 => ⟨by show 1 ≤ sizeLine; decide, fun p4 hp4 hm4 => ⟨by show 15 ≤ sizeLine; decide, fun p5 hp5 => ?_⟩⟩⟩⟩
    have sA := same_new (o := .tup [V.int 0]) hp1
    have DA := D3.new (o := .tup [V.int 0]) hp1
    have eA := hide_at (o := .tup [V.int 0]) D3 hp1
    generalize upd H3 p1 (.tup [V.int 0]) = HA at sA DA eA hp2 hp3 hp4 hp5 ⊢
    have sB := same_new (o := .lst []) hp2
    have DB := DA.new (o := .lst []) hp2
    have eB := hide_at (o := .lst []) DA hp2
    generalize upd HA p2 (.lst []) = HB at sB DB eB hp3 hp4 hp5 ⊢
    have sC := same_new (o := .dK []) hp3
    have DC := DB.new (o := .dK []) hp3
    have eC := hide_at (o := .dK []) DB hp3
    generalize upd HB p3 (.dK []) = HC at sC DC eC hp4 hp5 ⊢
    have sD := same_new (o := .lst [V.int 165]) hp4
    have DD := DC.new (o := .lst [V.int 165]) hp4
    have eD := hide_at (o := .lst [V.int 165]) DC hp4
    generalize upd HC p4 (.lst [V.int 165]) = HD at sD DD eD hp5 ⊢
    obtain ⟨odds, hodds⟩ : ∃ odds, odds = [V.non, .bl true, .str "0", .int (-1), .int 256, .ref p1, .int 165, .int 90, .int 0, .int 255, .int 1, .int 16, .ref p2, .ref p3, .ref p4] := ⟨_, rfl⟩
    have hol : odds.length = 15 := by rw [hodds]; rfl
    have oS : Own (upd HD p5 (.lst odds)) m c l3 p5 odds := own_mk DD hp5
    have sE := same_new (o := .lst odds) hp5
    have DE : Dr (upd HD p5 (.lst odds)) m c l3 (k + 1 + 1) := DD.new hp5
    have hall : ∀ v ∈ odds, ∃ d, Di K (hide m l3 (upd HD p5 (.lst odds))) v d ∧ Sd d := by
      intro v hv
      have sBE := ((sB.trans sC).trans sD).trans sE
      have sCE := (sC.trans sD).trans sE
      have sDE := sD.trans sE
      rw [hodds] at hv
      simp only [List.mem_cons, List.not_mem_nil, or_false] at hv
      rcases hv with rfl | rfl | rfl | rfl | rfl | rfl | rfl | rfl | rfl | rfl | rfl | rfl | rfl | rfl | rfl
      · exact ⟨_, .fl rfl .non, Sd.of sh_non (by decide)⟩
      · exact ⟨_, .fl rfl (.bl _), Sd.of sh_bl (by decide)⟩
      · exact ⟨_, .fl rfl (.str _), ⟨rfl, by decide, by decide +kernel⟩⟩
      · exact ⟨_, .fl rfl (.int _), sd_int (by decide)⟩
      · exact ⟨_, .fl rfl (.int _), sd_int (by decide)⟩
      · exact ⟨.tuple [.int 0], .fl rfl (.tup (.inl (.inl (hide_same sBE _ _ eA))) (.cons (.int _) .nil)), ⟨rfl, by decide, by decide +kernel⟩⟩
      · exact ⟨_, .fl rfl (.int _), sd_int (by decide)⟩
      · exact ⟨_, .fl rfl (.int _), sd_int (by decide)⟩
      · exact ⟨_, .fl rfl (.int _), sd_int (by decide)⟩
      · exact ⟨_, .fl rfl (.int _), sd_int (by decide)⟩
      · exact ⟨_, .fl rfl (.int _), sd_int (by decide)⟩
      · exact ⟨_, .fl rfl (.int _), sd_int (by decide)⟩
      · exact ⟨.list [], .ls (hide_same sCE _ _ eB) hm2 .nil rfl, ⟨rfl, by decide, by decide +kernel⟩⟩
      · exact ⟨.dict [], .dk (hide_same sDE _ _ eC), ⟨rfl, by decide, by decide +kernel⟩⟩
      · exact ⟨.list [.int 165], .ls (hide_same sE _ _ eD) hm4 (.cons (.int _) .nil) rfl, ⟨rfl, by decide, by decide +kernel⟩⟩
    have sAE := (((sA.trans sB).trans sC).trans sD).trans sE
    have hz4 := hz3.same (hide_same sAE)
    have kp04 := kp03.trans (kp_of (m := m) (l := l3) sAE)
    have ha4 : SqT K (upd HD p5 (.lst odds)) a xs := same_tup sAE (same_tup (hide_kp kp3) (sq_hide D2 ha2))
    subst hodds
    refine ⟨_, rfl, m, c, l3, k + 1, 15, rfl, by decide, by decide, DE, fun r l4 H4 r0 r1 kp4 D4 => ?_⟩
    obtain ⟨ov, hov, hat⟩ := pick_v r0 (by rw [hol]; exact r1)
    obtain ⟨od, hod, hsd⟩ := hall ov hov
    refine ⟨p5, _, r, ov, rfl, rfl, SqL.of (oS.kp kp4).st, hat, ?_⟩
    have hod := hod.same (hide_step kp4)
    have hz5 := hz4.same (hide_step kp4)
    have ha5 : SqT K H4 a xs := same_tup (hide_kp kp4) (sq_hide DE ha4)
    have kp5 := kp04.trans kp4
    have hd5 : DiAll K H4 xs ds := diAll_same (hide_kp kp4) (diAll_same (hide_same sAE) (diAll_same (hide_step kp3) (diAll_same (hide_step kp2) (diAll_same (hide_step kp1) hdh))))
    clear hall hov hat oS sE sA sB sC sD eA eB eC eD DA DB DC DD hz0 hz1 hz2 hz3 hz4 kp03 kp04 kp1 kp2 kp3 hp1 hp2 hp3 hp4
    obtain ⟨i, rfl⟩ : ∃ i : Nat, at' = (i : Int) := ⟨at'.toNat, by omega⟩
    obtain ⟨j, rfl⟩ : ∃ j : Nat, to = (j : Int) := ⟨to.toNat, by omega⟩
    have hi : i ≤ ds.length := by omega
    by_cases b1 : way < 2
    · refine ⟨_, rfl, _, _, rfl, rfl, _, rfl, ?_⟩
      refine ifYes' (decide_eq_true b1) ?_
      refine ⟨_, rfl, _, rfl, _, rfl, ?_⟩
      refine dy_take D4 hz5 (by omega) fun v1 H6 s6 D6 z6 => ?_
      refine ⟨_, rfl, by show 1 ≤ sizeLine; decide, fun p6 hp6 => ?_⟩
      obtain ⟨D7, s7, z7⟩ := dy_one D6 (hod.same (hide_same s6)) hsd hp6
      refine dy_cat D7 (z6.same (hide_same s7)) z7 (by simp only [List.length_append, List.length_take, List.length_drop, List.length_cons, List.length_nil]; omega) fun v8 H8 s8 D8 z8 => ?_
      have s48 := (s6.trans s7).trans s8
      refine ⟨_, rfl, _, rfl, _, _, rfl, rfl, _, rfl, ?_⟩
      dsimp only [tNoPart]
      refine dy_drop (i := i + 1) D8 (hz5.same (hide_same s48)) fun v9 H9 s9 D9 z9 => ?_
      refine dy_cat D9 (z8.same (hide_same s9)) z9 (by simp only [List.length_append, List.length_take, List.length_drop, List.length_cons, List.length_nil]; omega) fun v10 H10 s10 D10 z10 => ?_
      exact q _ _ _ _ (kp5.trans (kp_of ((s48.trans s9).trans s10))) (D10.less (by omega)) (.inl (by simp only [List.length_append, List.length_take, List.length_drop, List.length_cons, List.length_nil]; omega)) z10
    refine ⟨_, rfl, _, _, rfl, rfl, _, rfl, ?_⟩
    refine ifNo' (decide_eq_false b1) ?_
    refine ⟨_, rfl, rfl, _, rfl, ?_⟩
    by_cases b2 : way = 2
    · refine ifYes' (decide_eq_true (by rw [b2])) ?_
      refine ⟨_, rfl, _, rfl, _, rfl, ?_⟩
      refine dy_take D4 hz5 (by omega) fun v1 H6 s6 D6 z6 => ?_
      refine ⟨_, rfl, m, c, l4, k, 256, rfl, by decide, by decide, D6, fun nb l5 H7 n0 n1 kp6 D7 => ?_⟩
      have z7 := z6.same (hide_step kp6)
      refine ⟨by show 1 ≤ sizeLine; decide, fun p6 hp6 => ?_⟩
      obtain ⟨D8, s8, z8⟩ := dy_one D7 (.fl rfl (.int nb)) (sd_int (by omega)) hp6
      refine dy_cat D8 (z7.same (hide_same s8)) z8 (by simp only [List.length_append, List.length_take, List.length_drop, List.length_cons, List.length_nil]; omega) fun v9 H9 s9 D9 z9 => ?_
      refine ⟨_, rfl, _, rfl, _, _, rfl, rfl, _, rfl, ?_⟩
      dsimp only [tNoPart]
      refine dy_drop (i := i + 1) D9 (((hz5.same (hide_same s6)).same (hide_step kp6)).same (hide_same (s8.trans s9))) fun v10 H10 s10 D10 z10 => ?_
      refine dy_cat D10 (z9.same (hide_same s10)) z10 (by simp only [List.length_append, List.length_take, List.length_drop, List.length_cons, List.length_nil]; omega) fun v11 H11 s11 D11 z11 => ?_
      exact q _ _ _ _ (((kp5.trans (kp_of s6)).trans kp6).trans (kp_of (((s8.trans s9).trans s10).trans s11))) D11 (.inl (by simp only [List.length_append, List.length_take, List.length_drop, List.length_cons, List.length_nil]; omega)) z11
    refine ifNo' (decide_eq_false fun h => b2 (V.int.inj h)) ?_
    refine ⟨_, rfl, rfl, _, rfl, ?_⟩
    by_cases b3 : way = 3
    · refine ifYes' (decide_eq_true (by rw [b3])) ?_
      refine ⟨_, rfl, _, rfl, a, _, rfl, .inr ha5, rfl, _, rfl, ?_⟩
      by_cases b4 : (i : Int) = (xs.length : Int)
      · refine ifYes' (decide_eq_true (by rw [b4])) (ifYes' rfl ?_)
        refine ⟨_, rfl, 1, rfl, _, rfl, ?_⟩
        refine dy_cut D4 hz5 fun v1 H6 ds6 s6 D6 hl6 z6 => ?_
        exact q _ _ _ _ (kp5.trans (kp_of s6)) (D6.less (by omega)) (.inl (by omega)) z6
      refine ifNo' (decide_eq_false fun h => b4 (V.int.inj h)) ?_
      have hi : i < xs.length := by omega
      have hx : xs[i]? = some xs[i] := List.getElem?_eq_getElem hi
      generalize xs[i] = x at hx
      obtain ⟨d, hd1, hd2⟩ := diAll_get hd5 hx
      refine ⟨_, rfl, _, rfl, a, _, _, _, rfl, rfl, ha5, atI_nat hx, _, .ty "int", _, _, _, rfl, .ty _, di_ty hd2, kitI d, _, rfl, ?_⟩
      cases hI : isI d with
      | false =>
        refine ifYes' rfl ?_
        refine ⟨_, rfl, 1, rfl, _, rfl, ?_⟩
        refine dy_cut D4 hz5 fun v1 H6 ds6 s6 D6 hl6 z6 => ?_
        exact q _ _ _ _ (kp5.trans (kp_of s6)) (D6.less (by omega)) (.inl (by omega)) z6
      | true =>
      refine ifNo' rfl ?_
      obtain ⟨w, hw⟩ : ∃ w : Int, (x = .int w ∨ ∃ k, x = .bl k ∧ w = b2i k) := by
        cases hd2 with
        | fl _ h =>
          cases h with
          | int z => exact ⟨z, .inl rfl⟩
          | bl b => exact ⟨_, .inr ⟨b, rfl, rfl⟩⟩
          | non => cases hI
          | str => cases hI
          | lst => cases hI
          | tup => cases hI
        | ls => cases hI
        | dk => cases hI
      refine ⟨_, rfl, _, rfl, _, rfl, ?_⟩
      refine dy_take D4 hz5 (by omega) fun v1 H6 s6 D6 z6 => ?_
      refine ⟨_, rfl, _, rfl, a, _, _, _, rfl, rfl, same_tup s6 ha5, atI_nat hx, w, 1, hw, rfl, _, 256, rfl, rfl, by show (256 : Int) ≠ 0; decide, ?_⟩
      refine ⟨by show 1 ≤ sizeLine; decide, fun p6 hp6 => ?_⟩
      have efm : Int.fmod (w + 1) 256 = (w + 1) % 256 := fmp _ (by decide)
      obtain ⟨D7, s7, z7⟩ := dy_one D6 (.fl rfl (.int (Int.fmod (w + 1) 256))) (sd_int (by rw [efm]; omega)) hp6
      refine dy_cat D7 (z6.same (hide_same s7)) z7 (by simp only [List.length_append, List.length_take, List.length_drop, List.length_cons, List.length_nil]; omega) fun v8 H8 s8 D8 z8 => ?_
      have s48 := (s6.trans s7).trans s8
      refine ⟨_, rfl, _, rfl, _, _, rfl, rfl, _, rfl, ?_⟩
      dsimp only [tNoPart]
      refine dy_drop (i := i + 1) D8 (hz5.same (hide_same s48)) fun v9 H9 s9 D9 z9 => ?_
      refine dy_cat D9 (z8.same (hide_same s9)) z9 (by simp only [List.length_append, List.length_take, List.length_drop, List.length_cons, List.length_nil]; omega) fun v10 H10 s10 D10 z10 => ?_
      exact q _ _ _ _ (kp5.trans (kp_of ((s48.trans s9).trans s10))) (D10.less (by omega)) (.inl (by simp only [List.length_append, List.length_take, List.length_drop, List.length_cons, List.length_nil]; omega)) z10
    refine ifNo' (decide_eq_false fun h => b3 (V.int.inj h)) ?_
    refine ⟨_, rfl, rfl, _, rfl, ?_⟩
    by_cases b4 : way = 4
    · refine ifYes' (decide_eq_true (by rw [b4])) ?_
      refine ⟨_, rfl, _, rfl, _, rfl, ?_⟩
      refine dy_take D4 hz5 (by omega) fun v1 H6 s6 D6 z6 => ?_
      refine ⟨_, rfl, _, rfl, _, _, rfl, rfl, _, rfl, ?_⟩
      dsimp only [tNoPart]
      refine dy_drop (i := i + 1) D6 (hz5.same (hide_same s6)) fun v9 H9 s9 D9 z9 => ?_
      refine dy_cat D9 (z6.same (hide_same s9)) z9 (by simp only [List.length_append, List.length_take, List.length_drop, List.length_cons, List.length_nil]; omega) fun v10 H10 s10 D10 z10 => ?_
      exact q _ _ _ _ (kp5.trans (kp_of ((s6.trans s9).trans s10))) (D10.less (by omega)) (.inl (by simp only [List.length_append, List.length_take, List.length_drop, List.length_cons, List.length_nil]; omega)) z10
    refine ifNo' (decide_eq_false fun h => b4 (V.int.inj h)) ?_
    refine ⟨_, rfl, rfl, _, rfl, ?_⟩
    by_cases b5 : way = 5
    · refine ifYes' (decide_eq_true (by rw [b5])) ?_
      refine ⟨_, rfl, _, rfl, _, rfl, ?_⟩
      refine dy_take D4 hz5 (by omega) fun v1 H6 s6 D6 z6 => ?_
      refine ⟨_, rfl, by show 1 ≤ sizeLine; decide, fun p6 hp6 => ?_⟩
      obtain ⟨D7, s7, z7⟩ := dy_one D6 (hod.same (hide_same s6)) hsd hp6
      refine dy_cat D7 (z6.same (hide_same s7)) z7 (by simp only [List.length_append, List.length_take, List.length_drop, List.length_cons, List.length_nil]; omega) fun v8 H8 s8 D8 z8 => ?_
      have s48 := (s6.trans s7).trans s8
      refine ⟨_, rfl, _, rfl, _, rfl, ?_⟩
      dsimp only [tNoPart]
      refine dy_drop (i := i) D8 (hz5.same (hide_same s48)) fun v9 H9 s9 D9 z9 => ?_
      refine dy_cat D9 (z8.same (hide_same s9)) z9 (by simp only [List.length_append, List.length_take, List.length_drop, List.length_cons, List.length_nil]; omega) fun v10 H10 s10 D10 z10 => ?_
      exact q _ _ _ _ (kp5.trans (kp_of ((s48.trans s9).trans s10))) (D10.less (by omega)) (.inl (by simp only [List.length_append, List.length_take, List.length_drop, List.length_cons, List.length_nil]; omega)) z10
    refine ifNo' (decide_eq_false fun h => b5 (V.int.inj h)) ?_
    refine ⟨_, rfl, rfl, _, rfl, ?_⟩
    by_cases b6 : way = 6
    · refine ifYes' (decide_eq_true (by rw [b6])) ?_
      refine ⟨_, rfl, _, rfl, _, rfl, ?_⟩
      refine dy_take D4 hz5 (by omega) fun v1 H6 s6 D6 z6 => ?_
      exact q _ _ _ _ (kp5.trans (kp_of s6)) (D6.less (by omega)) (.inl (by simp only [List.length_append, List.length_take, List.length_drop, List.length_cons, List.length_nil]; omega)) z6
    refine ifNo' (decide_eq_false fun h => b6 (V.int.inj h)) ?_
    refine ⟨_, rfl, rfl, _, rfl, ?_⟩
    by_cases b7 : way = 7
    · refine ifYes' (decide_eq_true (by rw [b7])) ?_
      refine ⟨_, rfl, _, rfl, _, rfl, ?_⟩
      refine dy_take D4 hz5 (by omega) fun v1 H6 s6 D6 z6 => ?_
      refine ⟨_, rfl, _, rfl, _, rfl, ?_⟩
      dsimp only [tNoPart]
      refine dy_drop (i := j) D6 (hz5.same (hide_same s6)) fun v9 H9 s9 D9 z9 => ?_
      refine dy_cat D9 (z6.same (hide_same s9)) z9 (by simp only [List.length_append, List.length_take, List.length_drop, List.length_cons, List.length_nil]; omega) fun v10 H10 s10 D10 z10 => ?_
      exact q _ _ _ _ (kp5.trans (kp_of ((s6.trans s9).trans s10))) (D10.less (by omega)) (.inr ⟨i, j, rfl⟩) z10
    refine ifNo' (decide_eq_false fun h => b7 (V.int.inj h)) ?_
    refine ⟨_, rfl, _, rfl, _, rfl, _, rfl, ?_⟩
    dsimp only [tNoPart]
    refine dy_drop (i := i) D4 hz5 fun v9 H9 s9 D9 z9 => ?_
    refine dy_cat D9 (hz5.same (hide_same s9)) z9 (by simp only [List.length_append, List.length_take, List.length_drop, List.length_cons, List.length_nil]; omega) fun v10 H10 s10 D10 z10 => ?_
    exact q _ _ _ _ (kp5.trans (kp_of (s9.trans s10))) (D10.less (by omega)) (.inr ⟨ds.length, i, by rw [List.take_length]⟩) z10
end
end My

set_option pp.maxSteps 600
namespace My
open PySem PySem.Spec PyProof.Rows L2 LamX
def FewC (C : Cod) (ds : List PyData) : Prop := ∀ s r, rd C ds = .ok (s, r) → r.length ≤ 2000
/-- what is to be shown of drawn bytes: however they are bent, no more than 2,000 codes are read -/
def BoundOf (C : Cod) (ds : List PyData) : Prop := FewC C ds ∧ ∀ E1, Bent ds E1 → FewC C E1 ∧ ∀ E2, Bent E1 E2 → FewC C (E2 ++ ds.take 6)
def BoundAll : Prop := (∀ (C : Cod) (s : Int × Int) (row : List Nat) (zs : List Int), C.Ok → C.St s → C.Row row → row.length ≤ 40 → FileOf C s row zs → BoundOf C (zs.map .int)) ∧ ∀ (C : Cod) (n : Nat) (zs : List Int), C.Ok → n ≤ 3 → Pcs C n zs → BoundOf C (zs.map .int)
theorem Bent.len {ds E : List PyData} (h : Bent ds E) : E.length ≤ 2 * ds.length + 1 := by
  rcases h with h | ⟨i, j, rfl⟩
  · omega
  · rw [List.length_append, List.length_take, List.length_drop]
    omega
section
variable {P : Program} {w : World} {K : PySem.W.Frag} {mg : Str → Option Value} {base : Heap}
theorem hide_ext {m l : Addr} {H H' : Hp} (e : ExtN H H') : ExtN (hide m l H) (hide m l H') := fun b o h t => by
  have h1 := hide_sub b o h
  have h2 := e b o h1 t
  unfold hide at h ⊢
  by_cases z : b = m ∨ b = l
  · rw [if_pos z] at h
    cases h
  · rw [if_neg z]
    exact h2
theorem Dy.ext {m l : Addr} {H H' : Hp} {v : V} {ds : List PyData} (h : Dy K (hide m l H) v ds) (e : ExtN H H') : Dy K (hide m l H') v ds := ⟨dt_ext (hide_ext e) h.1, h.2⟩
theorem dy_takeG {H : Hp} {m c l k i : Nat} {v : V} {ds : List PyData} {Q : VK} (D : Dr H m c l k) (h : Dy K (hide m l H) v ds)
    (q : ∀ v H', Same H H' → Dr H' m c l k → Dy K (hide m l H') v (ds.take i) → Q v H') : rSlA K v none (some (i : Int)) H Q := by
  have h0 := h
  obtain ⟨⟨a, xs, rfl, a1, a2⟩, a3⟩ := h
  have hl := diAll_len a2
  by_cases hi : i ≤ ds.length
  · exact dy_take D h0 hi q
  · have e : ds.take i = ds := List.take_of_length_le (by omega)
    refine ⟨a, xs, rfl, same_tup hide_sub a1, fun _ => q _ H (Same.refl H) D (by rw [e]; exact h0), fun hn => absurd ⟨HT.sIx_none .., ?_⟩ hn⟩
    rw [HT.sIx_nat, Nat.min_eq_right (by omega)]
theorem dy_ints {H : Hp} {a : Addr} {zs : List Int} (h : SqT K H a (zs.map V.int)) (hz : ∀ z ∈ zs, 0 ≤ z ∧ z ≤ 255) : Dy K H (.ref a) (zs.map .int) :=
  ⟨⟨a, _, rfl, h, diAll_ints zs⟩, fun d hd => by
    obtain ⟨z, hz', rfl⟩ := List.mem_map.mp hd
    have := hz z hz'
    exact sd_int (by omega)⟩
theorem keep_hide {H : Hp} {m c l n : Addr} (D : Dr H m c l n) : Keep H (hide m l H) := fun b o e t => by
  obtain ⟨cs, ls, k, h1, h2, h3, _⟩ := D.ex
  unfold hide
  rw [if_neg (fun z => by
    rcases z with z | z
    · rw [z, h1] at e; cases e; exact t
    · rw [z, h3] at e; cases e; exact t)]
  exact e
/-- what stands in a turn: coder, two drawn tuples -/
structure Bl (K : PySem.W.Frag) (h : Hp) (cv : V) (C : Cod) (d1 : V) (z1 : List PyData) (d2 : V) (z2 : List PyData) : Prop where
  hc : Dp K h cv C.dat
  y1 : Dy K h d1 z1
  y2 : Dy K h d2 z2
theorem Bl.same {h h' : Hp} {cv d1 d2 : V} {C : Cod} {z1 z2 : List PyData} (A : Bl K h cv C d1 z1 d2 z2) (s : Same h h') : Bl K h' cv C d1 z1 d2 z2 := ⟨dp_same s _ _ A.hc, A.y1.same s, A.y2.same s⟩
theorem Bl.ext {m l : Addr} {H H' : Hp} {cv d1 d2 : V} {C : Cod} {z1 z2 : List PyData} (A : Bl K (hide m l H) cv C d1 z1 d2 z2) (e : ExtN H H') : Bl K (hide m l H') cv C d1 z1 d2 z2 := ⟨dp_ext (hide_ext e) _ _ A.hc, A.y1.ext e, A.y2.ext e⟩
theorem right_ok {T : Txt K mg} {H : Hp} {m c l k : Nat} {cv x : V} {C : Cod} {ds : List PyData} {Q : VK} {E : XK} (O : C.Ok) (D : Dr H m c l k) (hc : Dp K (hide m l H) cv C.dat) (hy : Dy K (hide m l H) x ds) (hl : ds.length ≤ 3000) (hg : FewC C ds) (hT : Tabs (TL T) H)
    (q : ∀ H', ExtN H H' → Tabs (TL T) H' → Q (.bl true) H') : sp_law_right T [cv, x] H Q E := by
  obtain ⟨e1, e2, e3⟩ := sd_tup hy.2 hl
  exact ⟨cv, x, ds, C, rfl, O, dp_same hide_sub _ _ hc, hy.1.same hide_sub, e1, e2, e3, by omega, hg, hT, q⟩
def sp_law (K : PySem.W.Frag) (Ps : List Addr) : Sp := fun vs H Q _ => ∃ (a : Addr) (ns : List Int), vs = [.ref a] ∧ SqL K H a (ns.map V.int) ∧ ns.length ≤ 63 ∧ (∀ P ∈ Ps, H P = some (.tbl #[])) ∧ ∀ H', Q (.bl true) H'
set_option maxHeartbeats 8000000 in
theorem ok_lawB (hB : BoundAll) (T : Txt K mg) (TB_law_right : TabB base mg T.c__law_right T.P__law_right) (TB : TabB base mg T.c_law T.P_law) : FnG P w K mg base 18 T.f_law T.d_law ["script"] (sp_law K [T.P__law_right, T.P_law]) := by
  refine okGc T.F_law T.cd_law sc_law (fun vs H Q E h => ?_) (fun A outer s H vs Q E hgd hr h => ?_)
  · obtain ⟨a, ns, rfl, _⟩ := h
    rfl
  · obtain ⟨a, ns, rfl, hS, hl, hP, q⟩ := h
    refine ⟨_,
(pss_cons (ps_set (i := 1) sc_law.nd rfl (Or.inl rfl) (pe_call (ok_law_begun T) (hr.mono (by decide)) (by rfl) T.g__law_begun T.F__law_begun.kp T.b__law_begun .nil pass0 (pa_cons (pv 0) pa_nil)))
      (pss_cons (ps_for PassesOwn.never rfl (pi_range1 (by rfl) T.z_range (pa_cons (pe_op op_add pe_int (pe_callB (call_min2 rfl) (by rfl) T.z_min (by decide +kernel) (pa_cons (pe_callB (call_len_seq) (by rfl) T.z_len (by decide +kernel) (pa_cons (pv 0) pa_nil)) (pa_cons pe_int pa_nil)))) pa_nil)) (pg_name (i := 2) sc_law.nd rfl (Or.inl rfl)) (pss_cons (ps_set (i := 10) sc_law.nd rfl (Or.inr rfl) (pe_call (ok_law_great_coder T) (hr.mono (by decide)) (by rfl) T.g__law_great_coder T.F__law_great_coder.kp T.b__law_great_coder .nil pass0 (pa_cons (pv 1) pa_nil)))
      (pss_cons (ps_par (i := 3) (j := 4) (by rfl) sc_law.nd rfl rfl (by decide) rfl rfl (pa_cons (pe_call (ok_law_row T) (hr.mono (by decide)) (by rfl) T.g__law_row T.F__law_row.kp T.b__law_row .nil pass0 (pa_cons (pv 1) (pa_cons (pv 10) (pa_cons pe_int pa_nil)))) (pa_cons (pe_call (ok_law_some_state T) (hr.mono (by decide)) (by rfl) T.g__law_some_state T.F__law_some_state.kp T.b__law_some_state .nil pass0 (pa_cons (pv 1) (pa_cons (pv 10) pa_nil))) pa_nil)) (by rfl))
      (pss_cons (ps_set (i := 5) sc_law.nd rfl (Or.inl rfl) (pe_call (ok_law_file T) (hr.mono (by decide)) (by rfl) T.g__law_file T.F__law_file.kp T.b__law_file .nil pass0 (pa_cons (pv 10) (pa_cons (pv 3) (pa_cons (pe_lst (pa_cons (pe_op op_add pe_int (pe_call (ok_law_next T) (hr.mono (by decide)) (by rfl) T.g__law_next T.F__law_next.kp T.b__law_next .nil pass0 (pa_cons (pv 1) (pa_cons pe_int pa_nil)))) (pa_cons (pe_op op_add pe_int (pe_call (ok_law_next T) (hr.mono (by decide)) (by rfl) T.g__law_next T.F__law_next.kp T.b__law_next .nil pass0 (pa_cons (pv 1) (pa_cons pe_int pa_nil)))) pa_nil))) (pa_cons (pv 4) pa_nil))))))
      (pss_cons (ps_set (i := 6) sc_law.nd rfl (Or.inl rfl) (pe_call (ok_law_pieces T) (hr.mono (by decide)) (by rfl) T.g__law_pieces T.F__law_pieces.kp T.b__law_pieces .nil pass0 (pa_cons (pv 1) (pa_cons (pv 10) (pa_cons pe_int pa_nil)))))
      (pss_cons (ps_for PassesOwn.never rfl (pi_tup (pe_tup (pa_cons (pv 5) (pa_cons (pv 6) pa_nil)))) (pg_name (i := 7) sc_law.nd rfl (Or.inl rfl)) (pss_cons (ps_if (pt_not (pt_val (My.pe_callG (ok_law_right T TB_law_right) hgd (hr.mono (by decide)) (by rfl) T.g__law_right T.F__law_right.kp T.b__law_right .nil pass0 (pa_cons (pv 10) (pa_cons (pv 7) pa_nil))))) (pss_one (ps_ret pe_bl)) pss_nil)
      (pss_one (ps_for PassesOwn.never rfl (pi_range1 (by rfl) T.z_range (pa_cons pe_int pa_nil)) (pg_name (i := 8) sc_law.nd rfl (Or.inl rfl)) (pss_cons (ps_set (i := 9) sc_law.nd rfl (Or.inl rfl) (pe_call (ok_law_bent_data T) (hr.mono (by decide)) (by rfl) T.g__law_bent_data T.F__law_bent_data.kp T.b__law_bent_data .nil pass0 (pa_cons (pv 1) (pa_cons (pv 7) pa_nil))))
      (pss_one (ps_if (PW.pt (pw_or (pt_not (pt_val (My.pe_callG (ok_law_right T TB_law_right) hgd (hr.mono (by decide)) (by rfl) T.g__law_right T.F__law_right.kp T.b__law_right .nil pass0 (pa_cons (pv 10) (pa_cons (pv 9) pa_nil))))) (pw_or1 (pt_not (pt_val (My.pe_callG (ok_law_right T TB_law_right) hgd (hr.mono (by decide)) (by rfl) T.g__law_right T.F__law_right.kp T.b__law_right .nil pass0 (pa_cons (pv 10) (pa_cons (pe_op op_catA (pe_call (ok_law_bent_data T) (hr.mono (by decide)) (by rfl) T.g__law_bent_data T.F__law_bent_data.kp T.b__law_bent_data .nil pass0 (pa_cons (pv 1) (pa_cons (pv 9) pa_nil))) (pe_slice sl_tupA (pv 7) po_none (po_some pe_int))) pa_nil)))))))) (pss_one (ps_ret pe_bl)) pss_nil)))))))
      (pss_cons (ps_set (i := 11) sc_law.nd rfl (Or.inr rfl) (pe_ix ix_list (pe_lst (pa_cons pe_non (pa_cons (pe_callTy call_list_of (by rfl) T.z_list (by decide +kernel) (pa_cons (pv 5) pa_nil)) (pa_cons pe_str (pa_cons pe_int (pa_cons pe_dnewK (pa_cons (pe_lst (pa_cons pe_int (pa_cons pe_int pa_nil))) pa_nil))))))) (pe_call (ok_law_next T) (hr.mono (by decide)) (by rfl) T.g__law_next T.F__law_next.kp T.b__law_next .nil pass0 (pa_cons (pv 1) (pa_cons pe_int pa_nil))) (fun _ _ => rfl)))
      (pss_one (ps_if (pt_cmpR (op_neD hr.units) (My.pe_outcomeL (k := 12) T (TL T) TB rfl (.tail _ (.head _)) (tl_ok T) (by rfl) (hr.mono (by decide)) (lamS_by (by show lamSB (defScope s_law) _ = true; decide +kernel)) rfl (fun _ _ _ _ _ => rfl) (fun A outer s H E f c' hr => (pe_call (ok_read_file T) (hr.mono (by decide)) (by rfl) T.g_read_file T.F_read_file.kp T.b_read_file .nil (passes_call (takes_of rfl rfl rfl rfl) (fun _ _ _ _ h => h)) (pa_cons (pv 10) (pa_cons (pv 11) pa_nil))))) (pe_tup (pa_cons pe_str (pa_cons pe_non pa_nil))) (nomark _)) (pss_one (ps_ret pe_bl)) pss_nil)))))))))
      (pss_one (ps_ret pe_bl))))
, ?_⟩
    refine ⟨.ref a, rfl, a, ns, rfl, hS, hl, fun m c l H1 s1 hm hc hl0 D1 => ?_⟩
    have hS1 := s1.seq hS
    have T1 : Tabs (TL T) H1 := by
      intro q hq
      unfold TL at hq
      simp only [List.mem_cons, List.not_mem_nil, or_false] at hq
      rcases hq with rfl | rfl
      · exact TabS.nil (s1 _ _ (hP _ (by simp)))
      · exact TabS.nil (s1 _ _ (hP _ (by simp)))
    refine ⟨_, rfl, a, _, rfl, .inl hS1, ?_⟩
    refine ⟨_, 4, rfl, 2, _, rfl, rfl, _, rfl, ?_, ?_, ?_⟩
    · rw [List.length_map]; split <;> omega
    · rw [List.length_map]; split <;> omega
    have hn : (2 + if (4 : Int) < ((ns.map V.int).length : Int) then 4 else ((ns.map V.int).length : Int)).toNat ≤ 6 := by
      rw [List.length_map]
      split <;> omega
    refine for_range (lo := 0) (n := (2 + if (4 : Int) < ((ns.map V.int).length : Int) then 4 else ((ns.map V.int).length : Int)).toNat)
      (fun i σ H' => ∃ x2 x3 x4 x5 x6 x7 x8 x9 x10 x11 l', σ = [some (.ref a), some (.ref m), x2, x3, x4, x5, x6, x7, x8, x9, x10, x11] ∧ Dr H' m c l' (900000 - 1000 * i) ∧ Tabs (TL T) H') ⟨none, none, none, none, none, none, none, none, none, none, l, rfl, D1, T1⟩ ?_ ?_
    · rintro i σ H2 hi ⟨x2, x3, x4, x5, x6, x7, x8, x9, x10, x11, l2, rfl, D2, T2⟩
      have hi5 : i < 6 := by omega
      obtain ⟨N, hN⟩ : ∃ N, N = 900000 - 1000 * (i + 1) := ⟨_, rfl⟩
      have D2 : Dr H2 m c l2 (N + 500 + 60) := D2.less (by omega)
      -- coder
      refine ⟨_, rfl, m, c, l2, N + 500, rfl, D2, fun cv C l3 H3 kp3 D3 O hcv => ?_⟩
      -- row, here
      have D3 : Dr H3 m c l3 (N + 450 + 40 + 1) := D3.less (by omega)
      refine ⟨_, rfl, _, rfl, m, c, l3, N + 450, cv, C, 40, rfl, by decide, O, hcv, D3, fun rv row l4 H4 kp4 D4 R hrl hrv => ?_⟩
      have D4 : Dr H4 m c l4 (N + 448 + 2) := D4
      have hcv4 := dp_keep (keep_draw kp4 D3) _ _ (noL_cod C) hcv
      refine ⟨_, rfl, _, rfl, m, c, l4, N + 448, cv, C, rfl, O, hcv4, D4, fun hv st l5 H5 kp5 D5 hst hhv => ?_⟩
      have k45 := keep_draw kp5 D4
      have hcv5 := dp_keep k45 _ _ (noL_cod C) hcv4
      have hrv5 := dp_keep k45 _ _ (noL_row row) hrv
      refine ⟨_, _, rfl, ?_⟩
      -- data
      have D5 : Dr H5 m c l5 (N + 447 + 1) := D5
      refine ⟨_, rfl, _, rfl, _, rfl, m, c, l5, N + 447, 12, rfl, by decide, by decide, D5, fun r6 l6 H6 a0 a1 kp6 D6 => ⟨1, r6, rfl, rfl, ?_⟩⟩
      have D6 : Dr H6 m c l6 (N + 446 + 1) := D6
      refine ⟨_, rfl, m, c, l6, N + 446, 40, rfl, by decide, by decide, D6, fun r7 l7 H7 b0 b1 kp7 D7 => ⟨1, r7, rfl, rfl, ?_⟩⟩
      have k57 := (keep_draw kp6 D5).trans (keep_draw kp7 D6)
      have hcv7 := dp_keep k57 _ _ (noL_cod C) hcv5
      have hrv7 := dp_keep k57 _ _ (noL_row row) hrv5
      have hhv7 := dp_keep k57 _ _ (noL_pair st) hhv
      refine ⟨by show 2 ≤ sizeLine; decide, fun S hS' => ?_⟩
      have sS := same_new (o := .lst [V.int (1 + r6), V.int (1 + r7)]) hS'
      refine ⟨_, rfl, cv, rv, hv, S, C, row, st, [1 + r6, 1 + r7], rfl, O, dp_same sS _ _ hcv7, dp_same sS _ _ hrv7, R, SqL.of upd_same, nofun, fun z hz => by
        rcases List.mem_cons.mp hz with e | hz
        · omega
        · rw [List.mem_singleton.mp hz]; omega, dp_same sS _ _ hhv7, hst, fun dv zs1 H8 s8 hF hdv => ?_⟩
      have s78 := sS.trans s8
      have D8 : Dr H8 m c l7 (N + 380 + 20 * 3 + 1) := (D7.same s78).less (by omega)
      have hcv8 := dp_same s78 _ _ hcv7
      have kpA := ((((kp3.trans kp4).trans kp5).trans kp6).trans kp7).trans (kp_of s78)
      -- far
      refine ⟨_, rfl, _, rfl, m, c, l7, N + 380, cv, C, 3, rfl, by decide, by decide, O, hcv8, D8, fun fv zs2 l9 H9 kp9 D9 hfv hz2 hl2 hpc => ?_⟩
      obtain ⟨np, hnp, hpc⟩ := hpc
      have k89 := keep_draw kp9 D8
      obtain ⟨a1, rfl, ha1⟩ := sig_at' (dp_keep k89 _ _ (noL_ints zs1) hdv)
      obtain ⟨a2, rfl, ha2⟩ := sig_at' hfv
      have hl1 := hF.len
      have B9 : Bl K (hide m l9 H9) cv C (.ref a1) (zs1.map .int) (.ref a2) (zs2.map .int) := ⟨dp_keep (keep_hide D9) _ _ (noL_cod C) (dp_keep k89 _ _ (noL_cod C) hcv8), dy_ints (sq_hide D9 ha1) (hF.bd O hst R), dy_ints (sq_hide D9 ha2) hz2⟩
      have T9 := tabs_kp T2 (kpA.trans kp9) D2
      have b1 : BoundOf C (zs1.map .int) := hB.1 C st row zs1 O hst R hrl hF
      have b2 : BoundOf C (zs2.map .int) := hB.2 C np zs2 O hnp hpc
      clear hcv hcv4 hcv5 hcv7 hcv8 hrv hrv5 hrv7 hhv hhv7 hdv hfv kp3 kp4 kp5 kp6 kp7 kp9 kpA k45 k57 k89 s78 sS s8 D2 D3 D4 D5 D6 D7 D8 T2 ha1 ha2
      -- over both
      refine ⟨_, rfl, _, rfl, by show 2 ≤ sizeLine; decide, fun t ht => ?_⟩
      have st1 := same_new (o := .tup [V.ref a1, .ref a2]) ht
      have tH := hide_at (o := .tup [V.ref a1, .ref a2]) D9 ht
      have DT := D9.same st1
      have BT := B9.same (hide_same st1)
      have TT := tabs_same T9 st1
      refine ⟨t, rfl, ⟨_, upd_tup⟩, ?_⟩
      refine for_tup (K := K) (a := t) (xs := [V.ref a1, .ref a2]) (fun j σ H' => ∃ y7 y8 y9 l', σ = [some (.ref a), some (.ref m), some (.int (0 + (i : Int))), some rv, some hv, some (.ref a1), some (.ref a2), y7, y8, y9, some cv, x11] ∧ Dr H' m c l' (N + 200 - 60 * j) ∧ Bl K (hide m l' H') cv C (.ref a1) (zs1.map .int) (.ref a2) (zs2.map .int) ∧ hide m l' H' t = some (.tup [V.ref a1, .ref a2]) ∧ Tabs (TL T) H')
        ⟨_, _, _, l9, rfl, DT.less (by omega), BT, tH, TT⟩ ?_ ?_ ?_
      · rintro j σ H' _ ⟨_, _, _, l', _, _, _, hT, _⟩
        exact .inl (.inl (hide_sub _ _ hT))
      · rintro j v σ Ha hj ⟨y7, y8, y9, la, rfl, Da, Ba, hTa, Ta⟩
        have hj2 : j < 2 := (List.getElem?_eq_some_iff.mp hj).1
        obtain ⟨zs, hy, hzl, hbd⟩ : ∃ zs : List Int, Dy K (hide m la Ha) v (zs.map .int) ∧ zs.length ≤ 400 ∧ BoundOf C (zs.map .int) := by
          match j, hj with
          | 0, hj => cases hj; exact ⟨zs1, Ba.y1, by omega, b1⟩
          | 1, hj => cases hj; exact ⟨zs2, Ba.y2, by omega, b2⟩
          | n + 2, hj => exact absurd hj2 (by omega)
        have hzm : (zs.map PyData.int).length = zs.length := List.length_map ..
        refine ⟨_, rfl, _, rfl, ?_⟩
        dsimp only [tNil]
        refine right_ok O Da Ba.hc hy (by omega) hbd.1 Ta fun Hb eb tb => ?_
        refine ⟨true, rfl, ifNo' rfl ?_⟩
        refine ⟨4, rfl, by decide, by decide, ?_⟩
        refine for_range (lo := 0) (n := 4) (fun i' σ H' => ∃ y8 y9 l', σ = [some (.ref a), some (.ref m), some (.int (0 + (i : Int))), some rv, some hv, some (.ref a1), some (.ref a2), some v, y8, y9, some cv, x11] ∧ Dr H' m c l' (N + 200 - 60 * j - 10 * i') ∧ Bl K (hide m l' H') cv C (.ref a1) (zs1.map .int) (.ref a2) (zs2.map .int) ∧ Dy K (hide m l' H') v (zs.map .int) ∧ hide m l' H' t = some (.tup [V.ref a1, .ref a2]) ∧ Tabs (TL T) H')
          ⟨_, _, la, rfl, (dr_ext Da eb).less (by omega), Ba.ext eb, hy.ext eb, hide_ext eb _ _ hTa nofun, tb⟩ ?_ ?_
        · rintro i' σ Hc hi' ⟨y8, y9, lc, rfl, Dc, Bc, hyc, hTc, Tc⟩
          have hi' : i' < 4 := by omega
          have Dc : Dr Hc m c lc (N + 200 - 60 * j - 10 * (i' + 1) + 5 + 5) := Dc.less (by omega)
          refine ⟨_, rfl, _, rfl, m, c, lc, N + 200 - 60 * j - 10 * (i' + 1) + 5, v, zs.map .int, rfl, hyc, by omega, Dc, fun bv ld Hd E1 kpd Dd hb1 hyd => ?_⟩
          have Bd := Bc.same (hide_step kpd)
          have hyv := hyc.same (hide_step kpd)
          have hTd := hide_step kpd _ _ hTc
          have Td := tabs_kp Tc kpd Dc
          have hE1 := hb1.len
          refine ⟨_, rfl, _, rfl, ?_⟩
          dsimp only [tNil]
          refine right_ok O Dd Bd.hc hyd (by omega) (hbd.2 E1 hb1).1 Td fun He ee te => ⟨true, rfl, ifNo' rfl ?_⟩
          have De := dr_ext Dd ee
          have Be := Bd.ext ee
          refine ⟨_, rfl, _, rfl, _, rfl, m, c, ld, N + 200 - 60 * j - 10 * (i' + 1), bv, E1, rfl, hyd.ext ee, by omega, De, fun bw lf Hf E2 kpf Df hb2 hyf => ?_⟩
          have hE2 := hb2.len
          have Bf := Be.same (hide_step kpf)
          have hyvf := (hyv.ext ee).same (hide_step kpf)
          have hTf := hide_step kpf _ _ (hide_ext ee _ _ hTd nofun)
          have Tf := tabs_kp te kpf De
          refine ⟨_, rfl, 6, rfl, ?_⟩
          refine dy_takeG (i := 6) Df hyvf fun x1 Hg sg Dg hyg => ?_
          refine dy_cat Dg (hyf.same (hide_same sg)) hyg (by rw [List.length_take]; omega) fun x2 Hh sh Dh hyh => ?_
          have sgh := sg.trans sh
          have Bh := Bf.same (hide_same sgh)
          dsimp only [tNil]
          refine right_ok O Dh Bh.hc hyh (by rw [List.length_append, List.length_take]; omega) ((hbd.2 E1 hb1).2 E2 hb2) (tabs_same Tf sgh) fun Hi ei ti => ⟨true, rfl, ifNo' rfl ?_⟩
          exact ⟨_, _, lf, rfl, dr_ext Dh ei, Bh.ext ei, (hyvf.same (hide_same sgh)).ext ei, hide_ext ei _ _ (hide_same sgh _ _ hTf) nofun, ti⟩
        · rintro σ Hc ⟨y8, y9, lc, rfl, Dc, Bc, hyc, hTc, Tc⟩
          exact ⟨_, _, _, lc, rfl, Dc.less (by omega), Bc, hTc, Tc⟩
      · rintro σ H28 ⟨y7, y8, y9, l20, rfl, D28, B28, hT28, T28⟩
        have hc28 := dp_same hide_sub _ _ B28.hc
        obtain ⟨⟨da, dxs, eda, t28, _⟩, _⟩ := B28.y1
        cases eda
        have t28 := same_tup hide_sub t28
        refine ⟨_, rfl, a1, _, rfl, .inr t28, fun N1 hN1 N2 hN2 => ⟨by show 2 ≤ sizeLine; decide, fun N3 hN3 => ⟨by show 6 ≤ sizeLine; decide, fun L2 hL2 => ?_⟩⟩⟩
        have sN := same_new (o := .lst dxs) hN1
        have sN2 := same_new (o := .dK []) hN2
        have sN3 := same_new (o := .lst [V.int 165, V.int 90]) hN3
        obtain ⟨OL, hOL⟩ : ∃ OL : List V, OL = [.non, .ref N1, .str "", .int 0, .ref N2, .ref N3] := ⟨_, rfl⟩
        have DN1 := D28.new (o := .lst dxs) hN1
        have DN2 := DN1.new (o := .dK []) hN2
        have DN3 := DN2.new (o := .lst [V.int 165, V.int 90]) hN3
        have oL := own_mk (xs := OL) DN3 hL2
        have sL := same_new (o := .lst OL) hL2
        have DL := DN3.new (o := .lst OL) hL2
        have h1 := hide_same ((sN2.trans sN3).trans sL) _ _ (hide_at (o := .lst dxs) D28 hN1)
        have h2 := hide_same (sN3.trans sL) _ _ (hide_at (o := .dK []) DN1 hN2)
        have h3 := hide_same sL _ _ (hide_at (o := .lst [V.int 165, V.int 90]) DN2 hN3)
        have TL' := tabs_same T28 (((sN.trans sN2).trans sN3).trans sL)
        have hcL := dp_same (((sN.trans sN2).trans sN3).trans sL) _ _ hc28
        rw [hOL] at oL DL TL' h1 h2 h3 hcL
        have DL : Dr _ m c l20 (N + 50 + 1) := DL.less (by show N + 50 + 1 ≤ N + 200 - 60 * 2; omega)
        refine ⟨_, rfl, m, c, l20, N + 50, 6, rfl, by decide, by decide, DL, fun rd' lG HG d0 d1 kpG DG => ?_⟩
        obtain ⟨nv, hnv, hatG⟩ := pick_v (xs := OL) d0 (by rw [hOL]; exact d1)
        have TG := tabs_kp TL' kpG DL
        have hcvG := dp_keep (keep_draw kpG DL) _ _ (noL_cod C) hcL
        have g1 := hide_kp kpG _ _ h1
        have g2 := hide_kp kpG _ _ h2
        have g3 := hide_kp kpG _ _ h3
        have hth : ∀ H', ExtN HG H' → Th K H' nv none := by
          intro H' e
          rw [hOL] at hnv
          simp only [List.mem_cons, List.not_mem_nil, or_false] at hnv
          rcases hnv with z | z | z | z | z | z <;> subst z
          · exact ⟨"NoneType", tyx .non, kitT .none⟩
          · exact ⟨"list", .base (.lst (e _ _ g1 nofun)), kitT (.list [])⟩
          · exact ⟨"str", tyx (.str ""), kitT (.str "")⟩
          · exact ⟨"int", tyx (.int 0), kitT (.int 0)⟩
          · exact ⟨"dict", .base (.dK (e _ _ g2 nofun)), kitT (.dict [])⟩
          · exact ⟨"list", .base (.lst (e _ _ g3 nofun)), kitT (.list [])⟩
        refine ⟨L2, _, rd', nv, rfl, rfl, SqL.of (oL.kp kpG).st, by rw [← hatG, hOL], ?_⟩
        refine ⟨TG, fun H1 e1 t1 H2 s2 Q2 _ => ⟨_, rfl, _, rfl, ?_⟩⟩
        have e12 := e1.trans (ext_same s2)
        dsimp only [tNil]
        refine .inl ⟨cv, nv, C.dat, none, rfl, dp_ext e12 _ _ hcvG, hth _ e12, fun y z h => fltV_cod O h, fun _ => ⟨rfl, byte_E (n := .none) (fun _ _ => .non) fun z H3 s3 hz => ?_⟩⟩
        refine ⟨by show 2 ≤ sizeLine; decide, fun p hp => neD_same (dp_same (same_new hp) _ _ hz) (.tup upd_tup (.cons (.str _) (.cons .non .nil))) (by decide +kernel) ?_⟩
        have sE := (s2.trans s3).trans (same_new (o := .tup [V.str "byte", V.non]) hp)
        exact ⟨_, _, _, _, _, _, _, _, _, _, lG, rfl, (dr_ext DG (e1.trans (ext_same sE))).less (by omega), tabs_same t1 sE⟩
    · rintro σ H2 ⟨x2, x3, x4, x5, x6, x7, x8, x9, x10, x11, l2, rfl, D2, T2⟩
      exact q H2
end
end My

set_option pp.maxSteps 600
/-! no drawn tuple of bytes, however bent, can be read as a file of more than 2,000 codes: its first piece is read as the blocks that were written -/
namespace My
open PySem PySem.Spec PyProof.Rows L2 LamX
theorem blkR_size {C : Cod} {ds : List PyData} {b : Nat} {kn : Option (Int × Int)} {s : Int × Int} {r : List Nat} {e : Nat} (h : blkR C ds b kn = .ok (s, r, e)) :
    ∃ n : Nat, 1 ≤ n ∧ n ≤ 255 ∧ ds[b + 5]? = some (.int (n : Int)) ∧ e = b + 7 + (n + 1) / 2 ∧ r.length ≤ n ∧ e ≤ ds.length := by
  have he := (blkR_end h).2.1
  unfold blkR at h
  split at h
  · cases h
  split at h
  · cases h
  split at h
  · cases h
  split at h
  · cases h
  rename_i n hn
  split at h
  · cases h
  split at h
  · cases h
  injection h with h
  injection h with h1 h
  injection h with h2 h3
  obtain ⟨n0, n1, n2, n3, _⟩ := need_ok hn
  have n3 := of_decide_eq_true n3
  refine ⟨n.toNat, by omega, by omega, ?_, by omega, ?_, he⟩
  · rw [n0, Int.toNat_of_nonneg n1]
  · rw [← h2, List.length_take]
    omega
theorem rdF_tail {C : Cod} {E : List PyData} : ∀ (f i : Nat) (kn : Option (Int × Int)) (first : Int × Int) (cs : List Nat) (s : Int × Int) (r : List Nat), i ≤ E.length → rdF C E f i kn first cs = .ok (s, r) →
    ∃ k, r.length ≤ cs.length + 255 * k ∧ r.length + 14 * k + 2 * i ≤ cs.length + 2 * E.length
  | 0, i, kn, first, cs, s, r, hi, h => by
    injection h with h
    injection h with h1 h2
    subst h2
    exact ⟨0, by omega, by omega⟩
  | f + 1, i, kn, first, cs, s, r, hi, h => by
    have h : (if i < E.length then _ else _) = _ := h
    split at h
    · cases b : blkR C E i kn with
      | error e => rw [b] at h; cases h
      | ok t =>
        obtain ⟨s1, r1, e⟩ := t
        rw [b] at h
        obtain ⟨n, n1, n2, _, n4, n5, n6⟩ := blkR_size b
        obtain ⟨k, k1, k2⟩ := rdF_tail f e _ _ _ s r n6 h
        rw [List.length_append] at k1 k2
        exact ⟨k + 1, by omega, by omega⟩
    · injection h with h
      injection h with h1 h2
      subst h2
      exact ⟨0, by omega, by omega⟩
/-- bytes that were written: blocks of at most M codes, N codes in all -/
inductive Bks (M : Nat) : Nat → List PyData → Prop
  | nil : Bks M 0 []
  | cons {N n : Nat} {b D : List PyData} : n ≤ M → b.length = 7 + (n + 1) / 2 → b[5]? = some (.int (n : Int)) → Bks M N D → Bks M (n + N) (b ++ D)
theorem Bks.app {M N N' : Nat} {D D' : List PyData} (h : Bks M N D) (h' : Bks M N' D') : Bks M (N + N') (D ++ D') := by
  induction h with
  | nil => rw [Nat.zero_add]; exact h'
  | cons h1 h2 h3 _ ih =>
    rw [Nat.add_assoc, List.append_assoc]
    exact .cons h1 h2 h3 ih
theorem rdF_head {C : Cod} {M : Nat} {R : List PyData} {s : Int × Int} {r : List Nat} {N : Nat} {D : List PyData} (hD : Bks M N D) : ∀ (i : Nat) (pre E : List PyData) (f : Nat) (kn : Option (Int × Int)) (first : Int × Int) (cs : List Nat), E = pre ++ (D.take i ++ R) → rdF C E f pre.length kn first cs = .ok (s, r) →
    r.length ≤ cs.length + N + 1785 ∨ r.length + 112 ≤ cs.length + N + 2 * (R.length + 6 + (M + 1) / 2) := by
  have fin : ∀ (pre E : List PyData) (x f : Nat) (kn : Option (Int × Int)) (first : Int × Int) (cs : List Nat) (N : Nat), E.length = pre.length + x → x ≤ R.length + 6 + (M + 1) / 2 → rdF C E f pre.length kn first cs = .ok (s, r) →
      r.length ≤ cs.length + N + 1785 ∨ r.length + 112 ≤ cs.length + N + 2 * (R.length + 6 + (M + 1) / 2) := by
    intro pre E x f kn first cs N hE hx h
    obtain ⟨k, k1, k2⟩ := rdF_tail f _ _ _ _ s r (by omega) h
    by_cases hk : k ≤ 7
    · exact .inl (by omega)
    · exact .inr (by omega)
  induction hD with
  | nil =>
    intro i pre E f kn first cs hE h
    have := fin pre E R.length f kn first cs 0 (by rw [hE, List.take_nil, List.nil_append, List.length_append]) (by omega) h
    omega
  | @cons N n b D n1 n2 n3 _ ih =>
    intro i pre E f kn first cs hE h
    by_cases hi : i < b.length
    · refine fin pre E (i + R.length) f kn first cs _ ?_ (by omega) h
      rw [hE, List.length_append, List.length_append, List.length_take, List.length_append]
      omega
    · have hE' : E = (pre ++ b) ++ (D.take (i - b.length) ++ R) := by
        rw [hE, List.take_append, List.take_of_length_le (by omega)]
        simp only [List.append_assoc]
      have hl : E.length = pre.length + b.length + (D.take (i - b.length) ++ R).length := by rw [hE', List.length_append, List.length_append]
      cases f with
      | zero =>
        injection h with h
        injection h with h1 h2
        subst h2
        exact .inl (by omega)
      | succ f =>
        have h : (if pre.length < E.length then _ else _) = _ := h
        rw [if_pos (by omega)] at h
        cases bb : blkR C E pre.length kn with
        | error e => rw [bb] at h; cases h
        | ok t =>
          obtain ⟨s1, r1, e⟩ := t
          rw [bb] at h
          obtain ⟨q, q1, q2, q3, q4, q5, q6⟩ := blkR_size bb
          have q3' : E[pre.length + 5]? = b[5]? := by
            rw [hE', List.append_assoc, List.getElem?_append_right (by omega), Nat.add_sub_cancel_left, List.getElem?_append_left (by omega)]
          rw [q3', n3] at q3
          injection q3 with q3
          injection q3 with q3
          have he : e = (pre ++ b).length := by
            rw [List.length_append]
            omega
          have h : rdF C E f e _ _ _ = _ := h
          rw [he] at h
          have := ih (i - b.length) (pre ++ b) E f _ _ _ hE' h
          rw [List.length_append] at this
          omega
theorem blk_bks {M : Nat} {s : Int × Int} {row : List Nat} (h : row.length ≤ M) : Bks M row.length ((blk s row).map .int) := by
  have : Bks M (row.length + 0) ((blk s row).map .int ++ []) := .cons h (by rw [List.length_map, blk_len]) rfl .nil
  rwa [List.append_nil] at this
theorem fileB_bks {C : Cod} {M : Nat} : ∀ {rs : List (List Nat)} (s : Int × Int), (∀ r ∈ rs, r.length ≤ M) → Bks M rs.flatten.length ((fileB C s rs).map .int)
  | [], _, _ => .nil
  | r :: rs, s, h => by
    show Bks M _ ((blk s r ++ fileB C (C.run s r) rs).map .int)
    rw [List.map_append, List.flatten_cons, List.length_append]
    exact (blk_bks (h r List.mem_cons_self)).app (fileB_bks (C.run s r) fun q hq => h q (List.mem_cons_of_mem _ hq))
theorem flat_le : ∀ {rs : List (List Nat)} {r : List Nat}, r ∈ rs → r.length ≤ rs.flatten.length
  | q :: rs, r, h => by
    rw [List.flatten_cons, List.length_append]
    rcases List.mem_cons.mp h with rfl | h
    · omega
    · have := flat_le h
      omega
theorem FileOf.bks {C : Cod} {s : Int × Int} {row : List Nat} {ds : List Int} {M : Nat} (h : FileOf C s row ds) (hM : row.length ≤ M) : Bks M row.length (ds.map .int) := by
  obtain ⟨rs, p, rfl, rfl⟩ := h
  exact fileB_bks s fun r hr => Nat.le_trans (flat_le hr) hM
theorem pcs_bks {C : Cod} {n : Nat} {zs : List Int} (h : Pcs C n zs) : ∃ N, N ≤ 14 * n ∧ Bks 14 N (zs.map .int) ∧ zs.length ≤ 112 * n := by
  induction h with
  | nil => exact ⟨0, Nat.le_refl _, .nil, Nat.le_refl _⟩
  | snoc h h1 h2 h3 h4 ih =>
    obtain ⟨N, e1, e2, e3⟩ := ih
    refine ⟨N + _, ?_, by rw [List.map_append]; exact e2.app (h4.bks h3), ?_⟩
    · omega
    · have := h4.len
      rw [List.length_append]
      omega
theorem few_len {C : Cod} {E : List PyData} (h : E.length ≤ 1000) : FewC C E := by
  intro s r e
  obtain ⟨k, _, k2⟩ := rdF_tail _ _ _ _ _ s r (Nat.zero_le _) (show rdF C E E.length 0 none (0, 0) [] = _ from e)
  rw [List.length_nil] at k2
  omega
theorem few_any {C : Cod} {E : List PyData} (h : E.length ≤ 1056) : FewC C E := by
  intro s r e
  obtain ⟨k, k1, k2⟩ := rdF_tail _ _ _ _ _ s r (Nat.zero_le _) (show rdF C E E.length 0 none (0, 0) [] = _ from e)
  rw [List.length_nil] at k1 k2
  omega
theorem few_head {C : Cod} {M N i : Nat} {D R E : List PyData} (hD : Bks M N D) (hE : E = D.take i ++ R) (hN : N ≤ 42) (hR : N + 2 * (R.length + 6 + (M + 1) / 2) ≤ 2112) : FewC C E := by
  intro s r e
  have := rdF_head hD i [] E E.length none (0, 0) [] hE (show rdF C E E.length 0 none (0, 0) [] = _ from e)
  rw [List.length_nil] at this
  omega
theorem bound_of {C : Cod} {M N : Nat} {D : List PyData} (hD : Bks M N D) (hN : N ≤ 42) (hL : D.length ≤ 336) (hM : N + 2 * (3 * D.length + 12 + (M + 1) / 2) ≤ 2112) : BoundOf C D := by
  refine ⟨few_len (by omega), fun E1 h1 => ⟨?_, fun E2 h2 => ?_⟩⟩
  · have := h1.len
    exact few_len (by omega)
  · have l1 := h1.len
    have l2 := h2.len
    have l6 : (D.take 6).length ≤ 6 := by rw [List.length_take]; omega
    have lE : (E2 ++ D.take 6).length ≤ E2.length + 6 := by rw [List.length_append]; omega
    rcases h2 with h2 | ⟨i', j', rfl⟩
    · exact few_len (by omega)
    rcases h1 with h1 | ⟨i, j, rfl⟩
    · exact few_len (by omega)
    by_cases hi : i' ≤ (D.take i).length
    · refine few_any ?_
      have : ((D.take i ++ D.drop j).take i').length ≤ D.length := by
        rw [List.length_take]
        rw [List.length_take] at hi
        omega
      rw [List.length_append, List.length_append]
      have : ((D.take i ++ D.drop j).drop j').length ≤ 2 * D.length := by
        rw [List.length_drop, List.length_append, List.length_take, List.length_drop]
        omega
      omega
    · refine few_head (i := i) (R := (D.drop j).take (i' - (D.take i).length) ++ (D.take i ++ D.drop j).drop j' ++ D.take 6) hD ?_ hN ?_
      · rw [List.take_append (l₁ := D.take i), List.take_of_length_le (by omega)]
        simp only [List.append_assoc]
      · have a1 : ((D.drop j).take (i' - (D.take i).length)).length ≤ D.length := by
          rw [List.length_take, List.length_drop]
          omega
        have a2 : ((D.take i ++ D.drop j).drop j').length ≤ 2 * D.length := by
          rw [List.length_drop, List.length_append, List.length_take, List.length_drop]
          omega
        have a3 : ((D.drop j).take (i' - (D.take i).length) ++ (D.take i ++ D.drop j).drop j' ++ D.take 6).length ≤ 3 * D.length + 6 := by
          rw [List.length_append, List.length_append]
          omega
        omega
theorem boundAll : BoundAll := by
  refine ⟨fun C s row zs O hs R hr hF => ?_, fun C n zs O hn hp => ?_⟩
  · have := hF.len
    exact bound_of (hF.bks hr) (by omega) (by rw [List.length_map]; omega) (by rw [List.length_map]; omega)
  · obtain ⟨N, e1, e2, e3⟩ := pcs_bks hp
    exact bound_of e2 (by omega) (by rw [List.length_map]; omega) (by rw [List.length_map]; omega)
section
variable {P : Program} {w : World} {K : PySem.W.Frag} {mg : Str → Option Value} {base : Heap}
theorem ok_law (T : Txt K mg) (TB_law_right : TabB base mg T.c__law_right T.P__law_right) (TB : TabB base mg T.c_law T.P_law) : FnG P w K mg base 18 T.f_law T.d_law ["script"] (sp_law K [T.P__law_right, T.P_law]) := ok_lawB boundAll T TB_law_right TB
end
end My

set_option pp.maxSteps 1200
namespace My
open PySem PySem.Spec PyProof.Rows L2 LamX
set_option maxHeartbeats 0 in
theorem all_mk {l : PySem.W.OpenLaw} {w : World} {K : PySem.W.Frag} {h : Heap} {mg : Str → Option Value} {fa : Addr} (X : K.In h) (G : h.Ns mainGlobals mg) (hfa : mg "law" = some (.ref fa)) (own : ∀ nm ∈ (["_law_right", "law"] : List Str), ∀ f, mg nm = some (.ref f) → OwnTab K f h)
    {oc0 kV0 dc0 pm0 cd0 ct0 : Value} {od0 an0 : Option Addr} {sl0 : Array (Option Value)} {f0 : Addr}
    {oc1 kV1 dc1 pm1 cd1 ct1 : Value} {od1 an1 : Option Addr} {sl1 : Array (Option Value)} {f1 : Addr}
    {oc2 kV2 dc2 pm2 cd2 ct2 : Value} {od2 an2 : Option Addr} {sl2 : Array (Option Value)} {f2 : Addr}
    {oc3 kV3 dc3 pm3 cd3 ct3 : Value} {od3 an3 : Option Addr} {sl3 : Array (Option Value)} {f3 : Addr}
    {oc4 kV4 dc4 pm4 cd4 ct4 : Value} {od4 an4 : Option Addr} {sl4 : Array (Option Value)} {f4 : Addr}
    {oc5 kV5 dc5 pm5 cd5 ct5 : Value} {od5 an5 : Option Addr} {sl5 : Array (Option Value)} {f5 : Addr}
    {oc6 kV6 dc6 pm6 cd6 ct6 : Value} {od6 an6 : Option Addr} {sl6 : Array (Option Value)} {f6 : Addr}
    {oc7 kV7 dc7 pm7 cd7 ct7 : Value} {od7 an7 : Option Addr} {sl7 : Array (Option Value)} {f7 : Addr}
    {oc8 kV8 dc8 pm8 cd8 ct8 : Value} {od8 an8 : Option Addr} {sl8 : Array (Option Value)} {f8 : Addr}
    {oc9 kV9 dc9 pm9 cd9 ct9 : Value} {od9 an9 : Option Addr} {sl9 : Array (Option Value)} {f9 : Addr}
    {oc10 kV10 dc10 pm10 cd10 ct10 : Value} {od10 an10 : Option Addr} {sl10 : Array (Option Value)} {f10 : Addr}
    {oc11 kV11 dc11 pm11 cd11 ct11 : Value} {od11 an11 : Option Addr} {sl11 : Array (Option Value)} {f11 : Addr}
    {oc12 kV12 dc12 pm12 cd12 ct12 : Value} {od12 an12 : Option Addr} {sl12 : Array (Option Value)} {f12 : Addr}
    {oc13 kV13 dc13 pm13 cd13 ct13 : Value} {od13 an13 : Option Addr} {sl13 : Array (Option Value)} {f13 : Addr}
    {oc14 kV14 dc14 pm14 cd14 ct14 : Value} {od14 an14 : Option Addr} {sl14 : Array (Option Value)} {f14 : Addr}
    {oc15 kV15 dc15 pm15 cd15 ct15 : Value} {od15 an15 : Option Addr} {sl15 : Array (Option Value)} {f15 : Addr}
    {oc16 kV16 dc16 pm16 cd16 ct16 : Value} {od16 an16 : Option Addr} {sl16 : Array (Option Value)} {f16 : Addr}
    {oc17 kV17 dc17 pm17 cd17 ct17 : Value} {od17 an17 : Option Addr} {sl17 : Array (Option Value)} {f17 : Addr}
    {oc18 kV18 dc18 pm18 cd18 ct18 : Value} {od18 an18 : Option Addr} {sl18 : Array (Option Value)} {f18 : Addr}
    {oc19 kV19 dc19 pm19 cd19 ct19 : Value} {od19 an19 : Option Addr} {sl19 : Array (Option Value)} {f19 : Addr}
    {oc20 kV20 dc20 pm20 cd20 ct20 : Value} {od20 an20 : Option Addr} {sl20 : Array (Option Value)} {f20 : Addr}
    {oc21 kV21 dc21 pm21 cd21 ct21 : Value} {od21 an21 : Option Addr} {sl21 : Array (Option Value)} {f21 : Addr}
    {oc22 kV22 dc22 pm22 cd22 ct22 : Value} {od22 an22 : Option Addr} {sl22 : Array (Option Value)} {f22 : Addr}
    {oc23 kV23 dc23 pm23 cd23 ct23 : Value} {od23 an23 : Option Addr} {sl23 : Array (Option Value)} {f23 : Addr}
    {oc24 kV24 dc24 pm24 cd24 ct24 : Value} {od24 an24 : Option Addr} {sl24 : Array (Option Value)} {f24 : Addr}
    {oc25 kV25 dc25 pm25 cd25 ct25 : Value} {od25 an25 : Option Addr} {sl25 : Array (Option Value)} {f25 : Addr}
    {oc26 kV26 dc26 pm26 cd26 ct26 : Value} {od26 an26 : Option Addr} {sl26 : Array (Option Value)} {f26 : Addr}
    {oc27 kV27 dc27 pm27 cd27 ct27 : Value} {od27 an27 : Option Addr} {sl27 : Array (Option Value)} {f27 : Addr}
    {oc28 kV28 dc28 pm28 cd28 ct28 : Value} {od28 an28 : Option Addr} {sl28 : Array (Option Value)} {f28 : Addr}
    {oc29 kV29 dc29 pm29 cd29 ct29 : Value} {od29 an29 : Option Addr} {sl29 : Array (Option Value)} {f29 : Addr}
    {oc30 kV30 dc30 pm30 cd30 ct30 : Value} {od30 an30 : Option Addr} {sl30 : Array (Option Value)} {f30 : Addr}
    {oc31 kV31 dc31 pm31 cd31 ct31 : Value} {od31 an31 : Option Addr} {sl31 : Array (Option Value)} {f31 : Addr}
    {oc32 kV32 dc32 pm32 cd32 ct32 : Value} {od32 an32 : Option Addr} {sl32 : Array (Option Value)} {f32 : Addr}
    {oc33 kV33 dc33 pm33 cd33 ct33 : Value} {od33 an33 : Option Addr} {sl33 : Array (Option Value)} {f33 : Addr}
    {oc34 kV34 dc34 pm34 cd34 ct34 : Value} {od34 an34 : Option Addr} {sl34 : Array (Option Value)} {f34 : Addr}
    {oc35 kV35 dc35 pm35 cd35 ct35 : Value} {od35 an35 : Option Addr} {sl35 : Array (Option Value)} {f35 : Addr}
    {oc36 kV36 dc36 pm36 cd36 ct36 : Value} {od36 an36 : Option Addr} {sl36 : Array (Option Value)} {f36 : Addr}
    {oc37 kV37 dc37 pm37 cd37 ct37 : Value} {od37 an37 : Option Addr} {sl37 : Array (Option Value)} {f37 : Addr}
    {oc38 kV38 dc38 pm38 cd38 ct38 : Value} {od38 an38 : Option Addr} {sl38 : Array (Option Value)} {f38 : Addr}
    {oc39 kV39 dc39 pm39 cd39 ct39 : Value} {od39 an39 : Option Addr} {sl39 : Array (Option Value)} {f39 : Addr}
    {oc40 kV40 dc40 pm40 cd40 ct40 : Value} {od40 an40 : Option Addr} {sl40 : Array (Option Value)} {f40 : Addr}
    {oc41 kV41 dc41 pm41 cd41 ct41 : Value} {od41 an41 : Option Addr} {sl41 : Array (Option Value)} {f41 : Addr}
    {oc42 kV42 dc42 pm42 ct42 : Value} {od42 an42 : Option Addr} {sl42 : Array (Option Value)} {f42 : Addr} {cL42 PL42 : Addr} {eL42 : Value} {ddL42 : Option Addr} {vsL42 : Array Value} {slL42 : Array (Option Value)}
    {oc43 kV43 dc43 pm43 ct43 : Value} {od43 an43 : Option Addr} {sl43 : Array (Option Value)} {f43 : Addr} {cL43 PL43 : Addr} {eL43 : Value} {ddL43 : Option Addr} {vsL43 : Array Value} {slL43 : Array (Option Value)}
    {C0 g0 N0 : Addr} {nmC0 qC0 : Str} {bsC0 subC0 : List Value} {snC0 : List Str} {abC0 : Bool} {colC0 : Option Bool} {ddC0 : Option Addr} {m0C0 m1C0 m2C0 m3C0 m5C0 : Option Value} {ocC0 kVC0 dcC0 pmC0 cdC0 ctC0 : Value} {odC0 anC0 : Option Addr} {slC0 : Array (Option Value)}
    {C1 g1 N1 : Addr} {nmC1 qC1 : Str} {bsC1 subC1 : List Value} {snC1 : List Str} {abC1 : Bool} {colC1 : Option Bool} {ddC1 : Option Addr} {m0C1 m1C1 m2C1 m3C1 m5C1 : Option Value} {ocC1 kVC1 dcC1 pmC1 cdC1 ctC1 : Value} {odC1 anC1 : Option Addr} {slC1 : Array (Option Value)}
    {C2 g2 N2 : Addr} {nmC2 qC2 : Str} {bsC2 subC2 : List Value} {snC2 : List Str} {abC2 : Bool} {colC2 : Option Bool} {ddC2 : Option Addr} {m0C2 m1C2 m2C2 m3C2 m5C2 : Option Value} {ocC2 kVC2 dcC2 pmC2 cdC2 ctC2 : Value} {odC2 anC2 : Option Addr} {slC2 : Array (Option Value)}
    {C3 : Addr}
    {C4 : Addr}
    {C5 : Addr}
    {C6 : Addr}
    {C7 : Addr}
    {tMC : Tok}
    {tMARK0 tMARK1 : Tok} {qMARK : Addr} {dMARK : Option Addr} {nMARK : Nat} {sMARK : Array (Option Value)}
    {tHEAD : Tok}
    (a0 : PySem.W.nsIn K mainGlobals "is_integer" = some (some (.ref f0)))
    (l0 : K.lookup f0 = some ⟨oc0, od0, .func (PySem.W.fnOf "is_integer" "is_integer" (defArgs s_is_integer) (defBody s_is_integer) (defScope s_is_integer) .none kV0 dc0 pm0 an0 cd0 ct0), sl0⟩)
    (c0 : PySem.W.codeIn K cd0 "is_integer" = true)
    (k0 : PySem.W.keepIn K (.ref f0) = true)
    (a1 : PySem.W.nsIn K mainGlobals "is_between" = some (some (.ref f1)))
    (l1 : K.lookup f1 = some ⟨oc1, od1, .func (PySem.W.fnOf "is_between" "is_between" (defArgs s_is_between) (defBody s_is_between) (defScope s_is_between) .none kV1 dc1 pm1 an1 cd1 ct1), sl1⟩)
    (c1 : PySem.W.codeIn K cd1 "is_between" = true)
    (k1 : PySem.W.keepIn K (.ref f1) = true)
    (a2 : PySem.W.nsIn K mainGlobals "is_pair" = some (some (.ref f2)))
    (l2 : K.lookup f2 = some ⟨oc2, od2, .func (PySem.W.fnOf "is_pair" "is_pair" (defArgs s_is_pair) (defBody s_is_pair) (defScope s_is_pair) .none kV2 dc2 pm2 an2 cd2 ct2), sl2⟩)
    (c2 : PySem.W.codeIn K cd2 "is_pair" = true)
    (k2 : PySem.W.keepIn K (.ref f2) = true)
    (a3 : PySem.W.nsIn K mainGlobals "rounded" = some (some (.ref f3)))
    (l3 : K.lookup f3 = some ⟨oc3, od3, .func (PySem.W.fnOf "rounded" "rounded" (defArgs s_rounded) (defBody s_rounded) (defScope s_rounded) .none kV3 dc3 pm3 an3 cd3 ct3), sl3⟩)
    (c3 : PySem.W.codeIn K cd3 "rounded" = true)
    (k3 : PySem.W.keepIn K (.ref f3) = true)
    (a4 : PySem.W.nsIn K mainGlobals "limited" = some (some (.ref f4)))
    (l4 : K.lookup f4 = some ⟨oc4, od4, .func (PySem.W.fnOf "limited" "limited" (defArgs s_limited) (defBody s_limited) (defScope s_limited) .none kV4 dc4 pm4 an4 cd4 ct4), sl4⟩)
    (c4 : PySem.W.codeIn K cd4 "limited" = true)
    (k4 : PySem.W.keepIn K (.ref f4) = true)
    (a5 : PySem.W.nsIn K mainGlobals "change_at" = some (some (.ref f5)))
    (l5 : K.lookup f5 = some ⟨oc5, od5, .func (PySem.W.fnOf "change_at" "change_at" (defArgs s_change_at) (defBody s_change_at) (defScope s_change_at) .none kV5 dc5 pm5 an5 cd5 ct5), sl5⟩)
    (c5 : PySem.W.codeIn K cd5 "change_at" = true)
    (k5 : PySem.W.keepIn K (.ref f5) = true)
    (a6 : PySem.W.nsIn K mainGlobals "faded" = some (some (.ref f6)))
    (l6 : K.lookup f6 = some ⟨oc6, od6, .func (PySem.W.fnOf "faded" "faded" (defArgs s_faded) (defBody s_faded) (defScope s_faded) .none kV6 dc6 pm6 an6 cd6 ct6), sl6⟩)
    (c6 : PySem.W.codeIn K cd6 "faded" = true)
    (k6 : PySem.W.keepIn K (.ref f6) = true)
    (a7 : PySem.W.nsIn K mainGlobals "state_behind" = some (some (.ref f7)))
    (l7 : K.lookup f7 = some ⟨oc7, od7, .func (PySem.W.fnOf "state_behind" "state_behind" (defArgs s_state_behind) (defBody s_state_behind) (defScope s_state_behind) .none kV7 dc7 pm7 an7 cd7 ct7), sl7⟩)
    (c7 : PySem.W.codeIn K cd7 "state_behind" = true)
    (k7 : PySem.W.keepIn K (.ref f7) = true)
    (a8 : PySem.W.nsIn K mainGlobals "state_behind_row" = some (some (.ref f8)))
    (l8 : K.lookup f8 = some ⟨oc8, od8, .func (PySem.W.fnOf "state_behind_row" "state_behind_row" (defArgs s_state_behind_row) (defBody s_state_behind_row) (defScope s_state_behind_row) .none kV8 dc8 pm8 an8 cd8 ct8), sl8⟩)
    (c8 : PySem.W.codeIn K cd8 "state_behind_row" = true)
    (k8 : PySem.W.keepIn K (.ref f8) = true)
    (a9 : PySem.W.nsIn K mainGlobals "need_coder" = some (some (.ref f9)))
    (l9 : K.lookup f9 = some ⟨oc9, od9, .func (PySem.W.fnOf "need_coder" "need_coder" (defArgs s_need_coder) (defBody s_need_coder) (defScope s_need_coder) .none kV9 dc9 pm9 an9 cd9 ct9), sl9⟩)
    (c9 : PySem.W.codeIn K cd9 "need_coder" = true)
    (k9 : PySem.W.keepIn K (.ref f9) = true)
    (a10 : PySem.W.nsIn K mainGlobals "_first_fault" = some (some (.ref f10)))
    (l10 : K.lookup f10 = some ⟨oc10, od10, .func (PySem.W.fnOf "_first_fault" "_first_fault" (defArgs s_first_fault) (defBody s_first_fault) (defScope s_first_fault) .none kV10 dc10 pm10 an10 cd10 ct10), sl10⟩)
    (c10 : PySem.W.codeIn K cd10 "_first_fault" = true)
    (k10 : PySem.W.keepIn K (.ref f10) = true)
    (a11 : PySem.W.nsIn K mainGlobals "_fault_of_steps" = some (some (.ref f11)))
    (l11 : K.lookup f11 = some ⟨oc11, od11, .func (PySem.W.fnOf "_fault_of_steps" "_fault_of_steps" (defArgs s_fault_of_steps) (defBody s_fault_of_steps) (defScope s_fault_of_steps) .none kV11 dc11 pm11 an11 cd11 ct11), sl11⟩)
    (c11 : PySem.W.codeIn K cd11 "_fault_of_steps" = true)
    (k11 : PySem.W.keepIn K (.ref f11) = true)
    (a12 : PySem.W.nsIn K mainGlobals "_fault_of_moves" = some (some (.ref f12)))
    (l12 : K.lookup f12 = some ⟨oc12, od12, .func (PySem.W.fnOf "_fault_of_moves" "_fault_of_moves" (defArgs s_fault_of_moves) (defBody s_fault_of_moves) (defScope s_fault_of_moves) .none kV12 dc12 pm12 an12 cd12 ct12), sl12⟩)
    (c12 : PySem.W.codeIn K cd12 "_fault_of_moves" = true)
    (k12 : PySem.W.keepIn K (.ref f12) = true)
    (a13 : PySem.W.nsIn K mainGlobals "_is_tuple_of" = some (some (.ref f13)))
    (l13 : K.lookup f13 = some ⟨oc13, od13, .func (PySem.W.fnOf "_is_tuple_of" "_is_tuple_of" (defArgs s_is_tuple_of) (defBody s_is_tuple_of) (defScope s_is_tuple_of) .none kV13 dc13 pm13 an13 cd13 ct13), sl13⟩)
    (c13 : PySem.W.codeIn K cd13 "_is_tuple_of" = true)
    (k13 : PySem.W.keepIn K (.ref f13) = true)
    (a14 : PySem.W.nsIn K mainGlobals "_is_move" = some (some (.ref f14)))
    (l14 : K.lookup f14 = some ⟨oc14, od14, .func (PySem.W.fnOf "_is_move" "_is_move" (defArgs s_is_move) (defBody s_is_move) (defScope s_is_move) .none kV14 dc14 pm14 an14 cd14 ct14), sl14⟩)
    (c14 : PySem.W.codeIn K cd14 "_is_move" = true)
    (k14 : PySem.W.keepIn K (.ref f14) = true)
    (a15 : PySem.W.nsIn K mainGlobals "_is_fade" = some (some (.ref f15)))
    (l15 : K.lookup f15 = some ⟨oc15, od15, .func (PySem.W.fnOf "_is_fade" "_is_fade" (defArgs s_is_fade) (defBody s_is_fade) (defScope s_is_fade) .none kV15 dc15 pm15 an15 cd15 ct15), sl15⟩)
    (c15 : PySem.W.codeIn K cd15 "_is_fade" = true)
    (k15 : PySem.W.keepIn K (.ref f15) = true)
    (a16 : PySem.W.nsIn K mainGlobals "read_file" = some (some (.ref f16)))
    (l16 : K.lookup f16 = some ⟨oc16, od16, .func (PySem.W.fnOf "read_file" "read_file" (defArgs s_read_file) (defBody s_read_file) (defScope s_read_file) .none kV16 dc16 pm16 an16 cd16 ct16), sl16⟩)
    (c16 : PySem.W.codeIn K cd16 "read_file" = true)
    (k16 : PySem.W.keepIn K (.ref f16) = true)
    (a17 : PySem.W.nsIn K mainGlobals "_need_coder_and_tuple" = some (some (.ref f17)))
    (l17 : K.lookup f17 = some ⟨oc17, od17, .func (PySem.W.fnOf "_need_coder_and_tuple" "_need_coder_and_tuple" (defArgs s_need_coder_and_tuple) (defBody s_need_coder_and_tuple) (defScope s_need_coder_and_tuple) .none kV17 dc17 pm17 an17 cd17 ct17), sl17⟩)
    (c17 : PySem.W.codeIn K cd17 "_need_coder_and_tuple" = true)
    (k17 : PySem.W.keepIn K (.ref f17) = true)
    (a18 : PySem.W.nsIn K mainGlobals "_sum_index" = some (some (.ref f18)))
    (l18 : K.lookup f18 = some ⟨oc18, od18, .func (PySem.W.fnOf "_sum_index" "_sum_index" (defArgs s_sum_index) (defBody s_sum_index) (defScope s_sum_index) .none kV18 dc18 pm18 an18 cd18 ct18), sl18⟩)
    (c18 : PySem.W.codeIn K cd18 "_sum_index" = true)
    (k18 : PySem.W.keepIn K (.ref f18) = true)
    (a19 : PySem.W.nsIn K mainGlobals "_block_at" = some (some (.ref f19)))
    (l19 : K.lookup f19 = some ⟨oc19, od19, .func (PySem.W.fnOf "_block_at" "_block_at" (defArgs s_block_at) (defBody s_block_at) (defScope s_block_at) .none kV19 dc19 pm19 an19 cd19 ct19), sl19⟩)
    (c19 : PySem.W.codeIn K cd19 "_block_at" = true)
    (k19 : PySem.W.keepIn K (.ref f19) = true)
    (a20 : PySem.W.nsIn K mainGlobals "_byte_at" = some (some (.ref f20)))
    (l20 : K.lookup f20 = some ⟨oc20, od20, .func (PySem.W.fnOf "_byte_at" "_byte_at" (defArgs s_byte_at) (defBody s_byte_at) (defScope s_byte_at) .none kV20 dc20 pm20 an20 cd20 ct20), sl20⟩)
    (c20 : PySem.W.codeIn K cd20 "_byte_at" = true)
    (k20 : PySem.W.keepIn K (.ref f20) = true)
    (a21 : PySem.W.nsIn K mainGlobals "_byte_between" = some (some (.ref f21)))
    (l21 : K.lookup f21 = some ⟨oc21, od21, .func (PySem.W.fnOf "_byte_between" "_byte_between" (defArgs s_byte_between) (defBody s_byte_between) (defScope s_byte_between) .none kV21 dc21 pm21 an21 cd21 ct21), sl21⟩)
    (c21 : PySem.W.codeIn K cd21 "_byte_between" = true)
    (k21 : PySem.W.keepIn K (.ref f21) = true)
    (a22 : PySem.W.nsIn K mainGlobals "_state_at" = some (some (.ref f22)))
    (l22 : K.lookup f22 = some ⟨oc22, od22, .func (PySem.W.fnOf "_state_at" "_state_at" (defArgs s_state_at) (defBody s_state_at) (defScope s_state_at) .none kV22 dc22 pm22 an22 cd22 ct22), sl22⟩)
    (c22 : PySem.W.codeIn K cd22 "_state_at" = true)
    (k22 : PySem.W.keepIn K (.ref f22) = true)
    (a23 : PySem.W.nsIn K mainGlobals "_codes_at" = some (some (.ref f23)))
    (l23 : K.lookup f23 = some ⟨oc23, od23, .func (PySem.W.fnOf "_codes_at" "_codes_at" (defArgs s_codes_at) (defBody s_codes_at) (defScope s_codes_at) .none kV23 dc23 pm23 an23 cd23 ct23), sl23⟩)
    (c23 : PySem.W.codeIn K cd23 "_codes_at" = true)
    (k23 : PySem.W.keepIn K (.ref f23) = true)
    (a24 : PySem.W.nsIn K mainGlobals "_law_begun" = some (some (.ref f24)))
    (l24 : K.lookup f24 = some ⟨oc24, od24, .func (PySem.W.fnOf "_law_begun" "_law_begun" (defArgs s_law_begun) (defBody s_law_begun) (defScope s_law_begun) .none kV24 dc24 pm24 an24 cd24 ct24), sl24⟩)
    (c24 : PySem.W.codeIn K cd24 "_law_begun" = true)
    (k24 : PySem.W.keepIn K (.ref f24) = true)
    (a25 : PySem.W.nsIn K mainGlobals "_law_next" = some (some (.ref f25)))
    (l25 : K.lookup f25 = some ⟨oc25, od25, .func (PySem.W.fnOf "_law_next" "_law_next" (defArgs s_law_next) (defBody s_law_next) (defScope s_law_next) .none kV25 dc25 pm25 an25 cd25 ct25), sl25⟩)
    (c25 : PySem.W.codeIn K cd25 "_law_next" = true)
    (k25 : PySem.W.keepIn K (.ref f25) = true)
    (a26 : PySem.W.nsIn K mainGlobals "_law_parted" = some (some (.ref f26)))
    (l26 : K.lookup f26 = some ⟨oc26, od26, .func (PySem.W.fnOf "_law_parted" "_law_parted" (defArgs s_law_parted) (defBody s_law_parted) (defScope s_law_parted) .none kV26 dc26 pm26 an26 cd26 ct26), sl26⟩)
    (c26 : PySem.W.codeIn K cd26 "_law_parted" = true)
    (k26 : PySem.W.keepIn K (.ref f26) = true)
    (a27 : PySem.W.nsIn K mainGlobals "_law_limited" = some (some (.ref f27)))
    (l27 : K.lookup f27 = some ⟨oc27, od27, .func (PySem.W.fnOf "_law_limited" "_law_limited" (defArgs s_law_limited) (defBody s_law_limited) (defScope s_law_limited) .none kV27 dc27 pm27 an27 cd27 ct27), sl27⟩)
    (c27 : PySem.W.codeIn K cd27 "_law_limited" = true)
    (k27 : PySem.W.keepIn K (.ref f27) = true)
    (a28 : PySem.W.nsIn K mainGlobals "_law_led" = some (some (.ref f28)))
    (l28 : K.lookup f28 = some ⟨oc28, od28, .func (PySem.W.fnOf "_law_led" "_law_led" (defArgs s_law_led) (defBody s_law_led) (defScope s_law_led) .none kV28 dc28 pm28 an28 cd28 ct28), sl28⟩)
    (c28 : PySem.W.codeIn K cd28 "_law_led" = true)
    (k28 : PySem.W.keepIn K (.ref f28) = true)
    (a29 : PySem.W.nsIn K mainGlobals "_law_walked" = some (some (.ref f29)))
    (l29 : K.lookup f29 = some ⟨oc29, od29, .func (PySem.W.fnOf "_law_walked" "_law_walked" (defArgs s_law_walked) (defBody s_law_walked) (defScope s_law_walked) .none kV29 dc29 pm29 an29 cd29 ct29), sl29⟩)
    (c29 : PySem.W.codeIn K cd29 "_law_walked" = true)
    (k29 : PySem.W.keepIn K (.ref f29) = true)
    (a30 : PySem.W.nsIn K mainGlobals "_law_some_state" = some (some (.ref f30)))
    (l30 : K.lookup f30 = some ⟨oc30, od30, .func (PySem.W.fnOf "_law_some_state" "_law_some_state" (defArgs s_law_some_state) (defBody s_law_some_state) (defScope s_law_some_state) .none kV30 dc30 pm30 an30 cd30 ct30), sl30⟩)
    (c30 : PySem.W.codeIn K cd30 "_law_some_state" = true)
    (k30 : PySem.W.keepIn K (.ref f30) = true)
    (a31 : PySem.W.nsIn K mainGlobals "_law_row" = some (some (.ref f31)))
    (l31 : K.lookup f31 = some ⟨oc31, od31, .func (PySem.W.fnOf "_law_row" "_law_row" (defArgs s_law_row) (defBody s_law_row) (defScope s_law_row) .none kV31 dc31 pm31 an31 cd31 ct31), sl31⟩)
    (c31 : PySem.W.codeIn K cd31 "_law_row" = true)
    (k31 : PySem.W.keepIn K (.ref f31) = true)
    (a32 : PySem.W.nsIn K mainGlobals "_law_is_whole" = some (some (.ref f32)))
    (l32 : K.lookup f32 = some ⟨oc32, od32, .func (PySem.W.fnOf "_law_is_whole" "_law_is_whole" (defArgs s_law_is_whole) (defBody s_law_is_whole) (defScope s_law_is_whole) .none kV32 dc32 pm32 an32 cd32 ct32), sl32⟩)
    (c32 : PySem.W.codeIn K cd32 "_law_is_whole" = true)
    (k32 : PySem.W.keepIn K (.ref f32) = true)
    (a33 : PySem.W.nsIn K mainGlobals "_law_fault" = some (some (.ref f33)))
    (l33 : K.lookup f33 = some ⟨oc33, od33, .func (PySem.W.fnOf "_law_fault" "_law_fault" (defArgs s_law_fault) (defBody s_law_fault) (defScope s_law_fault) .none kV33 dc33 pm33 an33 cd33 ct33), sl33⟩)
    (c33 : PySem.W.codeIn K cd33 "_law_fault" = true)
    (k33 : PySem.W.keepIn K (.ref f33) = true)
    (a34 : PySem.W.nsIn K mainGlobals "_law_outcome" = some (some (.ref f34)))
    (l34 : K.lookup f34 = some ⟨oc34, od34, .func (PySem.W.fnOf "_law_outcome" "_law_outcome" (defArgs s_law_outcome) (defBody s_law_outcome) (defScope s_law_outcome) .none kV34 dc34 pm34 an34 cd34 ct34), sl34⟩)
    (c34 : PySem.W.codeIn K cd34 "_law_outcome" = true)
    (k34 : PySem.W.keepIn K (.ref f34) = true)
    (a35 : PySem.W.nsIn K mainGlobals "_law_great_coder" = some (some (.ref f35)))
    (l35 : K.lookup f35 = some ⟨oc35, od35, .func (PySem.W.fnOf "_law_great_coder" "_law_great_coder" (defArgs s_law_great_coder) (defBody s_law_great_coder) (defScope s_law_great_coder) .none kV35 dc35 pm35 an35 cd35 ct35), sl35⟩)
    (c35 : PySem.W.codeIn K cd35 "_law_great_coder" = true)
    (k35 : PySem.W.keepIn K (.ref f35) = true)
    (a36 : PySem.W.nsIn K mainGlobals "_law_block" = some (some (.ref f36)))
    (l36 : K.lookup f36 = some ⟨oc36, od36, .func (PySem.W.fnOf "_law_block" "_law_block" (defArgs s_law_block) (defBody s_law_block) (defScope s_law_block) .none kV36 dc36 pm36 an36 cd36 ct36), sl36⟩)
    (c36 : PySem.W.codeIn K cd36 "_law_block" = true)
    (k36 : PySem.W.keepIn K (.ref f36) = true)
    (a37 : PySem.W.nsIn K mainGlobals "_law_file" = some (some (.ref f37)))
    (l37 : K.lookup f37 = some ⟨oc37, od37, .func (PySem.W.fnOf "_law_file" "_law_file" (defArgs s_law_file) (defBody s_law_file) (defScope s_law_file) .none kV37 dc37 pm37 an37 cd37 ct37), sl37⟩)
    (c37 : PySem.W.codeIn K cd37 "_law_file" = true)
    (k37 : PySem.W.keepIn K (.ref f37) = true)
    (a38 : PySem.W.nsIn K mainGlobals "_law_block_read" = some (some (.ref f38)))
    (l38 : K.lookup f38 = some ⟨oc38, od38, .func (PySem.W.fnOf "_law_block_read" "_law_block_read" (defArgs s_law_block_read) (defBody s_law_block_read) (defScope s_law_block_read) .none kV38 dc38 pm38 an38 cd38 ct38), sl38⟩)
    (c38 : PySem.W.codeIn K cd38 "_law_block_read" = true)
    (k38 : PySem.W.keepIn K (.ref f38) = true)
    (a39 : PySem.W.nsIn K mainGlobals "_law_pieces" = some (some (.ref f39)))
    (l39 : K.lookup f39 = some ⟨oc39, od39, .func (PySem.W.fnOf "_law_pieces" "_law_pieces" (defArgs s_law_pieces) (defBody s_law_pieces) (defScope s_law_pieces) .none kV39 dc39 pm39 an39 cd39 ct39), sl39⟩)
    (c39 : PySem.W.codeIn K cd39 "_law_pieces" = true)
    (k39 : PySem.W.keepIn K (.ref f39) = true)
    (a40 : PySem.W.nsIn K mainGlobals "_law_bent_data" = some (some (.ref f40)))
    (l40 : K.lookup f40 = some ⟨oc40, od40, .func (PySem.W.fnOf "_law_bent_data" "_law_bent_data" (defArgs s_law_bent_data) (defBody s_law_bent_data) (defScope s_law_bent_data) .none kV40 dc40 pm40 an40 cd40 ct40), sl40⟩)
    (c40 : PySem.W.codeIn K cd40 "_law_bent_data" = true)
    (k40 : PySem.W.keepIn K (.ref f40) = true)
    (a41 : PySem.W.nsIn K mainGlobals "_law_due" = some (some (.ref f41)))
    (l41 : K.lookup f41 = some ⟨oc41, od41, .func (PySem.W.fnOf "_law_due" "_law_due" (defArgs s_law_due) (defBody s_law_due) (defScope s_law_due) .none kV41 dc41 pm41 an41 cd41 ct41), sl41⟩)
    (c41 : PySem.W.codeIn K cd41 "_law_due" = true)
    (k41 : PySem.W.keepIn K (.ref f41) = true)
    (a42 : PySem.W.nsIn K mainGlobals "_law_right" = some (some (.ref f42)))
    (l42 : K.lookup f42 = some ⟨oc42, od42, .func (PySem.W.fnOf "_law_right" "_law_right" (defArgs s_law_right) (defBody s_law_right) (defScope s_law_right) .none kV42 dc42 pm42 an42 (.ref cL42) ct42), sl42⟩)
    (c42 : PySem.W.codeIn K (.ref cL42) "_law_right" = true)
    (k42 : PySem.W.keepIn K (.ref f42) = true)
    (lL42 : K.lookup cL42 = some ⟨eL42, ddL42, .fields vsL42, slL42⟩)
    (vL42 : (vsL42[11]? : Option Value) = some (.ref PL42))
    (hL42 : PySem.W.codeHdIn K cL42 PL42 = true)
    (nL42 : K.lookup PL42 = none)
    (a43 : PySem.W.nsIn K mainGlobals "law" = some (some (.ref f43)))
    (l43 : K.lookup f43 = some ⟨oc43, od43, .func (PySem.W.fnOf "law" "law" (defArgs s_law) (defBody s_law) (defScope s_law) .none kV43 dc43 pm43 an43 (.ref cL43) ct43), sl43⟩)
    (c43 : PySem.W.codeIn K (.ref cL43) "law" = true)
    (k43 : PySem.W.keepIn K (.ref f43) = true)
    (lL43 : K.lookup cL43 = some ⟨eL43, ddL43, .fields vsL43, slL43⟩)
    (vL43 : (vsL43[11]? : Option Value) = some (.ref PL43))
    (hL43 : PySem.W.codeHdIn K cL43 PL43 = true)
    (nL43 : K.lookup PL43 = none)
    (nP42x43 : PL42 ≠ PL43)
    (z_bool : PySem.W.nsIn K mainGlobals "bool" = some none)
    (z_enumerate : PySem.W.nsIn K mainGlobals "enumerate" = some none)
    (z_int : PySem.W.nsIn K mainGlobals "int" = some none)
    (z_isinstance : PySem.W.nsIn K mainGlobals "isinstance" = some none)
    (z_len : PySem.W.nsIn K mainGlobals "len" = some none)
    (z_list : PySem.W.nsIn K mainGlobals "list" = some none)
    (z_max : PySem.W.nsIn K mainGlobals "max" = some none)
    (z_min : PySem.W.nsIn K mainGlobals "min" = some none)
    (z_range : PySem.W.nsIn K mainGlobals "range" = some none)
    (z_repr : PySem.W.nsIn K mainGlobals "repr" = some none)
    (z_sum : PySem.W.nsIn K mainGlobals "sum" = some none)
    (z_tuple : PySem.W.nsIn K mainGlobals "tuple" = some none)
    (aC0 : PySem.W.nsIn K mainGlobals "BadCoder" = some (some (.ref C0)))
    (xC0 : K.lookup C0 = some (excClassObj nmC0 qC0 C0 N0 bsC0 [.type "ValueError", .type "Exception", .type "BaseException", .type "object"] true snC0 subC0 abC0 colC0 ddC0 m0C0 m1C0 m2C0 m3C0 m5C0 "ValueError.__new__"))
    (saC0 : PySem.W.findIn K (.ref C0) "__setattr__" = some (some (.builtin "object.__setattr__")))
    (iC0 : PySem.W.findIn K (.ref C0) "__init__" = some (some (.ref g0)))
    (tI0 : PySem.W.typeIn K (.ref g0) = some (.type "function"))
    (lC0 : K.lookup g0 = some ⟨ocC0, odC0, .func (PySem.W.fnOf "__init__" "BadCoder.__init__" (defArgs si_BadCoder) (defBody si_BadCoder) (defScope si_BadCoder) .none kVC0 dcC0 pmC0 anC0 cdC0 ctC0), slC0⟩)
    (cC0 : PySem.W.codeIn K cdC0 "BadCoder.__init__" = true)
    (kI0 : PySem.W.keepIn K (.ref g0) = true)
    (kC0 : PySem.W.keepIn K (.ref C0) = true)
    (eC0 : PySem.W.subIn K (.ref C0) (.type "BaseException") = some true)
    (tC0 : PySem.W.typeIn K (.ref C0) = some (.type "type"))
    (isC0 : PySem.W.isClsIn K C0 = true)
    (sC0 : PySem.W.subIn K (.ref C0) (.ref C0) = some true)
    (gaC0 : PySem.W.findIn K (.ref C0) "__getattribute__" = some (some (.builtin "BaseException.__getattribute__")))
    (ggC0 : PySem.W.findIn K (.ref C0) "__getattr__" = some none)
    (hdC0 : PySem.W.hasDictIn K C0 = true)
    (nC0part : PySem.W.findIn K (.ref C0) "part" = some none)
    (nC0number : PySem.W.findIn K (.ref C0) "number" = some none)
    (haC0 : PySem.W.findIn K (.ref C0) "__class__" = some (some (.builtin "object.__class__")))
    (hmC0 : PySem.W.mroIn K C0 (.type "object") = some true)
    (aC1 : PySem.W.nsIn K mainGlobals "BadByte" = some (some (.ref C1)))
    (xC1 : K.lookup C1 = some (excClassObj nmC1 qC1 C1 N1 bsC1 [.type "ValueError", .type "Exception", .type "BaseException", .type "object"] true snC1 subC1 abC1 colC1 ddC1 m0C1 m1C1 m2C1 m3C1 m5C1 "ValueError.__new__"))
    (saC1 : PySem.W.findIn K (.ref C1) "__setattr__" = some (some (.builtin "object.__setattr__")))
    (iC1 : PySem.W.findIn K (.ref C1) "__init__" = some (some (.ref g1)))
    (tI1 : PySem.W.typeIn K (.ref g1) = some (.type "function"))
    (lC1 : K.lookup g1 = some ⟨ocC1, odC1, .func (PySem.W.fnOf "__init__" "BadByte.__init__" (defArgs si_BadByte) (defBody si_BadByte) (defScope si_BadByte) .none kVC1 dcC1 pmC1 anC1 cdC1 ctC1), slC1⟩)
    (cC1 : PySem.W.codeIn K cdC1 "BadByte.__init__" = true)
    (kI1 : PySem.W.keepIn K (.ref g1) = true)
    (kC1 : PySem.W.keepIn K (.ref C1) = true)
    (eC1 : PySem.W.subIn K (.ref C1) (.type "BaseException") = some true)
    (tC1 : PySem.W.typeIn K (.ref C1) = some (.type "type"))
    (isC1 : PySem.W.isClsIn K C1 = true)
    (sC1 : PySem.W.subIn K (.ref C1) (.ref C1) = some true)
    (gaC1 : PySem.W.findIn K (.ref C1) "__getattribute__" = some (some (.builtin "BaseException.__getattribute__")))
    (ggC1 : PySem.W.findIn K (.ref C1) "__getattr__" = some none)
    (hdC1 : PySem.W.hasDictIn K C1 = true)
    (nC1number : PySem.W.findIn K (.ref C1) "number" = some none)
    (haC1 : PySem.W.findIn K (.ref C1) "__class__" = some (some (.builtin "object.__class__")))
    (hmC1 : PySem.W.mroIn K C1 (.type "object") = some true)
    (aC2 : PySem.W.nsIn K mainGlobals "TooGreat" = some (some (.ref C2)))
    (xC2 : K.lookup C2 = some (excClassObj nmC2 qC2 C2 N2 bsC2 oeTail true snC2 subC2 abC2 colC2 ddC2 m0C2 m1C2 m2C2 m3C2 m5C2 "OverflowError.__new__"))
    (saC2 : PySem.W.findIn K (.ref C2) "__setattr__" = some (some (.builtin "object.__setattr__")))
    (iC2 : PySem.W.findIn K (.ref C2) "__init__" = some (some (.ref g2)))
    (tI2 : PySem.W.typeIn K (.ref g2) = some (.type "function"))
    (lC2 : K.lookup g2 = some ⟨ocC2, odC2, .func (PySem.W.fnOf "__init__" "TooGreat.__init__" (defArgs si_TooGreat) (defBody si_TooGreat) (defScope si_TooGreat) .none kVC2 dcC2 pmC2 anC2 cdC2 ctC2), slC2⟩)
    (cC2 : PySem.W.codeIn K cdC2 "TooGreat.__init__" = true)
    (kI2 : PySem.W.keepIn K (.ref g2) = true)
    (kC2 : PySem.W.keepIn K (.ref C2) = true)
    (eC2 : PySem.W.subIn K (.ref C2) (.type "BaseException") = some true)
    (tC2 : PySem.W.typeIn K (.ref C2) = some (.type "type"))
    (isC2 : PySem.W.isClsIn K C2 = true)
    (sC2 : PySem.W.subIn K (.ref C2) (.ref C2) = some true)
    (gaC2 : PySem.W.findIn K (.ref C2) "__getattribute__" = some (some (.builtin "BaseException.__getattribute__")))
    (ggC2 : PySem.W.findIn K (.ref C2) "__getattr__" = some none)
    (hdC2 : PySem.W.hasDictIn K C2 = true)
    (nC2most : PySem.W.findIn K (.ref C2) "most" = some none)
    (haC2 : PySem.W.findIn K (.ref C2) "__class__" = some (some (.builtin "object.__class__")))
    (hmC2 : PySem.W.mroIn K C2 (.type "object") = some true)
    (aC3 : PySem.W.nsIn K mainGlobals "BadRow" = some (some (.ref C3)))
    (eC3 : PySem.W.subIn K (.ref C3) (.type "BaseException") = some true)
    (tC3 : PySem.W.typeIn K (.ref C3) = some (.type "type"))
    (isC3 : PySem.W.isClsIn K C3 = true)
    (aC4 : PySem.W.nsIn K mainGlobals "BadPaper" = some (some (.ref C4)))
    (eC4 : PySem.W.subIn K (.ref C4) (.type "BaseException") = some true)
    (tC4 : PySem.W.typeIn K (.ref C4) = some (.type "type"))
    (isC4 : PySem.W.isClsIn K C4 = true)
    (aC5 : PySem.W.nsIn K mainGlobals "OutOfPlace" = some (some (.ref C5)))
    (eC5 : PySem.W.subIn K (.ref C5) (.type "BaseException") = some true)
    (tC5 : PySem.W.typeIn K (.ref C5) = some (.type "type"))
    (isC5 : PySem.W.isClsIn K C5 = true)
    (aC6 : PySem.W.nsIn K mainGlobals "NoSeam" = some (some (.ref C6)))
    (eC6 : PySem.W.subIn K (.ref C6) (.type "BaseException") = some true)
    (tC6 : PySem.W.typeIn K (.ref C6) = some (.type "type"))
    (isC6 : PySem.W.isClsIn K C6 = true)
    (aC7 : PySem.W.nsIn K mainGlobals "Nothing" = some (some (.ref C7)))
    (eC7 : PySem.W.subIn K (.ref C7) (.type "BaseException") = some true)
    (tC7 : PySem.W.typeIn K (.ref C7) = some (.type "type"))
    (isC7 : PySem.W.isClsIn K C7 = true)
    (hnO : PySem.W.specialIn K (.builtin "object.__class__") "__get__" = some (some (.builtin "getset_descriptor.__get__")))
    (htO : PySem.W.takesIn K (.builtin "object.__class__") = some true)
    (sC0x1 : PySem.W.subIn K (.ref C0) (.ref C1) = some false)
    (sC0x2 : PySem.W.subIn K (.ref C0) (.ref C2) = some false)
    (sC0x3 : PySem.W.subIn K (.ref C0) (.ref C3) = some false)
    (sC0x4 : PySem.W.subIn K (.ref C0) (.ref C4) = some false)
    (sC0x5 : PySem.W.subIn K (.ref C0) (.ref C5) = some false)
    (sC0x6 : PySem.W.subIn K (.ref C0) (.ref C6) = some false)
    (sC0x7 : PySem.W.subIn K (.ref C0) (.ref C7) = some false)
    (sC1x0 : PySem.W.subIn K (.ref C1) (.ref C0) = some false)
    (sC1x2 : PySem.W.subIn K (.ref C1) (.ref C2) = some false)
    (sC1x3 : PySem.W.subIn K (.ref C1) (.ref C3) = some false)
    (sC1x4 : PySem.W.subIn K (.ref C1) (.ref C4) = some false)
    (sC1x5 : PySem.W.subIn K (.ref C1) (.ref C5) = some false)
    (sC1x6 : PySem.W.subIn K (.ref C1) (.ref C6) = some false)
    (sC1x7 : PySem.W.subIn K (.ref C1) (.ref C7) = some false)
    (sC2x0 : PySem.W.subIn K (.ref C2) (.ref C0) = some false)
    (sC2x1 : PySem.W.subIn K (.ref C2) (.ref C1) = some false)
    (sC2x3 : PySem.W.subIn K (.ref C2) (.ref C3) = some false)
    (sC2x4 : PySem.W.subIn K (.ref C2) (.ref C4) = some false)
    (sC2x5 : PySem.W.subIn K (.ref C2) (.ref C5) = some false)
    (sC2x6 : PySem.W.subIn K (.ref C2) (.ref C6) = some false)
    (sC2x7 : PySem.W.subIn K (.ref C2) (.ref C7) = some false)
    (vV : PySem.W.findCls K (.type "ValueError") (.type "type") "__init__" = some (.val (.builtin "ValueError.__init__")))
    (zV : PySem.W.nsIn K mainGlobals "ValueError" = some none)
    (mc : PySem.W.nsIn K mainGlobals "MOST_CODES" = some (some (.int 2000 tMC)))
    (cMARK : PySem.W.nsIn K mainGlobals "MARK" = some (some (.ref qMARK)))
    (lMARK : K.lookup qMARK = some ⟨.type "tuple", dMARK, .seq #[.int 165 tMARK0, .int 90 tMARK1] nMARK, sMARK⟩)
    (cHEAD : PySem.W.nsIn K mainGlobals "HEAD" = some (some (.int 6 tHEAD))) :
    ∃ (fd : FuncData) (cs : List (Addr × Addr)), (∀ p ∈ cs, h.get? p.2 = some (tabO #[])) ∧ (∀ p ∈ cs, K.lookup p.2 = none) ∧ (∀ p ∈ cs, PySem.W.CodeHd h p.1 p.2) ∧ (∀ (s : Shared) (v : Value), BindsTo s fd ⟨[v], []⟩ [("script", v)]) ∧ ∀ base : Heap, K.In base → base.Ns mainGlobals mg → (∀ p ∈ cs, LamX.TabB base mg p.1 p.2) → FnG l.prog w K mg base 18 fa fd ["script"] (sp_law K (cs.map (·.2))) := by
  have e := hfa.symm.trans (PySem.W.mg_of X G a43)
  cases e
  have F0 := fun_mk (st := s_is_integer) l0 c0 k0
  have B0 := F0.binds (ps := ["thing"]) fun _ _ _ _ _ _ us hl => match us, hl with | [_], _ => rfl
  have F1 := fun_mk (st := s_is_between) l1 c1 k1
  have B1 := F1.binds (ps := ["thing", "least", "most"]) fun _ _ _ _ _ _ us hl => match us, hl with | [_, _, _], _ => rfl
  have F2 := fun_mk (st := s_is_pair) l2 c2 k2
  have B2 := F2.binds (ps := ["thing"]) fun _ _ _ _ _ _ us hl => match us, hl with | [_], _ => rfl
  have F3 := fun_mk (st := s_rounded) l3 c3 k3
  have B3 := F3.binds (ps := ["number", "divisor"]) fun _ _ _ _ _ _ us hl => match us, hl with | [_, _], _ => rfl
  have F4 := fun_mk (st := s_limited) l4 c4 k4
  have B4 := F4.binds (ps := ["number", "least", "most"]) fun _ _ _ _ _ _ us hl => match us, hl with | [_, _, _], _ => rfl
  have F5 := fun_mk (st := s_change_at) l5 c5 k5
  have B5 := F5.binds (ps := ["coder", "code", "place"]) fun _ _ _ _ _ _ us hl => match us, hl with | [_, _, _], _ => rfl
  have F6 := fun_mk (st := s_faded) l6 c6 k6
  have B6 := F6.binds (ps := ["level", "fade"]) fun _ _ _ _ _ _ us hl => match us, hl with | [_, _], _ => rfl
  have F7 := fun_mk (st := s_state_behind) l7 c7 k7
  have B7 := F7.binds (ps := ["coder", "state", "code"]) fun _ _ _ _ _ _ us hl => match us, hl with | [_, _, _], _ => rfl
  have F8 := fun_mk (st := s_state_behind_row) l8 c8 k8
  have B8 := F8.binds (ps := ["coder", "row", "state"]) fun _ _ _ _ _ _ us hl => match us, hl with | [_, _, _], _ => rfl
  have F9 := fun_mk (st := s_need_coder) l9 c9 k9
  have B9 := F9.binds (ps := ["thing"]) fun _ _ _ _ _ _ us hl => match us, hl with | [_], _ => rfl
  have F10 := fun_mk (st := s_first_fault) l10 c10 k10
  have B10 := F10.binds (ps := ["thing"]) fun _ _ _ _ _ _ us hl => match us, hl with | [_], _ => rfl
  have F11 := fun_mk (st := s_fault_of_steps) l11 c11 k11
  have B11 := F11.binds (ps := ["steps"]) fun _ _ _ _ _ _ us hl => match us, hl with | [_], _ => rfl
  have F12 := fun_mk (st := s_fault_of_moves) l12 c12 k12
  have B12 := F12.binds (ps := ["moves"]) fun _ _ _ _ _ _ us hl => match us, hl with | [_], _ => rfl
  have F13 := fun_mk (st := s_is_tuple_of) l13 c13 k13
  have B13 := F13.binds (ps := ["thing", "least", "most"]) fun _ _ _ _ _ _ us hl => match us, hl with | [_, _, _], _ => rfl
  have F14 := fun_mk (st := s_is_move) l14 c14 k14
  have B14 := F14.binds (ps := ["thing"]) fun _ _ _ _ _ _ us hl => match us, hl with | [_], _ => rfl
  have F15 := fun_mk (st := s_is_fade) l15 c15 k15
  have B15 := F15.binds (ps := ["thing"]) fun _ _ _ _ _ _ us hl => match us, hl with | [_], _ => rfl
  have F16 := fun_mk (st := s_read_file) l16 c16 k16
  have B16 := F16.binds (ps := ["coder", "data"]) fun _ _ _ _ _ _ us hl => match us, hl with | [_, _], _ => rfl
  have F17 := fun_mk (st := s_need_coder_and_tuple) l17 c17 k17
  have B17 := F17.binds (ps := ["coder", "data"]) fun _ _ _ _ _ _ us hl => match us, hl with | [_, _], _ => rfl
  have F18 := fun_mk (st := s_sum_index) l18 c18 k18
  have B18 := F18.binds (ps := ["begin", "many"]) fun _ _ _ _ _ _ us hl => match us, hl with | [_, _], _ => rfl
  have F19 := fun_mk (st := s_block_at) l19 c19 k19
  have B19 := F19.binds (ps := ["coder", "data", "begin", "known"]) fun _ _ _ _ _ _ us hl => match us, hl with | [_, _, _, _], _ => rfl
  have F20 := fun_mk (st := s_byte_at) l20 c20 k20
  have B20 := F20.binds (ps := ["data", "index"]) fun _ _ _ _ _ _ us hl => match us, hl with | [_, _], _ => rfl
  have F21 := fun_mk (st := s_byte_between) l21 c21 k21
  have B21 := F21.binds (ps := ["data", "index", "least", "most"]) fun _ _ _ _ _ _ us hl => match us, hl with | [_, _, _, _], _ => rfl
  have F22 := fun_mk (st := s_state_at) l22 c22 k22
  have B22 := F22.binds (ps := ["coder", "data", "index", "known"]) fun _ _ _ _ _ _ us hl => match us, hl with | [_, _, _, _], _ => rfl
  have F23 := fun_mk (st := s_codes_at) l23 c23 k23
  have B23 := F23.binds (ps := ["coder", "data", "begin", "many"]) fun _ _ _ _ _ _ us hl => match us, hl with | [_, _, _, _], _ => rfl
  have F24 := fun_mk (st := s_law_begun) l24 c24 k24
  have B24 := F24.binds (ps := ["script"]) fun _ _ _ _ _ _ us hl => match us, hl with | [_], _ => rfl
  have F25 := fun_mk (st := s_law_next) l25 c25 k25
  have B25 := F25.binds (ps := ["m", "many"]) fun _ _ _ _ _ _ us hl => match us, hl with | [_, _], _ => rfl
  have F26 := fun_mk (st := s_law_parted) l26 c26 k26
  have B26 := F26.binds (ps := ["number", "by"]) fun _ _ _ _ _ _ us hl => match us, hl with | [_, _], _ => rfl
  have F27 := fun_mk (st := s_law_limited) l27 c27 k27
  have B27 := F27.binds (ps := ["number", "least", "most"]) fun _ _ _ _ _ _ us hl => match us, hl with | [_, _, _], _ => rfl
  have F28 := fun_mk (st := s_law_led) l28 c28 k28
  have B28 := F28.binds (ps := ["coder", "here", "code"]) fun _ _ _ _ _ _ us hl => match us, hl with | [_, _, _], _ => rfl
  have F29 := fun_mk (st := s_law_walked) l29 c29 k29
  have B29 := F29.binds (ps := ["coder", "here", "row"]) fun _ _ _ _ _ _ us hl => match us, hl with | [_, _, _], _ => rfl
  have F30 := fun_mk (st := s_law_some_state) l30 c30 k30
  have B30 := F30.binds (ps := ["m", "coder"]) fun _ _ _ _ _ _ us hl => match us, hl with | [_, _], _ => rfl
  have F31 := fun_mk (st := s_law_row) l31 c31 k31
  have B31 := F31.binds (ps := ["m", "coder", "many"]) fun _ _ _ _ _ _ us hl => match us, hl with | [_, _, _], _ => rfl
  have F32 := fun_mk (st := s_law_is_whole) l32 c32 k32
  have B32 := F32.binds (ps := ["thing", "least", "most"]) fun _ _ _ _ _ _ us hl => match us, hl with | [_, _, _], _ => rfl
  have F33 := fun_mk (st := s_law_fault) l33 c33 k33
  have B33 := F33.binds (ps := ["e"]) fun _ _ _ _ _ _ us hl => match us, hl with | [_], _ => rfl
  have F34 := fun_mk (st := s_law_outcome) l34 c34 k34
  have B34 := F34.binds (ps := ["deed"]) fun _ _ _ _ _ _ us hl => match us, hl with | [_], _ => rfl
  have F35 := fun_mk (st := s_law_great_coder) l35 c35 k35
  have B35 := F35.binds (ps := ["m"]) fun _ _ _ _ _ _ us hl => match us, hl with | [_], _ => rfl
  have F36 := fun_mk (st := s_law_block) l36 c36 k36
  have B36 := F36.binds (ps := ["here", "row"]) fun _ _ _ _ _ _ us hl => match us, hl with | [_, _], _ => rfl
  have F37 := fun_mk (st := s_law_file) l37 c37 k37
  have B37 := F37.binds (ps := ["coder", "row", "sizes", "here"]) fun _ _ _ _ _ _ us hl => match us, hl with | [_, _, _, _], _ => rfl
  have F38 := fun_mk (st := s_law_block_read) l38 c38 k38
  have B38 := F38.binds (ps := ["coder", "data", "at", "due"]) fun _ _ _ _ _ _ us hl => match us, hl with | [_, _, _, _], _ => rfl
  have F39 := fun_mk (st := s_law_pieces) l39 c39 k39
  have B39 := F39.binds (ps := ["m", "coder", "many"]) fun _ _ _ _ _ _ us hl => match us, hl with | [_, _, _], _ => rfl
  have F40 := fun_mk (st := s_law_bent_data) l40 c40 k40
  have B40 := F40.binds (ps := ["m", "data"]) fun _ _ _ _ _ _ us hl => match us, hl with | [_, _], _ => rfl
  have F41 := fun_mk (st := s_law_due) l41 c41 k41
  have B41 := F41.binds (ps := ["coder", "data"]) fun _ _ _ _ _ _ us hl => match us, hl with | [_, _], _ => rfl
  have F42 := fun_mk (st := s_law_right) l42 c42 k42
  have B42 := F42.binds (ps := ["coder", "data"]) fun _ _ _ _ _ _ us hl => match us, hl with | [_, _], _ => rfl
  have F43 := fun_mk (st := s_law) l43 c43 k43
  have B43 := F43.binds (ps := ["script"]) fun _ _ _ _ _ _ us hl => match us, hl with | [_], _ => rfl
  have FI0 := fun_mk (st := si_BadCoder) lC0 cC0 kI0
  have BI0 := FI0.binds (ps := ["self", "part", "number"]) fun _ _ _ _ _ _ us hl => match us, hl with | [_, _, _], _ => rfl
  have FI1 := fun_mk (st := si_BadByte) lC1 cC1 kI1
  have BI1 := FI1.binds (ps := ["self", "number"]) fun _ _ _ _ _ _ us hl => match us, hl with | [_, _], _ => rfl
  have FI2 := fun_mk (st := si_TooGreat) lC2 cC2 kI2
  have BI2 := FI2.binds (ps := ["self", "most"]) fun _ _ _ _ _ _ us hl => match us, hl with | [_, _], _ => rfl
  let T : Txt K mg := {
    f_is_integer := f0, d_is_integer := _, F_is_integer := F0, b_is_integer := B0, g_is_integer := PySem.W.mg_of X G a0,
    f_is_between := f1, d_is_between := _, F_is_between := F1, b_is_between := B1, g_is_between := PySem.W.mg_of X G a1,
    f_is_pair := f2, d_is_pair := _, F_is_pair := F2, b_is_pair := B2, g_is_pair := PySem.W.mg_of X G a2,
    f_rounded := f3, d_rounded := _, F_rounded := F3, b_rounded := B3, g_rounded := PySem.W.mg_of X G a3,
    f_limited := f4, d_limited := _, F_limited := F4, b_limited := B4, g_limited := PySem.W.mg_of X G a4,
    f_change_at := f5, d_change_at := _, F_change_at := F5, b_change_at := B5, g_change_at := PySem.W.mg_of X G a5,
    f_faded := f6, d_faded := _, F_faded := F6, b_faded := B6, g_faded := PySem.W.mg_of X G a6,
    f_state_behind := f7, d_state_behind := _, F_state_behind := F7, b_state_behind := B7, g_state_behind := PySem.W.mg_of X G a7,
    f_state_behind_row := f8, d_state_behind_row := _, F_state_behind_row := F8, b_state_behind_row := B8, g_state_behind_row := PySem.W.mg_of X G a8,
    f_need_coder := f9, d_need_coder := _, F_need_coder := F9, b_need_coder := B9, g_need_coder := PySem.W.mg_of X G a9,
    f__first_fault := f10, d__first_fault := _, F__first_fault := F10, b__first_fault := B10, g__first_fault := PySem.W.mg_of X G a10,
    f__fault_of_steps := f11, d__fault_of_steps := _, F__fault_of_steps := F11, b__fault_of_steps := B11, g__fault_of_steps := PySem.W.mg_of X G a11,
    f__fault_of_moves := f12, d__fault_of_moves := _, F__fault_of_moves := F12, b__fault_of_moves := B12, g__fault_of_moves := PySem.W.mg_of X G a12,
    f__is_tuple_of := f13, d__is_tuple_of := _, F__is_tuple_of := F13, b__is_tuple_of := B13, g__is_tuple_of := PySem.W.mg_of X G a13,
    f__is_move := f14, d__is_move := _, F__is_move := F14, b__is_move := B14, g__is_move := PySem.W.mg_of X G a14,
    f__is_fade := f15, d__is_fade := _, F__is_fade := F15, b__is_fade := B15, g__is_fade := PySem.W.mg_of X G a15,
    f_read_file := f16, d_read_file := _, F_read_file := F16, b_read_file := B16, g_read_file := PySem.W.mg_of X G a16,
    f__need_coder_and_tuple := f17, d__need_coder_and_tuple := _, F__need_coder_and_tuple := F17, b__need_coder_and_tuple := B17, g__need_coder_and_tuple := PySem.W.mg_of X G a17,
    f__sum_index := f18, d__sum_index := _, F__sum_index := F18, b__sum_index := B18, g__sum_index := PySem.W.mg_of X G a18,
    f__block_at := f19, d__block_at := _, F__block_at := F19, b__block_at := B19, g__block_at := PySem.W.mg_of X G a19,
    f__byte_at := f20, d__byte_at := _, F__byte_at := F20, b__byte_at := B20, g__byte_at := PySem.W.mg_of X G a20,
    f__byte_between := f21, d__byte_between := _, F__byte_between := F21, b__byte_between := B21, g__byte_between := PySem.W.mg_of X G a21,
    f__state_at := f22, d__state_at := _, F__state_at := F22, b__state_at := B22, g__state_at := PySem.W.mg_of X G a22,
    f__codes_at := f23, d__codes_at := _, F__codes_at := F23, b__codes_at := B23, g__codes_at := PySem.W.mg_of X G a23,
    f__law_begun := f24, d__law_begun := _, F__law_begun := F24, b__law_begun := B24, g__law_begun := PySem.W.mg_of X G a24,
    f__law_next := f25, d__law_next := _, F__law_next := F25, b__law_next := B25, g__law_next := PySem.W.mg_of X G a25,
    f__law_parted := f26, d__law_parted := _, F__law_parted := F26, b__law_parted := B26, g__law_parted := PySem.W.mg_of X G a26,
    f__law_limited := f27, d__law_limited := _, F__law_limited := F27, b__law_limited := B27, g__law_limited := PySem.W.mg_of X G a27,
    f__law_led := f28, d__law_led := _, F__law_led := F28, b__law_led := B28, g__law_led := PySem.W.mg_of X G a28,
    f__law_walked := f29, d__law_walked := _, F__law_walked := F29, b__law_walked := B29, g__law_walked := PySem.W.mg_of X G a29,
    f__law_some_state := f30, d__law_some_state := _, F__law_some_state := F30, b__law_some_state := B30, g__law_some_state := PySem.W.mg_of X G a30,
    f__law_row := f31, d__law_row := _, F__law_row := F31, b__law_row := B31, g__law_row := PySem.W.mg_of X G a31,
    f__law_is_whole := f32, d__law_is_whole := _, F__law_is_whole := F32, b__law_is_whole := B32, g__law_is_whole := PySem.W.mg_of X G a32,
    f__law_fault := f33, d__law_fault := _, F__law_fault := F33, b__law_fault := B33, g__law_fault := PySem.W.mg_of X G a33,
    f__law_outcome := f34, d__law_outcome := _, F__law_outcome := F34, b__law_outcome := B34, g__law_outcome := PySem.W.mg_of X G a34,
    kp_oc := k34, lk_oc := ⟨_, _, _, _, _, _, _, _, _, _, l34, c34, B34⟩,
    f__law_great_coder := f35, d__law_great_coder := _, F__law_great_coder := F35, b__law_great_coder := B35, g__law_great_coder := PySem.W.mg_of X G a35,
    f__law_block := f36, d__law_block := _, F__law_block := F36, b__law_block := B36, g__law_block := PySem.W.mg_of X G a36,
    f__law_file := f37, d__law_file := _, F__law_file := F37, b__law_file := B37, g__law_file := PySem.W.mg_of X G a37,
    f__law_block_read := f38, d__law_block_read := _, F__law_block_read := F38, b__law_block_read := B38, g__law_block_read := PySem.W.mg_of X G a38,
    f__law_pieces := f39, d__law_pieces := _, F__law_pieces := F39, b__law_pieces := B39, g__law_pieces := PySem.W.mg_of X G a39,
    f__law_bent_data := f40, d__law_bent_data := _, F__law_bent_data := F40, b__law_bent_data := B40, g__law_bent_data := PySem.W.mg_of X G a40,
    f__law_due := f41, d__law_due := _, F__law_due := F41, b__law_due := B41, g__law_due := PySem.W.mg_of X G a41,
    f__law_right := f42, d__law_right := _, F__law_right := F42, b__law_right := B42, g__law_right := PySem.W.mg_of X G a42,
    c__law_right := cL42, P__law_right := PL42, cd__law_right := rfl,
    f_law := fa, d_law := _, F_law := F43, b_law := B43, g_law := hfa,
    c_law := cL43, P_law := PL43, cd_law := rfl,
    nP__law_right_law := nP42x43,
    z_bool := PySem.W.mg_none_of X G z_bool,
    z_enumerate := PySem.W.mg_none_of X G z_enumerate,
    z_int := PySem.W.mg_none_of X G z_int,
    z_isinstance := PySem.W.mg_none_of X G z_isinstance,
    z_len := PySem.W.mg_none_of X G z_len,
    z_list := PySem.W.mg_none_of X G z_list,
    z_max := PySem.W.mg_none_of X G z_max,
    z_min := PySem.W.mg_none_of X G z_min,
    z_range := PySem.W.mg_none_of X G z_range,
    z_repr := PySem.W.mg_none_of X G z_repr,
    z_sum := PySem.W.mg_none_of X G z_sum,
    z_tuple := PySem.W.mg_none_of X G z_tuple,
    x_BadCoder := ⟨gaC0, ggC0, eC0, hdC0⟩, n_BadCoder_part := nC0part, n_BadCoder_number := nC0number, X_BadCoder := ⟨gaC0, ggC0, eC0, hdC0, haC0, hnO, htO, hmC0⟩, e_BadCoder_BadByte := exm_of eC1 isC1 tC1 sC0x1, e_BadCoder_TooGreat := exm_of eC2 isC2 tC2 sC0x2, em_BadCoder := ⟨exm_of eC0 isC0 tC0 sC0, exm_of eC3 isC3 tC3 sC0x3, exm_of eC4 isC4 tC4 sC0x4, exm_of eC1 isC1 tC1 sC0x1, exm_of eC2 isC2 tC2 sC0x2, exm_of eC5 isC5 tC5 sC0x5, exm_of eC6 isC6 tC6 sC0x6, exm_of eC7 isC7 tC7 sC0x7, True.intro⟩, ks_BadCoder := ⟨kit_self, kit_no isC3 tC3 sC0 sC0x3, kit_no isC4 tC4 sC0 sC0x4, kit_no isC1 tC1 sC0 sC0x1, kit_no isC2 tC2 sC0 sC0x2, kit_no isC5 tC5 sC0 sC0x5, kit_no isC6 tC6 sC0 sC0x6, kit_no isC7 tC7 sC0 sC0x7, True.intro⟩,
    C_BadCoder := C0, fi_BadCoder := g0, di_BadCoder := _, g_BadCoder := PySem.W.mg_of X G aC0, o_BadCoder := ⟨⟨_, _, _, _, _, _, _, _, _, _, _, _, _, _, _, xC0, by decide +kernel⟩, saC0, eC0, tC0, kC0⟩, i_BadCoder := iC0, t_BadCoder := tI0, Fi_BadCoder := FI0, bi_BadCoder := BI0, e_BadCoder := exm_of eC0 isC0 tC0 sC0,
    x_BadByte := ⟨gaC1, ggC1, eC1, hdC1⟩, n_BadByte_number := nC1number, X_BadByte := ⟨gaC1, ggC1, eC1, hdC1, haC1, hnO, htO, hmC1⟩, e_BadByte_BadCoder := exm_of eC0 isC0 tC0 sC1x0, e_BadByte_TooGreat := exm_of eC2 isC2 tC2 sC1x2, em_BadByte := ⟨exm_of eC0 isC0 tC0 sC1x0, exm_of eC3 isC3 tC3 sC1x3, exm_of eC4 isC4 tC4 sC1x4, exm_of eC1 isC1 tC1 sC1, exm_of eC2 isC2 tC2 sC1x2, exm_of eC5 isC5 tC5 sC1x5, exm_of eC6 isC6 tC6 sC1x6, exm_of eC7 isC7 tC7 sC1x7, True.intro⟩, ks_BadByte := ⟨kit_no isC0 tC0 sC1 sC1x0, kit_no isC3 tC3 sC1 sC1x3, kit_no isC4 tC4 sC1 sC1x4, kit_self, kit_no isC2 tC2 sC1 sC1x2, kit_no isC5 tC5 sC1 sC1x5, kit_no isC6 tC6 sC1 sC1x6, kit_no isC7 tC7 sC1 sC1x7, True.intro⟩,
    C_BadByte := C1, fi_BadByte := g1, di_BadByte := _, g_BadByte := PySem.W.mg_of X G aC1, o_BadByte := ⟨⟨_, _, _, _, _, _, _, _, _, _, _, _, _, _, _, xC1, by decide +kernel⟩, saC1, eC1, tC1, kC1⟩, i_BadByte := iC1, t_BadByte := tI1, Fi_BadByte := FI1, bi_BadByte := BI1, e_BadByte := exm_of eC1 isC1 tC1 sC1,
    x_TooGreat := ⟨gaC2, ggC2, eC2, hdC2⟩, n_TooGreat_most := nC2most, X_TooGreat := ⟨gaC2, ggC2, eC2, hdC2, haC2, hnO, htO, hmC2⟩, e_TooGreat_BadCoder := exm_of eC0 isC0 tC0 sC2x0, e_TooGreat_BadByte := exm_of eC1 isC1 tC1 sC2x1, em_TooGreat := ⟨exm_of eC0 isC0 tC0 sC2x0, exm_of eC3 isC3 tC3 sC2x3, exm_of eC4 isC4 tC4 sC2x4, exm_of eC1 isC1 tC1 sC2x1, exm_of eC2 isC2 tC2 sC2, exm_of eC5 isC5 tC5 sC2x5, exm_of eC6 isC6 tC6 sC2x6, exm_of eC7 isC7 tC7 sC2x7, True.intro⟩, ks_TooGreat := ⟨kit_no isC0 tC0 sC2 sC2x0, kit_no isC3 tC3 sC2 sC2x3, kit_no isC4 tC4 sC2 sC2x4, kit_no isC1 tC1 sC2 sC2x1, kit_self, kit_no isC5 tC5 sC2 sC2x5, kit_no isC6 tC6 sC2 sC2x6, kit_no isC7 tC7 sC2 sC2x7, True.intro⟩,
    C_TooGreat := C2, fi_TooGreat := g2, di_TooGreat := _, g_TooGreat := PySem.W.mg_of X G aC2, o_TooGreat := ⟨⟨_, _, _, _, _, _, _, _, _, _, _, _, _, _, xC2⟩, saC2, eC2, tC2, kC2⟩, i_TooGreat := iC2, t_TooGreat := tI2, Fi_TooGreat := FI2, bi_TooGreat := BI2, e_TooGreat := exm_of eC2 isC2 tC2 sC2,
    C_BadRow := C3, g_BadRow := PySem.W.mg_of X G aC3,
    C_BadPaper := C4, g_BadPaper := PySem.W.mg_of X G aC4,
    C_OutOfPlace := C5, g_OutOfPlace := PySem.W.mg_of X G aC5,
    C_NoSeam := C6, g_NoSeam := PySem.W.mg_of X G aC6,
    C_Nothing := C7, g_Nothing := PySem.W.mg_of X G aC7,
    vV := vV, zV := PySem.W.mg_none_of X G zV,
    t_MOST_CODES := tMC, g_MOST_CODES := PySem.W.mg_of X G mc,
    q_MARK := qMARK, qs_MARK := fun H => .inr ⟨_, #[.int 165 tMARK0, .int 90 tMARK1], _, lMARK, rfl, rfl, (by show 2 ≤ sizeLine; decide), (.cons ⟨_, rfl⟩ (.cons ⟨_, rfl⟩ .nil))⟩, g_MARK := PySem.W.mg_of X G cMARK,
    t_HEAD := tHEAD, g_HEAD := PySem.W.mg_of X G cHEAD }
  have t1 : ∀ p ∈ ([(cL42, PL42), (cL43, PL43)] : List (Addr × Addr)), h.get? p.2 = some (tabO #[]) := List.forall_mem_cons.mpr ⟨own _ (by simp) _ (PySem.W.mg_of X G a42) _ _ _ _ _ _ _ _ l42 rfl rfl lL42 vL42, List.forall_mem_cons.mpr ⟨own _ (by simp) _ (PySem.W.mg_of X G a43) _ _ _ _ _ _ _ _ l43 rfl rfl lL43 vL43, List.forall_mem_nil _⟩⟩
  have t2 : ∀ p ∈ ([(cL42, PL42), (cL43, PL43)] : List (Addr × Addr)), K.lookup p.2 = none := List.forall_mem_cons.mpr ⟨nL42, List.forall_mem_cons.mpr ⟨nL43, List.forall_mem_nil _⟩⟩
  have t3 : ∀ p ∈ ([(cL42, PL42), (cL43, PL43)] : List (Addr × Addr)), PySem.W.CodeHd h p.1 p.2 := List.forall_mem_cons.mpr ⟨PySem.W.codeHd_of_K X hL42, List.forall_mem_cons.mpr ⟨PySem.W.codeHd_of_K X hL43, List.forall_mem_nil _⟩⟩
  exact ⟨_, [(cL42, PL42), (cL43, PL43)], t1, t2, t3, fun s v => .of_eq rfl, fun base _ _ tb => ok_law T (tb _ (.head _)) (tb _ (.tail _ (.head _)))⟩
end My
open PySem PySem.W PyProof.Rows
set_option maxRecDepth 100000 in
set_option maxHeartbeats 0 in
theorem PySem.Challenge.cw_stepsound_k48_whole_files_refused_holds : PySem.Challenge.rw_stepsound_k48_whole_files_refused.Holds := by
  w_on; o_law; k_head; (case hw => w_witness2)
  k_fill
  refine My.walk_ofGTs (l := PySem.Challenge.rw_stepsound_k48_whole_files_refused) (n := 63) (k := 18) (x := "script") (NM := ["_law_right", "law"]) (sp := fun K cs => My.sp_law K (cs.map (·.2))) rfl (by decide) rfl ⟨rfl, by decide, by decide⟩ (by decide +kernel) (fun w h Y => PySem.W.km_in_of Y) ?F (fun K H a cs ns hl hP hS => ⟨a, ns, rfl, hS, hl, (fun P hp => by obtain ⟨p, hp2, rfl⟩ := List.mem_map.mp hp; exact hP p hp2), fun _ => rfl⟩)
  case F =>
    intro w mg fa h KX G hmg own
    refine' My.all_mk KX G hmg own ?a0 ?l0 ?c0 ?k0 ?a1 ?l1 ?c1 ?k1 ?a2 ?l2 ?c2 ?k2 ?a3 ?l3 ?c3 ?k3 ?a4 ?l4 ?c4 ?k4 ?a5 ?l5 ?c5 ?k5 ?a6 ?l6 ?c6 ?k6 ?a7 ?l7 ?c7 ?k7 ?a8 ?l8 ?c8 ?k8 ?a9 ?l9 ?c9 ?k9 ?a10 ?l10 ?c10 ?k10 ?a11 ?l11 ?c11 ?k11 ?a12 ?l12 ?c12 ?k12 ?a13 ?l13 ?c13 ?k13 ?a14 ?l14 ?c14 ?k14 ?a15 ?l15 ?c15 ?k15 ?a16 ?l16 ?c16 ?k16 ?a17 ?l17 ?c17 ?k17 ?a18 ?l18 ?c18 ?k18 ?a19 ?l19 ?c19 ?k19 ?a20 ?l20 ?c20 ?k20 ?a21 ?l21 ?c21 ?k21 ?a22 ?l22 ?c22 ?k22 ?a23 ?l23 ?c23 ?k23 ?a24 ?l24 ?c24 ?k24 ?a25 ?l25 ?c25 ?k25 ?a26 ?l26 ?c26 ?k26 ?a27 ?l27 ?c27 ?k27 ?a28 ?l28 ?c28 ?k28 ?a29 ?l29 ?c29 ?k29 ?a30 ?l30 ?c30 ?k30 ?a31 ?l31 ?c31 ?k31 ?a32 ?l32 ?c32 ?k32 ?a33 ?l33 ?c33 ?k33 ?a34 ?l34 ?c34 ?k34 ?a35 ?l35 ?c35 ?k35 ?a36 ?l36 ?c36 ?k36 ?a37 ?l37 ?c37 ?k37 ?a38 ?l38 ?c38 ?k38 ?a39 ?l39 ?c39 ?k39 ?a40 ?l40 ?c40 ?k40 ?a41 ?l41 ?c41 ?k41 ?a42 ?l42 ?c42 ?k42 ?lL42 ?vL42 ?hL42 ?nL42 ?a43 ?l43 ?c43 ?k43 ?lL43 ?vL43 ?hL43 ?nL43 ?nP42x43 ?z_bool ?z_enumerate ?z_int ?z_isinstance ?z_len ?z_list ?z_max ?z_min ?z_range ?z_repr ?z_sum ?z_tuple ?aC0 ?xC0 ?saC0 ?iC0 ?tI0 ?lC0 ?cC0 ?kI0 ?kC0 ?eC0 ?tC0 ?isC0 ?sC0 ?gaC0 ?ggC0 ?hdC0 ?nC0part ?nC0number ?haC0 ?hmC0 ?aC1 ?xC1 ?saC1 ?iC1 ?tI1 ?lC1 ?cC1 ?kI1 ?kC1 ?eC1 ?tC1 ?isC1 ?sC1 ?gaC1 ?ggC1 ?hdC1 ?nC1number ?haC1 ?hmC1 ?aC2 ?xC2 ?saC2 ?iC2 ?tI2 ?lC2 ?cC2 ?kI2 ?kC2 ?eC2 ?tC2 ?isC2 ?sC2 ?gaC2 ?ggC2 ?hdC2 ?nC2most ?haC2 ?hmC2 ?aC3 ?eC3 ?tC3 ?isC3 ?aC4 ?eC4 ?tC4 ?isC4 ?aC5 ?eC5 ?tC5 ?isC5 ?aC6 ?eC6 ?tC6 ?isC6 ?aC7 ?eC7 ?tC7 ?isC7 ?hnO ?htO ?sC0x1 ?sC0x2 ?sC0x3 ?sC0x4 ?sC0x5 ?sC0x6 ?sC0x7 ?sC1x0 ?sC1x2 ?sC1x3 ?sC1x4 ?sC1x5 ?sC1x6 ?sC1x7 ?sC2x0 ?sC2x1 ?sC2x3 ?sC2x4 ?sC2x5 ?sC2x6 ?sC2x7 ?vV ?zV ?mc ?cMARK ?lMARK ?cHEAD
    (case a0 => k_is)
    (case l0 => k_is)
    (case c0 => k_is)
    (case k0 => k_is)
    (case a1 => k_is)
    (case l1 => k_is)
    (case c1 => k_is)
    (case k1 => k_is)
    (case a2 => k_is)
    (case l2 => k_is)
    (case c2 => k_is)
    (case k2 => k_is)
    (case a3 => k_is)
    (case l3 => k_is)
    (case c3 => k_is)
    (case k3 => k_is)
    (case a4 => k_is)
    (case l4 => k_is)
    (case c4 => k_is)
    (case k4 => k_is)
    (case a5 => k_is)
    (case l5 => k_is)
    (case c5 => k_is)
    (case k5 => k_is)
    (case a6 => k_is)
    (case l6 => k_is)
    (case c6 => k_is)
    (case k6 => k_is)
    (case a7 => k_is)
    (case l7 => k_is)
    (case c7 => k_is)
    (case k7 => k_is)
    (case a8 => k_is)
    (case l8 => k_is)
    (case c8 => k_is)
    (case k8 => k_is)
    (case a9 => k_is)
    (case l9 => k_is)
    (case c9 => k_is)
    (case k9 => k_is)
    (case a10 => k_is)
    (case l10 => k_is)
    (case c10 => k_is)
    (case k10 => k_is)
    (case a11 => k_is)
    (case l11 => k_is)
    (case c11 => k_is)
    (case k11 => k_is)
    (case a12 => k_is)
    (case l12 => k_is)
    (case c12 => k_is)
    (case k12 => k_is)
    (case a13 => k_is)
    (case l13 => k_is)
    (case c13 => k_is)
    (case k13 => k_is)
    (case a14 => k_is)
    (case l14 => k_is)
    (case c14 => k_is)
    (case k14 => k_is)
    (case a15 => k_is)
    (case l15 => k_is)
    (case c15 => k_is)
    (case k15 => k_is)
    (case a16 => k_is)
    (case l16 => k_is)
    (case c16 => k_is)
    (case k16 => k_is)
    (case a17 => k_is)
    (case l17 => k_is)
    (case c17 => k_is)
    (case k17 => k_is)
    (case a18 => k_is)
    (case l18 => k_is)
    (case c18 => k_is)
    (case k18 => k_is)
    (case a19 => k_is)
    (case l19 => k_is)
    (case c19 => k_is)
    (case k19 => k_is)
    (case a20 => k_is)
    (case l20 => k_is)
    (case c20 => k_is)
    (case k20 => k_is)
    (case a21 => k_is)
    (case l21 => k_is)
    (case c21 => k_is)
    (case k21 => k_is)
    (case a22 => k_is)
    (case l22 => k_is)
    (case c22 => k_is)
    (case k22 => k_is)
    (case a23 => k_is)
    (case l23 => k_is)
    (case c23 => k_is)
    (case k23 => k_is)
    (case a24 => k_is)
    (case l24 => k_is)
    (case c24 => k_is)
    (case k24 => k_is)
    (case a25 => k_is)
    (case l25 => k_is)
    (case c25 => k_is)
    (case k25 => k_is)
    (case a26 => k_is)
    (case l26 => k_is)
    (case c26 => k_is)
    (case k26 => k_is)
    (case a27 => k_is)
    (case l27 => k_is)
    (case c27 => k_is)
    (case k27 => k_is)
    (case a28 => k_is)
    (case l28 => k_is)
    (case c28 => k_is)
    (case k28 => k_is)
    (case a29 => k_is)
    (case l29 => k_is)
    (case c29 => k_is)
    (case k29 => k_is)
    (case a30 => k_is)
    (case l30 => k_is)
    (case c30 => k_is)
    (case k30 => k_is)
    (case a31 => k_is)
    (case l31 => k_is)
    (case c31 => k_is)
    (case k31 => k_is)
    (case a32 => k_is)
    (case l32 => k_is)
    (case c32 => k_is)
    (case k32 => k_is)
    (case a33 => k_is)
    (case l33 => k_is)
    (case c33 => k_is)
    (case k33 => k_is)
    (case a34 => k_is)
    (case l34 => k_is)
    (case c34 => k_is)
    (case k34 => k_is)
    (case a35 => k_is)
    (case l35 => k_is)
    (case c35 => k_is)
    (case k35 => k_is)
    (case a36 => k_is)
    (case l36 => k_is)
    (case c36 => k_is)
    (case k36 => k_is)
    (case a37 => k_is)
    (case l37 => k_is)
    (case c37 => k_is)
    (case k37 => k_is)
    (case a38 => k_is)
    (case l38 => k_is)
    (case c38 => k_is)
    (case k38 => k_is)
    (case a39 => k_is)
    (case l39 => k_is)
    (case c39 => k_is)
    (case k39 => k_is)
    (case a40 => k_is)
    (case l40 => k_is)
    (case c40 => k_is)
    (case k40 => k_is)
    (case a41 => k_is)
    (case l41 => k_is)
    (case c41 => k_is)
    (case k41 => k_is)
    (case a42 => k_is)
    (case l42 => k_is)
    (case c42 => k_is)
    (case k42 => k_is)
    (case lL42 => k_is)
    (case vL42 => exact rfl)
    (case hL42 => first | decide +kernel | rfl)
    (case nL42 => first | decide +kernel | rfl)
    (case a43 => k_is)
    (case l43 => k_is)
    (case c43 => k_is)
    (case k43 => k_is)
    (case lL43 => k_is)
    (case vL43 => exact rfl)
    (case hL43 => first | decide +kernel | rfl)
    (case nL43 => first | decide +kernel | rfl)
    (case nP42x43 => first | decide | decide +kernel | simp)
    (case z_bool => k_is)
    (case z_enumerate => k_is)
    (case z_int => k_is)
    (case z_isinstance => k_is)
    (case z_len => k_is)
    (case z_list => k_is)
    (case z_max => k_is)
    (case z_min => k_is)
    (case z_range => k_is)
    (case z_repr => k_is)
    (case z_sum => k_is)
    (case z_tuple => k_is)
    (case aC0 => k_is)
    (case xC0 => k_is)
    (case saC0 => k_is)
    (case iC0 => k_is)
    (case tI0 => k_is)
    (case lC0 => k_is)
    (case cC0 => k_is)
    (case kI0 => k_is)
    (case kC0 => k_is)
    (case eC0 => k_is)
    (case tC0 => k_is)
    (case isC0 => k_is)
    (case sC0 => first | rfl | k_is | decide +kernel)
    (case gaC0 => k_is)
    (case ggC0 => k_is)
    (case hdC0 => k_is)
    (case nC0part => k_is)
    (case nC0number => k_is)
    (case haC0 => k_is)
    (case hmC0 => k_is)
    (case aC1 => k_is)
    (case xC1 => k_is)
    (case saC1 => k_is)
    (case iC1 => k_is)
    (case tI1 => k_is)
    (case lC1 => k_is)
    (case cC1 => k_is)
    (case kI1 => k_is)
    (case kC1 => k_is)
    (case eC1 => k_is)
    (case tC1 => k_is)
    (case isC1 => k_is)
    (case sC1 => first | rfl | k_is | decide +kernel)
    (case gaC1 => k_is)
    (case ggC1 => k_is)
    (case hdC1 => k_is)
    (case nC1number => k_is)
    (case haC1 => k_is)
    (case hmC1 => k_is)
    (case aC2 => k_is)
    (case xC2 => k_is)
    (case saC2 => k_is)
    (case iC2 => k_is)
    (case tI2 => k_is)
    (case lC2 => k_is)
    (case cC2 => k_is)
    (case kI2 => k_is)
    (case kC2 => k_is)
    (case eC2 => k_is)
    (case tC2 => k_is)
    (case isC2 => k_is)
    (case sC2 => first | rfl | k_is | decide +kernel)
    (case gaC2 => k_is)
    (case ggC2 => k_is)
    (case hdC2 => k_is)
    (case nC2most => k_is)
    (case haC2 => k_is)
    (case hmC2 => k_is)
    (case aC3 => k_is)
    (case eC3 => k_is)
    (case tC3 => k_is)
    (case isC3 => k_is)
    (case aC4 => k_is)
    (case eC4 => k_is)
    (case tC4 => k_is)
    (case isC4 => k_is)
    (case aC5 => k_is)
    (case eC5 => k_is)
    (case tC5 => k_is)
    (case isC5 => k_is)
    (case aC6 => k_is)
    (case eC6 => k_is)
    (case tC6 => k_is)
    (case isC6 => k_is)
    (case aC7 => k_is)
    (case eC7 => k_is)
    (case tC7 => k_is)
    (case isC7 => k_is)
    (case hnO => k_is)
    (case htO => k_is)
    (case sC0x1 => first | rfl | k_is | decide +kernel)
    (case sC0x2 => first | rfl | k_is | decide +kernel)
    (case sC0x3 => first | rfl | k_is | decide +kernel)
    (case sC0x4 => first | rfl | k_is | decide +kernel)
    (case sC0x5 => first | rfl | k_is | decide +kernel)
    (case sC0x6 => first | rfl | k_is | decide +kernel)
    (case sC0x7 => first | rfl | k_is | decide +kernel)
    (case sC1x0 => first | rfl | k_is | decide +kernel)
    (case sC1x2 => first | rfl | k_is | decide +kernel)
    (case sC1x3 => first | rfl | k_is | decide +kernel)
    (case sC1x4 => first | rfl | k_is | decide +kernel)
    (case sC1x5 => first | rfl | k_is | decide +kernel)
    (case sC1x6 => first | rfl | k_is | decide +kernel)
    (case sC1x7 => first | rfl | k_is | decide +kernel)
    (case sC2x0 => first | rfl | k_is | decide +kernel)
    (case sC2x1 => first | rfl | k_is | decide +kernel)
    (case sC2x3 => first | rfl | k_is | decide +kernel)
    (case sC2x4 => first | rfl | k_is | decide +kernel)
    (case sC2x5 => first | rfl | k_is | decide +kernel)
    (case sC2x6 => first | rfl | k_is | decide +kernel)
    (case sC2x7 => first | rfl | k_is | decide +kernel)
    (case vV => first | rfl | k_is | decide +kernel)
    (case zV => k_is)
    (case mc => k_is)
    (case cMARK => k_is)
    (case lMARK => k_is)
    (case cHEAD => k_is)


