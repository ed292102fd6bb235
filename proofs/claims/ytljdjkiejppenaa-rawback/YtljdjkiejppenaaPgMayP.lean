/- gantryref8: has a program bytes? -/
import Derived.Test.YtljdjkiejppenaaG6
namespace Go.Proofs.Ytljdjkiejppenaa
open Go.RowKit
set_option linter.unusedVariables false
namespace Pg
def Tp.may (x : Tp) : Bool := okB x.kind && (okB x.elem && (okB x.n && x.fields.all okB))
def Fn.may (x : Fn) : Bool := okB x.params && (x.locals.all okB && (x.results.all okB && x.body.all St.may))
def Pr.may (p : Pr) : Bool := p.types.all Tp.may && p.funcs.all Fn.may
end Pg
end Go.Proofs.Ytljdjkiejppenaa
