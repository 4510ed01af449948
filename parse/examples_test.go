package parse_test

import "testing"

// The examples at the chapter's end.
func TestExamples(t *testing.T) {
	program.want(t, "func main() { print(1 + 2*3) }",
		"Program@0(Func:main@0(Params@9 Block@12(Do@14(Call@19(Name:print@14 Binary:+@22(Int:1@20 Binary:*@25(Int:2@24 Int:3@26)))))))")
	statements.want(t, "x, ok := a + b", "!token@11 +")
	statements.want(t, "x, ok := a", "!token@10")
	statements.want(t, "a + b", "!token@2 +")
	statements.want(t, "f() = 1", "!token@4 =")
	statements.want(t, "if x == T{} { }", "!token@12 {")
	statements.want(t, "if x == (T{}) { }",
		"Block@0(If@0(Binary:==@5(Name:x@3 Make:T@9) Block@14 None@17))")
	statements.want(t, "for i, v in l { }", "Block@0(Range@0(Name:i@4 Name:v@7 Name:l@12 Block@14))")
	statements.want(t, "for _ in 3 { }", "Block@0(Range@0(None@4 None@6 Int:3@9 Block@11))")
	statements.want(t, "switch v := e.(type) { case *T, nil: x++; default: }",
		"Block@0(TypeSwitch@0(Name:v@7 Name:e@12 Case@23(List@28(Pointer@28(Name:T@29) Name:nil@32) Block@35(Step:++@37(Name:x@37)))"+
			" Case@42(None@49 Block@49)))")
	expression.want(t, "(*T).m(p)", "Call@6(Select:m@4(Unary:*@1(Name:T@2)) Name:p@7)")
}
