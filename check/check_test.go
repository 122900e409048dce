package check_test

import (
	"math/big"
	"slices"
	"strconv"
	"strings"
	"testing"

	"palimpsest/api"
	"palimpsest/check"
	"palimpsest/parse"
)

// The calls must have just these signatures: the layers above are built on them.
var (
	_ func(d api.Def) (api.Info, error)  = check.Check
	_ func(d api.Def, args ...int) error = check.Calls
)

// parsed is the definition of a text that must have one.
func parsed(t *testing.T, text string) api.Def {
	t.Helper()
	d, err := parse.Parse(text)
	if err != nil {
		t.Fatalf("%q: %v", text, err)
	}
	return d
}

// outcome is what Check answers, as a value: a fault of number 0 is none.
type outcome struct {
	info  api.Info
	fault api.Fault
}

// checked is what Check answers, which is an Info or a Fault, and never both.
func checked(t *testing.T, d api.Def) outcome {
	t.Helper()
	info, err := check.Check(d)
	if err == nil {
		return outcome{info: info}
	}
	f, ok := err.(*api.Fault)
	if !ok || f == nil || f.Code == 0 || info != (api.Info{}) {
		t.Fatalf("%q: %+v with %v", parse.Print(d), info, err)
	}
	return outcome{fault: *f}
}

// found holds what is found of a text against what is wanted.
func found(t *testing.T, text string, want api.Info) {
	t.Helper()
	if got := checked(t, parsed(t, text)); got != (outcome{info: want}) {
		t.Errorf("%q: %+v, want %+v", text, got, want)
	}
}

// good is what is found of a text that must have no fault.
func good(t *testing.T, text string) api.Info {
	t.Helper()
	got := checked(t, parsed(t, text))
	if got.fault != (api.Fault{}) {
		t.Errorf("%q: %v at %d", text, got.fault.Code, got.fault.At)
	}
	return got.info
}

// refused tells of a text that isn't refused with this fault at this place.
func refused(t *testing.T, text string, code api.Errno, at int) {
	t.Helper()
	want := api.Fault{Code: code, At: at}
	if got := checked(t, parsed(t, text)); got.fault != want {
		t.Errorf("%q: %v at %d (%+v), want %v at %d", text, got.fault.Code, got.fault.At, got.info, code, at)
	}
}

// marked tells of a text that isn't refused with this fault at the place of the mark ^.
func marked(t *testing.T, code api.Errno, texts ...string) {
	t.Helper()
	for _, text := range texts {
		at := strings.IndexByte(text, '^')
		refused(t, text[:at]+text[at+1:], code, at)
	}
}

// P8.1: what is found

func TestExamples(t *testing.T) {
	found(t, "op add(i, v) { need i < 60; [i] += v; }", api.Info{Mode: api.Adds, Steps: 6, Names: 2, Turns: true})
	found(t, "op add(i, v) { need i < 60; [i] += v; give [i]; }", api.Info{Mode: api.Writes, Steps: 8, Names: 2, Turns: true})
	found(t, "op get(i) { give [i]; }", api.Info{Mode: api.Reads, Steps: 2, Names: 1, Turns: true})
	refused(t, "op o() { [x] = 1; }", api.ErrName, 10)
	refused(t, "op o() { if 1 { } }", api.ErrType, 12)
	refused(t, "op o() { for i in 0..65 { } }", api.ErrSteps, 9)
}

func TestModesAndTurns(t *testing.T) {
	const yes, no = true, false
	for _, row := range []struct {
		text  string
		mode  int
		turns bool
	}{
		{"", api.Reads, yes},
		{"need true;", api.Reads, yes},
		{"need [0]==1;", api.Reads, yes},
		{"give 1;", api.Reads, yes},
		{"give -[0];", api.Reads, yes},
		{"let a=1;", api.Reads, yes},
		{"let a=[1];", api.Reads, no},
		{"let a=1;give [a];", api.Reads, yes},
		{"if [0]==0{}", api.Reads, no},
		{"if true{}else{}", api.Reads, yes},
		{"if true{let a=[0];}", api.Reads, no},
		{"if true{}else{let a=[0];}", api.Reads, no},
		{"for i in 0..3{}", api.Reads, yes},
		{"for i in 0..3{let a=2*[i];}", api.Reads, no},
		{"[0]+=1;", api.Adds, yes},
		{"[0]-=1;", api.Adds, yes},
		{"[0]+=1;[1]-=2;", api.Adds, yes},
		{"if true{[0]+=1;}", api.Adds, yes},
		{"if true{}else{[0]-=1;}", api.Adds, yes},
		{"for i in 0..3{if i<2{[i]+=i;}}", api.Adds, yes},
		{"for i in 0..0{[0]+=1;}", api.Adds, yes},
		{"[0]+=1;give 1;", api.Adds, yes},
		{"need 1<2;[0]+=1;", api.Adds, yes},
		{"need [0]<1;[0]+=1;", api.Writes, yes},
		{"need 1<2&&!(3==-[0]);[0]-=1;", api.Writes, yes},
		{"[0]+=1;give [0];", api.Writes, yes},
		{"[0]+=1;give 1+[0];", api.Writes, yes},
		{"[[0]]+=1;", api.Writes, no},
		{"[0]+=[1];", api.Writes, no},
		{"[0]-=2*-[1];", api.Writes, no},
		{"let a=[0];[0]+=1;", api.Writes, no},
		{"[0]+=1;let a=[0];", api.Writes, no},
		{"if [0]<1{}[0]+=1;", api.Writes, no},
		{"if true{[0]+=1;}else{let a=[1];}", api.Writes, no},
		{"for i in 0..0{let a=[1];}[0]+=1;", api.Writes, no},
		{"[0]=1;", api.Writes, no},
		{"[0]=1;[0]+=1;", api.Writes, no},
		{"[0]+=1;[0]=1;", api.Writes, no},
		{"if false{[0]=1;}", api.Writes, no},
		{"if true{}else{[0]=1;}", api.Writes, no},
		{"for i in 0..0{[0]=1;}", api.Writes, no},
		{"[0]<>[1];", api.Writes, yes},
		{"[0]<>[0];", api.Writes, yes},
		{"[[0]]<>[1];", api.Writes, no},
		{"[0]<>[[1]];", api.Writes, no},
		{"[0]<>[1];[0]+=1;", api.Writes, yes},
		{"[0]-=1;[0]<>[1];", api.Writes, yes},
		{"[0]<>[1];[0]=1;", api.Writes, no},
		{"need [0]<1;[0]<>[1];give [0];", api.Writes, yes},
		{"need [0]<1;[0]=1;give [0];", api.Writes, no},
		{"for i in 0..3{[i]<>[i+1];}", api.Writes, yes},
	} {
		got := good(t, "op o(){"+row.text+"}")
		if got.Mode != row.mode || got.Turns != row.turns {
			t.Errorf("%q: mode %d, turns %v, want %d, %v", row.text, got.Mode, got.Turns, row.mode, row.turns)
		}
	}
}

func TestSteps(t *testing.T) {
	for text, want := range map[string]int{
		"":                                      0,
		"need true;":                            1,
		"need !true;":                           2,
		"need 1<2;":                             3,
		"need ((1)<(2));":                       3,
		"need 1<2;need 3<4&&true;":              8,
		"give 1;":                               1,
		"give -1;":                              2,
		"give [1];":                             2,
		"give [[1]];":                           3,
		"give 1+2*3;":                           5,
		"give [1]+[-2];":                        6,
		"let a=1;":                              2,
		"let a=1+1;":                            4,
		"let a=true;let b=a;":                   4,
		"[0]=1;":                                3,
		"[0]+=1;":                               3,
		"[0]-=1;":                               3,
		"[0]<>[1];":                             3,
		"[[0]]=[1]+2;":                          7,
		"[1+1]-=1+1;":                           7,
		"if true{}":                             2,
		"if true{}else{}":                       2,
		"if 1<2{}":                              4,
		"if true{[0]=1;}":                       5,
		"if true{}else{[0]=1;}":                 5,
		"if true{[0]=1;}else{let a=1;}":         5,
		"if true{let a=1;}else{[0]=1;}":         5,
		"if true{[0]=1;}else{[1]=1;}":           5,
		"if true{[0]=1;[0]=1;}else{let a=1;}":   8,
		"if true{let a=1;let b=1;}else{[0]=1;}": 6,
		"if true{if true{}else{[0]=1;}}else{let a=1;let b=1;}":       7,
		"if true{if true{}else{[0]=1;}}else{let a=1;let b=1+1;}":     8,
		"if true{for i in 0..3{}}else{[0]=1;}":                       6,
		"for i in 0..0{}":                                            1,
		"for i in 0..1{}":                                            2,
		"for i in 0..64{}":                                           65,
		"for i in 0..0{[0]=1;}":                                      1,
		"for i in 0..1{[0]=1;}":                                      5,
		"for i in 0..3{[0]=1;}":                                      13,
		"for i in 0..3{[0]=1;let a=1;}":                              19,
		"for i in 0..3{for k in 0..4{[i]=k;}}":                       1 + 3*(1+1+4*(1+3)),
		"for i in 0..3{if i<2{[0]=1;}}":                              1 + 3*(1+1+3+3),
		"for i in 0..3{}for k in 0..4{}":                             9,
		"need true;let a=1;[a]=2;if a<3{}for i in 0..2{}give a+[a];": 1 + 2 + 3 + 4 + 3 + 4,
	} {
		if got := good(t, "op o(){"+text+"}"); got.Steps != want {
			t.Errorf("%q: %d steps, want %d", text, got.Steps, want)
		}
	}
}

func TestNames(t *testing.T) {
	for text, want := range map[string]int{
		"op o(){}":                        0,
		"op o(a){}":                       1,
		"op o(a,b,c){}":                   3,
		"op o(o){give o;}":                1,
		"op o(){let a=1;}":                1,
		"op o(){for a in 0..1{}}":         1,
		"op o(){for a in 0..0{let b=1;}}": 2,
		"op o(a){let b=1;if true{let c=1;}else{let d=1;for e in 0..1{}}let f=1;}": 6,
		"op o(a){give a+a+a;}": 1,
	} {
		if got := good(t, text); got.Names != want {
			t.Errorf("%q: %d names, want %d", text, got.Names, want)
		}
	}
}

// P8.1: where names are known

func TestKnownNames(t *testing.T) {
	for _, text := range []string{
		"op o(a,b){need a<b;[a]+=b;let c=a;if b<c{[b]=a;}else{[a]=b;}for i in 0..2{[i+a]=b;}give a+b;}",
		"op o(){let a=1;[a]=a;}",
		"op o(){let a=1;let b=a;let c=a+b;[a]=b+c;give a*b*c;}",
		"op o(){let a=1;give a;}",
		"op o(){let a=1;if a<2{[a]=1;}else{[a]=2;}}",
		"op o(){let a=1;for i in 0..2{for k in 0..2{if true{[a]=i+k;}}}}",
		"op o(){if true{let a=1;[a]=1;if true{[a]=2;}[a]=a;}}",
		"op o(){if true{}else{let a=1;if true{[a]=2;}[a]=a;}}",
		"op o(){for i in 0..2{[i]=i;let a=i;[a]=i;}}",
		"op o(){for i in 0..0{[i]=i;}}",
		"op o(){let a=1;if true{let b=a;}[a]=1;give a;}",
		"op o(){if true{let a=1;}if true{let b=1;[b]=b;}}",
		"op o(){let a=true;let b=!a;if b{}}",
	} {
		good(t, text)
	}
}

func TestUnknownNames(t *testing.T) {
	marked(t, api.ErrName,
		"op o(){need ^a;}", "op o(){give ^a;}", "op o(){let a=^b;}", "op o(){[^a]=1;}", "op o(){[0]=^a;}", "op o(){[0]+=^a;}",
		"op o(){[0]-=^a;}", "op o(){[^a]<>[0];}", "op o(){[0]<>[^a];}", "op o(){if ^a{}}",
		"op o(a){give ^A;}", "op o(a){give ^a_;}", "op o(a){give ^o;}", "op o(aa){give ^a;}", "op o(a){give ^aa;}",
		// deep within expressions
		"op o(){give -^a;}", "op o(){need !^a;}", "op o(){give [^a];}", "op o(){give [[-(1+^a)]];}", "op o(){give 1+^a;}",
		"op o(){give ^a+1;}", "op o(){need ^a==1;}", "op o(){need 1==^a;}", "op o(){need true&&(1<2||^a);}", "op o(){give ^a+b;}",
		"op o(){give 1*2+3*^a;}",
		// a let's name is known behind its statement
		"op o(){let a=^a;}", "op o(){let a=1+^a;}", "op o(){[^a]=1;let a=1;}", "op o(){need ^a==1;let a=1;}", "op o(){if ^a<1{let a=1;}}",
		"op o(){if true{[^a]=1;}let a=1;}", "op o(){for i in 0..2{[^a]=1;let a=1;}}", "op o(){let b=^a;let a=1;}",
		// in its block
		"op o(){if true{let a=1;}[^a]=1;}", "op o(){if true{let a=1;}give ^a;}", "op o(){if true{}else{let a=1;}give ^a;}",
		"op o(){if true{let a=1;}else{[^a]=1;}}", "op o(){for i in 0..2{let a=1;}[^a]=1;}", "op o(){for i in 0..2{let a=1;}give ^a;}",
		"op o(){if true{if true{let a=1;}[^a]=1;}}", "op o(){if true{let b=1;if true{let a=1;}[b]=1;[^a]=1;}}",
		"op o(){if true{let a=1;if true{}[a]=1;}[^a]=1;}", "op o(){if true{let a=1;if true{let b=1;}}[^a]=1;}",
		"op o(){if true{let a=1;for i in 0..1{let b=1;}[^b]=1;}}",
		// a for's in its block
		"op o(){for i in 0..2{}[^i]=1;}", "op o(){for i in 0..2{}give ^i;}", "op o(){[^i]=1;for i in 0..2{}}", "op o(){need ^i<1;for i in 0..2{}}",
		"op o(){for i in 0..2{for k in 0..2{}[^k]=1;}}", "op o(){for i in 0..2{}for k in 0..2{[^i]=1;}}",
		"op o(){if true{for i in 0..2{}}else{[^i]=1;}}", "op o(){for i in 0..2{let a=i;}let b=^i;}",
	)
}

func TestNamesTwice(t *testing.T) {
	for _, params := range []string{"a,a", "a,b,a", "b,a,a", "a,b,c,d,e,f,g,a", "a,b,c,d,e,f,g,g"} {
		refused(t, "op o("+params+"){}", api.ErrName, 0)
	}
	marked(t, api.ErrName,
		"op o(a){^let a=1;}", "op o(a){^for a in 0..1{}}", "op o(b,a){if true{^let a=1;}}", "op o(a){for i in 0..1{^let a=1;}}",
		"op o(){let a=1;^let a=1;}", "op o(){let a=1;^let a=a;}", "op o(){let a=1;^for a in 0..1{}}", "op o(){for a in 0..1{}^let a=1;}",
		"op o(){for a in 0..1{^let a=1;}}", "op o(){for a in 0..1{}^for a in 0..1{}}", "op o(){for a in 0..1{^for a in 0..1{}}}",
		"op o(){if true{let a=1;}^let a=1;}", "op o(){if true{let a=1;}else{^let a=1;}}", "op o(){if true{let a=1;}if true{^let a=1;}}",
		"op o(){if true{for a in 0..1{}}else{for b in 0..1{^let a=1;}}}", "op o(){for i in 0..2{let a=1;}for k in 0..2{^let a=1;}}",
		"op o(){for i in 0..0{let a=1;}^for a in 0..0{}}", "op o(){let a=1;let b=1;if true{^let b=true;}}",
	)
	good(t, "op o(a){let A=1;let a_=1;let aa=1;for o in 0..1{}}")
}

// list is so many names, with whatever in front of each.
func list(count int, front string) []string {
	var names []string
	for i := range count {
		names = append(names, front+string(rune('a'+i)))
	}
	return names
}

func TestManyParams(t *testing.T) {
	for count := range 9 {
		if got := good(t, "op o("+strings.Join(list(count, ""), ",")+"){}"); got.Names != count {
			t.Errorf("%d parameters: %d names", count, got.Names)
		}
	}
	for _, count := range []int{9, 10, 16, 17, 26} {
		refused(t, "op o("+strings.Join(list(count, ""), ",")+"){}", api.ErrFull, 0)
	}
	refused(t, "op o("+strings.TrimSuffix(strings.Repeat("a,", 9), ",")+"){}", api.ErrFull, 0)
	refused(t, "op o("+strings.TrimSuffix(strings.Repeat("a,", 200), ",")+"){}", api.ErrFull, 0)
	refused(t, "op o("+strings.TrimSuffix(strings.Repeat("a,", 8), ",")+"){}", api.ErrName, 0)
}

// declares is a text of so many parameters, then so many lets, then so many fors, with a mark at the last statement.
func declares(params, lets, fors int) string {
	names := list(params+lets+fors, "")
	text := "op o(" + strings.Join(names[:params], ",") + "){"
	var stmts []string
	for _, name := range names[params : params+lets] {
		stmts = append(stmts, "let "+name+"=1;")
	}
	for _, name := range names[params+lets:] {
		stmts = append(stmts, "for "+name+" in 0..1{}")
	}
	last := len(stmts) - 1
	return text + strings.Join(stmts[:last], "") + "^" + stmts[last] + "}"
}

func TestManyNames(t *testing.T) {
	for params := range 9 {
		for lets := range 18 - params {
			full := declares(params, lets, 17-params-lets)
			marked(t, api.ErrFull, full)
			if lets < 16-params || lets == 16-params && lets > 0 {
				fits := declares(params, lets, 16-params-lets)
				if got := good(t, strings.Replace(fits, "^", "", 1)); got.Names != 16 {
					t.Errorf("%q: %d names", fits, got.Names)
				}
			}
		}
	}
}

// Names count in all blocks, also where they aren't known any more.
func TestManyNamesInBlocks(t *testing.T) {
	lets := func(front string, count int) string {
		return strings.Join(list(count, "let "+front), "=1;") + "=1;"
	}
	for _, text := range []string{
		"op o(p){if true{" + lets("x", 8) + "}else{" + lets("y", 7) + "}^let z=1;}",
		"op o(p){if true{" + lets("x", 8) + "}else{" + lets("y", 7) + "^let z=1;}}",
		"op o(p){if true{" + lets("x", 8) + "}else{" + lets("y", 7) + "^for z in 0..1{}}}",
		"op o(p){for i in 0..2{" + lets("x", 14) + "}^for z in 0..1{}}",
		"op o(){" + lets("x", 15) + "for i in 0..2{^for k in 0..2{}}}",
		"op o(){" + lets("x", 16) + "if true{}else{^let z=1;}}",
		"op o(){" + lets("x", 16) + "^let z=1;let zz=1;}",
	} {
		marked(t, api.ErrFull, text)
	}
	// A name that was declared already isn't one too many.
	marked(t, api.ErrName, "op o(){"+lets("x", 16)+"^let xa=1;}", "op o(){"+lets("x", 16)+"if true{^for xp in 0..1{}}}")
	marked(t, api.ErrFull, "op o(){"+lets("x", 16)+"^let z=1;let xa=1;}")
}

// P8.1: types

// operators are the operators, each with the type of its parts ("" if they must be alike) and of what it makes.
var operators = map[string][2]string{
	"+": {"number", "number"}, "-": {"number", "number"}, "*": {"number", "number"}, "/": {"number", "number"}, "%": {"number", "number"},
	"<": {"number", "truth"}, "<=": {"number", "truth"}, ">": {"number", "truth"}, ">=": {"number", "truth"},
	"==": {"", "truth"}, "!=": {"", "truth"}, "&&": {"truth", "truth"}, "||": {"truth", "truth"},
}

// samples are expressions of each type, with a mark where they are placed.
func samples() map[string][]string {
	return map[string][]string{
		"number": {"^0", "^9223372036854775807", "^p", "^n", "^i", "^[0]", "^[p]", "^-1", "^-[n]", "(1^+2)", "(i^%p)", "(^n)"},
		"truth":  {"^true", "^false", "^b", "^!true", "^!b", "(1^<2)", "(1^==2)", "(true^!=b)", "(b^&&b)", "(true^||false)", "(^b)"},
	}
}

// framed is a text in which p is a parameter, n and b are lets' names and i is a for's, with a statement in it.
func framed(stmt string) string {
	return "op o(p){let n=1;let b=true;for i in 0..2{" + stmt + "}}"
}

// unmarked is a text without its marks.
func unmarked(text string) string {
	return strings.ReplaceAll(text, "^", "")
}

// typed holds that an expression is of a type, and of that alone.
func typed(t *testing.T, expr, of string) {
	t.Helper()
	asks := map[string]string{"number": "[0]=" + expr + ";", "truth": "if " + expr + "{}"}
	for want, stmt := range asks {
		if want == of {
			good(t, framed(unmarked(stmt)))
		} else {
			marked(t, api.ErrType, framed(stmt))
		}
	}
}

func TestTypesOfExpressions(t *testing.T) {
	for of, exprs := range samples() {
		for _, expr := range exprs {
			typed(t, expr, of)
			// A let's name has the type of its expression.
			let := framed("let x=" + unmarked(expr) + ";[0]=^x;")
			if of == "number" {
				good(t, unmarked(let))
			} else {
				marked(t, api.ErrType, let)
			}
		}
	}
}

func TestTypesOfUnary(t *testing.T) {
	for of, exprs := range samples() {
		for _, expr := range exprs {
			for sign, want := range map[string]string{"-": "number", "!": "truth", "[": "number"} {
				end := ""
				if sign == "[" {
					end = "]"
				}
				if of == want {
					good(t, framed("let x="+sign+unmarked(expr)+end+";"))
				} else {
					marked(t, api.ErrType, framed("let x="+sign+expr+end+";"))
				}
			}
		}
	}
}

// Every operator between two parts of each type.
func TestTypesOfOperators(t *testing.T) {
	all := samples()
	for sign, types := range operators {
		for left, lefts := range all {
			for right, rights := range all {
				for k := range max(len(lefts), len(rights)) {
					one, two := lefts[k%len(lefts)], rights[k%len(rights)]
					heldOperator(t, sign, types, left, right, one, two)
				}
			}
		}
	}
}

func heldOperator(t *testing.T, sign string, types [2]string, left, right, one, two string) {
	t.Helper()
	want := types[0]
	if want == "" {
		want = left
	}
	switch {
	case left != want:
		marked(t, api.ErrType, framed("let x="+one+sign+"("+unmarked(two)+");"))
	case right != want:
		marked(t, api.ErrType, framed("let x="+unmarked(one)+sign+"("+two+");"))
	default:
		typed(t, "("+unmarked(one)+"^"+sign+"("+unmarked(two)+"))", types[1])
	}
}

// Where numbers and truths belong.
func TestTypesOfPlaces(t *testing.T) {
	for _, frame := range []string{
		"op o(){[@]=1;}", "op o(){[0]=@;}", "op o(){[@]+=1;}", "op o(){[0]+=@;}", "op o(){[@]-=1;}", "op o(){[0]-=@;}", "op o(){[@]<>[1];}",
		"op o(){[0]<>[@];}", "op o(){give @;}", "op o(){give [@];}", "op o(){give -@;}", "op o(){if true{[@]=1;}}", "op o(){if true{}else{[0]=@;}}",
		"op o(){for i in 0..1{[i]=@;}}", "op o(){for i in 0..0{[i]=@;}}", "op o(){let a=@+1;}",
	} {
		good(t, strings.Replace(frame, "@", "7", 1))
		for _, wrong := range []string{"^true", "^!true", "(1^<2)", "(1^==1)", "(true^&&false)"} {
			marked(t, api.ErrType, strings.Replace(frame, "@", wrong, 1))
		}
	}
	for _, frame := range []string{
		"op o(){need @;}", "op o(){need true;need @;}", "op o(){if @{}}", "op o(){if @{}else{}}", "op o(){need !@;}", "op o(){need true&&@;}",
		"op o(){for i in 0..1{if @{}}}", "op o(){let a=@||true;}", "op o(){if true{}else{if @{}}}", "op o(){need @;give 1;}",
	} {
		good(t, strings.Replace(frame, "@", "false", 1))
		for _, wrong := range []string{"^7", "^-7", "^[1]", "(1^+2)", "(2^*3)"} {
			marked(t, api.ErrType, strings.Replace(frame, "@", wrong, 1))
		}
	}
	marked(t, api.ErrType, "op o(a){need ^a;}", "op o(a){need !^a;}", "op o(){for i in 0..1{if ^i{}}}", "op o(){let a=true;give ^a;}",
		"op o(){let a=true;let b=a;[0]=^b;}", "op o(){let a=1;if ^a{}}", "op o(){let a=1==1;let b=!a;give ^b;}")
}

// P8.1: loops and steps

func TestLoops(t *testing.T) {
	for n := range 65 {
		if got := good(t, "op o(){for i in 0.."+strconv.Itoa(n)+"{}}"); got.Steps != 1+n {
			t.Errorf("%d rounds: %d steps", n, got.Steps)
		}
	}
	for _, n := range []string{"65", "66", "128", "2048", "9223372036854775807"} {
		marked(t, api.ErrSteps, "op o(){^for i in 0.."+n+"{}}", "op o(){let a=1;^for i in 0.."+n+"{}}", "op o(){for k in 0..0{^for i in 0.."+n+"{}}}",
			"op o(){if true{}else{^for i in 0.."+n+"{}}}")
	}
}

// took holds how many steps an operation takes at most, or that these are too many.
func took(t *testing.T, text string, want int) {
	t.Helper()
	if want > 2048 {
		refused(t, text, api.ErrSteps, 0)
	} else if got := good(t, text); got.Steps != want {
		t.Errorf("%q: %d steps, want %d", text, got.Steps, want)
	}
}

func TestMostSteps(t *testing.T) {
	const head = "op o(){for i in 0..31{for k in 0..64{}}" // 2047 steps
	took(t, head+"}", 2047)
	took(t, head+"give 1;}", 2048)
	took(t, head+"give -1;}", 2049)
	took(t, head+"for z in 0..0{}}", 2048)
	took(t, head+"for z in 0..1{}}", 2049)
	took(t, head+"let a=1;}", 2049)
	took(t, "op o(){need true;"+head[7:]+"}", 2048)
	took(t, "op o(){need !true;"+head[7:]+"}", 2049)
	took(t, "op o(){need true;"+head[7:]+"give 1;}", 2049)
	took(t, "op o(){for h in 0..0{}"+head[7:]+"}", 2048)
	took(t, "op o(){let h=1;"+head[7:]+"}", 2049)
	took(t, "op o(){for i in 0..23{"+strings.Repeat("[0]=1;", 29)+"}}", 1+23*88)
	took(t, "op o(){for i in 0..23{"+strings.Repeat("[0]=1;", 29)+"}for k in 0..22{}}", 2048)
	took(t, "op o(){for i in 0..23{"+strings.Repeat("[0]=1;", 29)+"}for k in 0..23{}}", 2049)
}

// Only the greater of two blocks counts, whichever it is; and a loop of no round takes one step, whatever is in it.
func TestMostStepsOfParts(t *testing.T) {
	const many = "for i in 0..31{for k in 0..64{}}" // 2047 steps, 2 of an if lie around them
	const less = "for n in 0..31{for m in 0..63{}}" // 2016 steps
	took(t, "op o(){if true{"+less+"}else{}}", 2018)
	took(t, "op o(){if true{}else{"+less+"}}", 2018)
	took(t, "op o(){if true{"+less+"}else{for k in 0..64{}}}", 2018)
	took(t, "op o(){if true{"+many+"}else{"+less+"}}", 2049)
	took(t, "op o(){if true{"+less+"}else{"+many+"}}", 2049)
	took(t, "op o(){"+many+less+"}", 4063)
	took(t, "op o(){for z in 0..0{"+many+less+"}}", 1)
	took(t, "op o(){for z in 0..0{"+many+less+"}give 1;}", 2)
	took(t, "op o(){for z in 0..1{"+less+"}}", 2018)
	took(t, "op o(){for z in 0..1{"+many+"}}", 2049)
}

// Loops within one another come to more steps than 64 bits hold: 64 to the eleventh is 0 in 64 bits.
func TestStepsBeyondNumbers(t *testing.T) {
	for count := 1; count <= 11; count++ {
		for n := range 65 {
			text, want := "", big.NewInt(0)
			for i := range count {
				text += "for " + string(rune('a'+i)) + " in 0.." + strconv.Itoa(n) + "{"
				want.Add(want, big.NewInt(1))
				want.Mul(want, big.NewInt(int64(n)))
				want.Add(want, big.NewInt(1))
			}
			text = "op o(){" + text + strings.Repeat("}", count+1)
			if want.Cmp(big.NewInt(2048)) > 0 {
				refused(t, text, api.ErrSteps, 0)
			} else {
				took(t, text, int(want.Int64()))
			}
		}
	}
	text := "op o(){for z in 0..0{"
	for i := range 10 {
		text += "for " + string(rune('a'+i)) + " in 0..64{"
	}
	took(t, text+strings.Repeat("}", 12), 1)
}

// P8.1: of several faults the first one

func TestFirstOfParts(t *testing.T) {
	marked(t, api.ErrName,
		"op o(){need ^a;need b;let c=d;give e;}", "op o(){let a=^b;give c;}", "op o(){need true;give ^c;}", "op o(){need ^b;give 1<2;}",
		"op o(){[^a]=b;}", "op o(){[0]=^b;[c]=1;}", "op o(){[^a]<>[b];}", "op o(){if ^a{[b]=1;}else{[c]=1;}}", "op o(){if true{[^b]=1;}else{[c]=1;}}",
		"op o(){if true{}else{[^c]=1;}[d]=1;}", "op o(){for i in 0..1{[^a]=1;}[b]=1;}", "op o(){give ^a+b;}", "op o(){give (^a+b)*c;}",
		"op o(){give 1+(^a+b);}", "op o(){give [^a]+b;}", "op o(){need ^a==b;}", "op o(){need ^a&&b||c;}",
	)
	marked(t, api.ErrType,
		"op o(){need ^1;need 2;give true;}", "op o(){[^true]=false;}", "op o(){[0]=^true;give true;}", "op o(){[^true]<>[false];}",
		"op o(){give ^true+false;}", "op o(){give 1+^true+false;}", "op o(){give (1^<2)+(3<4);}", "op o(){need ^1&&2;}", "op o(){need !^1;}",
		"op o(){need !(^1)&&2;}", "op o(){if ^1{if 2{}}}", "op o(){give -^true;}", "op o(){give -(^true+false);}", "op o(){need -^true;}",
	)
	refused(t, "op o(a,a){need b;}", api.ErrName, 0)
	refused(t, "op o(a,a){need 1;}", api.ErrName, 0)
	refused(t, "op o(a,b,c,d,e,f,g,h,i){need 1;}", api.ErrFull, 0)
	refused(t, "op o(a,a){for i in 0..65{}}", api.ErrName, 0)
}

// A part's own faults, then whether it is of its type, then the part behind.
func TestFirstOfNamesAndTypes(t *testing.T) {
	marked(t, api.ErrName,
		"op o(){need 1==^a;}", "op o(){need 1==^a+true;}", "op o(){give ^a+true;}", "op o(){[^a]=true;}", "op o(){need !^a<true;}",
		"op o(){give -^a+true;}", "op o(){need [^a]&&1;}", "op o(){give [^a]+true;}", "op o(){let b=^a;if 1{}}", "op o(){if ^a{if 1{}}}",
		"op o(){need 1<^a;}", "op o(){need (1<^a)+1;}", "op o(){need (1+^a);}", "op o(){[0]=^a&&1;}", "op o(){need true==(^a<true);}",
		"op o(){need true==^a;}", "op o(){[-^a]=true;}", "op o(){need 1==(1==^a+b);}",
	)
	marked(t, api.ErrType,
		"op o(){give ^true+a;}", "op o(){give 1+^true*a;}", "op o(){[^true]=a;}", "op o(){[^true]<>[a];}", "op o(){[^true]+=a;}", "op o(){[^!true]-=a;}",
		"op o(){need ^1&&a;}", "op o(){need ^1||a;}", "op o(){need !^1||a;}", "op o(){need ^1;need a;}", "op o(){need ^1;let b=a;}",
		"op o(){if ^1{[a]=1;}}", "op o(){need true==^1||a;}", "op o(){need 1==^true||a;}", "op o(){need ^true<a;}", "op o(){give (1^<2)*a;}",
		"op o(){give -^true+a;}", "op o(){give [^true]+a;}", "op o(){need (1^+2)&&a;}",
	)
}

func TestFirstOfDeclared(t *testing.T) {
	// The expression of a let comes ahead of its name.
	marked(t, api.ErrName, "op o(a){let a=^b;}", "op o(a){let a=[^b];}", "op o(a){^let a=1;let b=c;}", "op o(a){^let a=true;[a]=true;}")
	marked(t, api.ErrType, "op o(a){let a=^true+1;}", "op o(a){let a=!^1;}", "op o(a){let b=1==^true;let a=1;}")
	// The name of a for, then its rounds, then its block.
	marked(t, api.ErrName, "op o(a){^for a in 0..65{}}", "op o(a){^for a in 0..65{[b]=1;}}", "op o(a){^for a in 0..2{[b]=true;}}",
		"op o(a){for i in 0..64{[^b]=1;}}", "op o(a){for i in 0..64{^for a in 0..65{}}}", "op o(a){for i in 0..2{[^b]=1;}for k in 0..65{}}")
	marked(t, api.ErrSteps, "op o(a){^for i in 0..65{[b]=1;}}", "op o(a){^for i in 0..65{let a=1;}}", "op o(a){^for i in 0..65{if 1{}}}",
		"op o(a){^for i in 0..65{for k in 0..65{}}}", "op o(a){for i in 0..64{^for k in 0..65{}}}", "op o(a){^for i in 0..65{}let a=1;}",
		"op o(a){^for i in 0..65{}give true;}", "op o(a){^for i in 0..65{}give b;}")
	marked(t, api.ErrType, "op o(a){if ^1{for i in 0..65{}}}", "op o(a){need ^a;for i in 0..65{}}", "op o(a){for i in 0..2{if ^1{}}for k in 0..65{}}")
	lets := strings.Join(list(16, "let x"), "=1;") + "=1;"
	marked(t, api.ErrFull, "op o(){"+lets+"^for i in 0..65{}}", "op o(){"+lets+"^for i in 0..65{[b]=1;}}", "op o(){"+lets+"^let z=1;give true;}")
	marked(t, api.ErrName, "op o(){"+lets+"let z=^b;}")
	marked(t, api.ErrType, "op o(){"+lets+"let z=!^1;}")
}

// The steps come last, whatever the other fault is and wherever it stands.
func TestStepsLast(t *testing.T) {
	const many = "for i in 0..64{for k in 0..64{}}"
	refused(t, "op o(){"+many+"}", api.ErrSteps, 0)
	marked(t, api.ErrName, "op o(){"+many+"give ^a;}", "op o(){need ^a;"+many+"}", "op o(){"+many+"^let k=1;}", "op o(){for z in 0..64{"+many+"[^i]=1;}}")
	marked(t, api.ErrType, "op o(){"+many+"give ^true;}", "op o(){need ^1;"+many+"}", "op o(){"+many+"if ^1{}}")
	marked(t, api.ErrSteps, "op o(){"+many+"^for z in 0..65{}}", "op o(){^for z in 0..65{"+many+"}}")
	refused(t, "op o(a,a){"+many+"}", api.ErrName, 0)
	marked(t, api.ErrFull, "op o(){"+many+strings.Join(list(14, "let x"), "=1;")+"=1;^let z=1;}")
}

// P8.1: Calls

func TestCalls(t *testing.T) {
	for params := range 10 {
		for args := range 10 {
			var want error
			if params != args {
				want = api.ErrForm
			}
			for _, d := range []api.Def{{Params: list(params, "")}, {Params: make([]string, params), Give: make([]api.Expr, 3)}} {
				if got := check.Calls(d, make([]int, args)...); got != want {
					t.Errorf("%d parameters, %d args: %v", params, args, got)
				}
			}
		}
	}
	d := parsed(t, "op o(a,b){give a;}")
	if check.Calls(d) != api.ErrForm || check.Calls(d, 1) != api.ErrForm || check.Calls(d, 1, 2) != nil || check.Calls(d, -1, 1<<62) != nil ||
		check.Calls(d, 1, 2, 3) != api.ErrForm || check.Calls(d, []int{}...) != api.ErrForm {
		t.Error("two parameters")
	}
	if check.Calls(api.Def{}) != nil || check.Calls(api.Def{Params: []string{}}) != nil || check.Calls(api.Def{}, 0) != api.ErrForm {
		t.Error("no parameters")
	}
}

// P8.1: an SBack counts as SFor

// turnedLoops is a definition with loops of one kind made ones of the other.
func turnedLoops(list []api.Stmt) []api.Stmt {
	list = slices.Clone(list)
	for i := range list {
		s := &list[i]
		if s.Kind == api.SFor {
			s.Kind = api.SBack
		}
		s.Body, s.Else = turnedLoops(s.Body), turnedLoops(s.Else)
	}
	return list
}

func TestBack(t *testing.T) {
	for _, text := range []string{
		"op o(){for i in 0..3{[i]+=i;}}", "op o(){for i in 0..64{}}", "op o(){for i in 0..65{}}", "op o(){for i in 0..0{[0]=1;}}",
		"op o(){for i in 0..31{for k in 0..64{[i]<>[k];}}}", "op o(){for i in 0..31{for k in 0..63{}}}", "op o(){for i in 0..2{}give i;}", "op o(i){for i in 0..2{}}",
		"op o(){for i in 0..2{if i{}}}", "op o(){for i in 0..2{let a=[i];}for k in 0..2{let a=1;}}", "op o(){if true{for i in 0..2{}}else{for i in 0..2{}}}",
		"op o(){" + strings.Join(list(16, "let x"), "=1;") + "=1;for i in 0..65{}}",
	} {
		d := parsed(t, text)
		want := checked(t, d)
		d.Body = turnedLoops(d.Body)
		if got := checked(t, d); got != want {
			t.Errorf("%q with SBack: %+v, want %+v", text, got, want)
		}
	}
}
