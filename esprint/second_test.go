package esprint

import (
	"math"
	"slices"
	"strconv"
	"strings"

	"pennant/api"
	"pennant/esnum"
	"pennant/esparse"
)

// A second writer: the chapter's tables as forms, and a filler that goes by whatever forms.

// form is a node's one. A great letter and a number stand for a kid: T, its text; O and M, an operand's; I, what begins a for; Z, nothing of an StEmpty; B, its text without the line end. With + it is all kids from that one on, up to a last B, with commas between them, or, of A, nothing; K are keys and values. # is the node's Op.
func form(x api.Ex) string {
	switch x.Kind {
	case api.StForIn, api.StCase, api.StTry, api.ExUpdate:
		return numberedForm(x)
	case api.StIf:
		return []string{"if (T0) T1", "if (T0) T1else T2"}[len(x.Kids)-2]
	case api.StReturn:
		return []string{"return;\n", "return T0;\n"}[len(x.Kids)]
	case api.StDecl:
		return []string{"#", "# = T0"}[len(x.Kids)]
	case api.ExUnary:
		if x.Op == "typeof" || x.Op == "delete" {
			return "# O0"
		}
		return "#O0"
	}
	return map[int]string{
		api.ExName: "#", api.ExConst: "#", api.ExArray: "[T0+]", api.ExObject: "{K0+}", api.ExFunc: "function #(T0+) B", api.ExMember: "M0.#", api.ExIndex: "M0[T1]", api.ExCall: "M0(T1+)",
		api.ExBinary: "O0 # O1", api.ExLogic: "O0 # O1", api.ExAssign: "O0 # T1", api.ExCond: "O0 ? T1 : T2",
		api.StExpr: "E0;\n", api.StVar: "var T0+;\n", api.StBlock: "{\nA0+}\n", api.StWhile: "while (T0) T1", api.StFor: "for (I0; Z1; Z2) T3", api.StThrow: "throw T0;\n", api.StBreak: "break;\n", api.StContinue: "continue;\n", api.StEmpty: ";\n",
		api.StSwitch: "switch (T0) {\nA1+}\n", api.StFunc: "function #(T0+) L", api.StProgram: "A0+",
	}[x.Kind]
}

func numberedForm(x api.Ex) string {
	one := x.Num == 1
	switch {
	case x.Kind == api.StForIn && one:
		return "for (var # in T0) T1"
	case x.Kind == api.StForIn:
		return "for (# in T0) T1"
	case x.Kind == api.StCase && one:
		return "default:\nA0+"
	case x.Kind == api.StCase && len(x.Kids) == 0:
		return "case :\n"
	case x.Kind == api.StCase:
		return "case T0:\nA1+"
	case x.Kind == api.StTry && one:
		return "try T0catch (#) T1"
	case x.Kind == api.StTry && x.Num == 2:
		return "try T0finally T1"
	case x.Kind == api.StTry:
		return "try T0catch (#) T1finally T2"
	case one:
		return "#O0"
	}
	return "O0#"
}

// A filler fills forms with nodes' texts; around writes what it likes around an expression that stands for T, O or M.
type filler struct {
	nodes  []api.Ex
	around func(s string) string
}

func (f filler) text(n int) string {
	x := f.nodes[n]
	switch x.Kind {
	case api.ExNum:
		return esnum.Text(x.Num)
	case api.ExText:
		return secondQuoted(x.Op)
	}
	var out strings.Builder
	for rest := form(x); rest != ""; {
		size := 1
		switch {
		case rest[0] == '#':
			out.WriteString(x.Op)
		case rest[0] < 'A' || rest[0] > 'Z':
			out.WriteByte(rest[0])
		default:
			size += len(rest[1:]) - len(strings.TrimLeft(rest[1:], "0123+"))
			out.WriteString(f.slot(x, rest[:size]))
		}
		rest = rest[size:]
	}
	return out.String()
}

// slot is what a letter of a form stands for.
func (f filler) slot(x api.Ex, slot string) string {
	letter := slot[0]
	switch letter {
	case 'B', 'L':
		s := f.text(x.Kids[len(x.Kids)-1])
		if letter == 'B' {
			s = strings.TrimSuffix(s, "\n")
		}
		return s
	}
	first := int(slot[1] - '0')
	if len(slot) == 2 {
		return f.part(letter, x.Kids[first])
	}
	kids := x.Kids[first:]
	isFunction := x.Kind == api.ExFunc || x.Kind == api.StFunc
	if isFunction {
		kids = kids[:len(kids)-1]
	}
	var parts []string
	for i, kid := range kids {
		switch {
		case letter == 'K' && i%2 == 0:
			parts = append(parts, f.text(kid)+": "+f.part('T', kids[i+1]))
		case letter == 'K':
		case isFunction:
			parts = append(parts, f.text(kid))
		default:
			parts = append(parts, f.part('T', kid))
		}
	}
	if letter == 'A' {
		return strings.Join(parts, "")
	}
	return strings.Join(parts, ", ")
}

// part is what a letter says of one kid.
func (f filler) part(letter byte, kid int) string {
	s := f.text(kid)
	x := f.nodes[kid]
	if x.Kind <= api.ExAssign {
		s = f.around(s)
	}
	simple := []int{api.ExNum, api.ExText, api.ExName, api.ExConst, api.ExArray, api.ExMember, api.ExIndex, api.ExCall}
	switch {
	case letter == 'M' && x.Kind == api.ExNum, (letter == 'O' || letter == 'M') && x.Kind <= api.ExAssign && !slices.Contains(simple, x.Kind):
		return "(" + s + ")"
	case letter == 'E' && (strings.HasPrefix(s, "{") || strings.HasPrefix(s, "function")):
		return "(" + s + ")"
	case (letter == 'I' || letter == 'Z') && x.Kind == api.StEmpty:
		return ""
	case letter == 'I' && x.Kind == api.StVar:
		return strings.TrimSuffix(s, ";\n")
	case letter == 'I' && x.Kind == api.StExpr:
		return "(" + f.part('T', x.Kids[0]) + ")"
	}
	return s
}

func secondQuoted(w string) string {
	var out strings.Builder
	for i := 0; i+1 < len(w); i += 2 {
		u := int64(w[i])<<8 | int64(w[i+1])
		if u == '"' || u == '\\' || u > '~' || u < ' ' {
			digits := strconv.FormatInt(u, 16)
			out.WriteString(`\u` + strings.Repeat("0", 4-len(digits)) + digits)
			continue
		}
		out.WriteByte(byte(u))
	}
	return `"` + out.String() + `"`
}

func plainly(s string) string { return s }

// secondText is the whole text of a tree that has shape.
func secondText(a api.Ast) string {
	return filler{a.Nodes, plainly}.text(len(a.Nodes) - 1)
}

// secondShape is by how many kids each kind may have: so many, with + or more, with 2 any even number.
func secondShape(a api.Ast) bool {
	counts := map[int]string{
		api.ExNum: "0", api.ExText: "0", api.ExName: "0", api.ExConst: "0", api.StBreak: "0", api.StContinue: "0", api.StEmpty: "0", api.ExArray: "0+", api.StBlock: "0+", api.StCase: "0+", api.StProgram: "0+", api.ExObject: "even",
		api.ExFunc: "1+", api.StFunc: "1+", api.ExCall: "1+", api.StSwitch: "1+", api.StVar: "1+", api.ExMember: "1", api.ExUnary: "1", api.ExUpdate: "1", api.StExpr: "1", api.StThrow: "1", api.ExIndex: "2", api.ExBinary: "2", api.ExLogic: "2", api.ExAssign: "2", api.StWhile: "2", api.StForIn: "2",
		api.ExCond: "3", api.StFor: "4", api.StDecl: "01", api.StReturn: "01", api.StIf: "23", api.StTry: "try",
	}
	nodes := a.Nodes
	if len(nodes) < 1 || len(nodes) > 4096 {
		return false
	}
	if root := nodes[len(nodes)-1].Kind; root > api.ExAssign && root != api.StProgram {
		return false
	}
	parents := map[int]int{}
	for n, x := range nodes {
		before := -1
		for _, kid := range x.Kids {
			if kid <= before || kid >= n {
				return false
			}
			before = kid
			parents[kid]++
		}
		if !countFits(counts[x.Kind], x) {
			return false
		}
		for i := 0; x.Kind == api.ExObject && i < len(x.Kids); i += 2 {
			if nodes[x.Kids[i]].Kind != api.ExText {
				return false
			}
		}
	}
	for n := range len(nodes) - 1 {
		if parents[n] != 1 {
			return false
		}
	}
	return true
}

func countFits(counts string, x api.Ex) bool {
	size := len(x.Kids)
	switch counts {
	case "":
		return false
	case "0+":
		return true
	case "1+":
		return size > 0
	case "even":
		return size%2 == 0
	case "try":
		return x.Num == 1 && size == 2 || x.Num == 2 && size == 2 || x.Num == 3 && size == 3
	}
	return size < 10 && strings.Contains(counts, strconv.Itoa(size))
}

// second is what the chapter answers of a tree.
func second(a api.Ast) (string, api.Errno) {
	if !secondShape(a) {
		return "", api.ErrArg
	}
	s := secondText(a)
	if len(s) > 8192 {
		return "", api.ErrLong
	}
	read := esparse.Expr
	if a.Nodes[len(a.Nodes)-1].Kind == api.StProgram {
		read = esparse.Program
	}
	if b, _, e := read(s); e != api.OK || !alike(a.Nodes, b.Nodes) {
		return "", api.ErrArg
	}
	return s, api.OK
}

// odd are numbers that few nodes have.
func odd() []float64 {
	return []float64{1, 2, 3, 0.5, -1, 1e21, math.Copysign(0, -1), math.NaN(), math.Inf(1), math.Inf(-1)}
}
