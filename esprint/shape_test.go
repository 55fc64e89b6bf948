package esprint

import (
	"math/rand"
	"strings"
	"testing"

	"pennant/api"
)

// long is a name that makes each text too long, so that what has shape is told from what has none.
func long() *tree { return name(strings.Repeat("a", api.MaxSource+1)) }

// shapely holds a tree against whether it has shape, where its text is too long.
func shapely(t *testing.T, a api.Ast, ok bool) {
	t.Helper()
	want := api.ErrArg
	if ok {
		want = api.ErrLong
	}
	refuses(t, a, want)
}

// P7.1: how many kids a node of each kind may have, as an array's part.
func TestCountsOfKids(t *testing.T) {
	const many = 9
	counts := map[int][]int{
		api.ExNum: {0}, api.ExText: {0}, api.ExName: {0}, api.ExConst: {0}, api.StBreak: {0}, api.StContinue: {0}, api.StEmpty: {0},
		api.ExArray: {0, 1, 2, 3, 4, many}, api.StBlock: {0, 1, 2, 3, 4, many}, api.StCase: {0, 1, 2, 3, 4, many}, api.StProgram: {0, 1, 2, 3, 4, many}, api.ExObject: {0, 2, 4},
		api.ExFunc: {1, 2, 3, 4, many}, api.StFunc: {1, 2, 3, 4, many}, api.ExCall: {1, 2, 3, 4, many}, api.StSwitch: {1, 2, 3, 4, many}, api.StVar: {1, 2, 3, 4, many},
		api.ExMember: {1}, api.ExUnary: {1}, api.ExUpdate: {1}, api.StExpr: {1}, api.StThrow: {1}, api.ExIndex: {2}, api.ExBinary: {2}, api.ExLogic: {2}, api.ExAssign: {2}, api.StWhile: {2}, api.StForIn: {2},
		api.ExCond: {3}, api.StFor: {4}, api.StDecl: {0, 1}, api.StReturn: {0, 1}, api.StIf: {2, 3},
	}
	for kind := -2; kind < 50; kind++ {
		for _, count := range []int{0, 1, 2, 3, 4, many} {
			var kids []*tree
			for range count {
				kids = append(kids, text("b"))
			}
			ok := false
			for _, n := range counts[kind] {
				ok = ok || n == count
			}
			for _, num := range append(odd(), 0) {
				x := numbered(kind, "", num, kids...)
				if kind == api.StTry {
					ok = (num == 1 || num == 2) && count == 2 || num == 3 && count == 3
				}
				shapely(t, laid(node(api.ExArray, "", x, long())), ok)
				shapely(t, laid(node(api.StProgram, "", long(), x)), ok)
				if !ok {
					refuses(t, laid(node(api.ExArray, "", x)), api.ErrArg)
				}
			}
		}
	}
}

// P7.1: an object's keys are texts; its values are any.
func TestKeysOfObjects(t *testing.T) {
	bare := []int{api.ExNum, api.ExText, api.ExName, api.ExConst, api.ExArray, api.ExObject, api.StDecl, api.StBlock, api.StReturn, api.StBreak, api.StContinue, api.StCase, api.StEmpty, api.StProgram}
	for _, kind := range bare {
		for n := range 4 {
			kids := []*tree{text("a"), text("b"), text("c"), text("d")}
			kids[n] = node(kind, "")
			shapely(t, laid(node(api.ExArray, "", node(api.ExObject, "", kids...), long())), kind == api.ExText || n%2 == 1)
		}
	}
	shapely(t, laid(node(api.ExObject, "", text("a"), long())), true)
	shapely(t, laid(node(api.ExObject, "", name("a"), long())), false)
	shapely(t, laid(node(api.ExObject, "", text("a"), long(), text("b"))), false)
}

// P7.1: roots are expressions, or programs.
func TestRoots(t *testing.T) {
	for kind := range 50 {
		for count := range 5 {
			kids := []*tree{long()}
			for range count {
				kids = append(kids, text("b"))
			}
			a := laid(numbered(kind, "", 1, kids...))
			shapely(t, a, secondShape(a))
		}
	}
	refuses(t, laid(node(api.StEmpty, "")), api.ErrArg)
	refuses(t, laid(node(api.StExpr, "", name("a"))), api.ErrArg)
	refuses(t, laid(node(api.StBlock, "")), api.ErrArg)
	prints(t, laid(node(api.StProgram, "")), "")
}

// P7.1: which nodes are whose kids.
func TestKids(t *testing.T) {
	big := long().ex
	array := func(kids ...int) api.Ex { return api.Ex{Kind: api.ExArray, Kids: kids} }
	for _, c := range []struct {
		nodes []api.Ex
		ok    bool
	}{
		{[]api.Ex{big}, true},
		{[]api.Ex{big, array(0)}, true},
		{[]api.Ex{big, array(), array(0, 1)}, true},
		{[]api.Ex{big, array(), array(1, 0)}, false},
		{[]api.Ex{big, array(), array(0)}, false},
		{[]api.Ex{array(), big, array(1)}, false},
		{[]api.Ex{big, array(), array()}, false},
		{[]api.Ex{big, array(0, 0)}, false},
		{[]api.Ex{big, array(0), array(0, 1)}, false},
		{[]api.Ex{big, array(0), array(1)}, true},
		{[]api.Ex{big, array(0), array(0)}, false},
		{[]api.Ex{big, array(1)}, false},
		{[]api.Ex{big, array(0, 1)}, false},
		{[]api.Ex{big, array(0, 2)}, false},
		{[]api.Ex{big, array(-1, 0)}, false},
		{[]api.Ex{big, array(-1)}, false},
		{[]api.Ex{big, array(0, 1<<62)}, false},
		{[]api.Ex{big, array(-1 << 63)}, false},
		{[]api.Ex{array(1), big, array(0)}, false},
		{[]api.Ex{array(2), big, array(0, 1)}, false},
		{[]api.Ex{array(0), big}, false},
		{[]api.Ex{array(1), big}, false},
		{[]api.Ex{array(0)}, false},
		{[]api.Ex{big, big}, false},
		{[]api.Ex{big, big, array(0, 1)}, true},
		{[]api.Ex{big, array(), array(), array(1, 2), array(0, 3)}, true},
		{[]api.Ex{big, array(), array(), array(0, 2), array(1, 3)}, true},
	} {
		shapely(t, api.Ast{Nodes: c.nodes}, c.ok)
	}
	refuses(t, api.Ast{}, api.ErrArg)
	refuses(t, api.Ast{Nodes: []api.Ex{}}, api.ErrArg)
	refuses(t, api.Ast{Nodes: []api.Ex{{}}}, api.ErrArg)
}

// P7.1: any nodes by dice answer as the second writer says; few of them have shape.
func TestNodesByDice(t *testing.T) {
	dice := rand.New(rand.NewSource(1))
	right := 0
	big := strings.Repeat("a", api.MaxSource+1)
	for range 150000 {
		nodes := make([]api.Ex, dice.Intn(5))
		free := []int{}
		for n := range nodes {
			x := api.Ex{Kind: dice.Intn(38), Num: float64(dice.Intn(4))}
			if dice.Intn(3) == 0 {
				x.Op = big
			}
			for len(free) > 0 && (n == len(nodes)-1 || dice.Intn(2) > 0) {
				x.Kids = append(x.Kids, free[0])
				free = free[1:]
			}
			if dice.Intn(20) == 0 {
				x.Kids = append(x.Kids, dice.Intn(7)-1)
			}
			nodes[n] = x
			free = append(free, n)
		}
		a := api.Ast{Nodes: nodes}
		s, e := print(t, a)
		if want, number := second(a); s != want || e != number {
			t.Fatalf("%s: %q, %d, not %q, %d", brief(a), brief(s), e, brief(want), number)
		}
		if e == api.ErrLong {
			right++
		}
	}
	if right < 1000 {
		t.Error(right)
	}
}
