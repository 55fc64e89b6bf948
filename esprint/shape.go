package esprint

import "pennant/api"

// hasShape says whether nodes are a tree that has a text, be it read as that tree or not.
func hasShape(nodes []api.Ex) bool {
	if len(nodes) == 0 || len(nodes) > api.MaxAst {
		return false
	}
	root := len(nodes) - 1
	if !isExpression(nodes[root].Kind) && nodes[root].Kind != api.StProgram {
		return false
	}
	taken := make([]bool, len(nodes))
	for n, x := range nodes {
		if !takes(taken, n, x.Kids) || !mayHave(x, nodes) {
			return false
		}
	}
	for _, ok := range taken[:root] {
		if !ok {
			return false
		}
	}
	return true
}

// takes marks a node's kids, and says false where they don't rise, aren't ahead of it, or are another's.
func takes(taken []bool, node int, kids []int) bool {
	last := -1
	for _, kid := range kids {
		if kid <= last || kid >= node || taken[kid] {
			return false
		}
		taken[kid] = true
		last = kid
	}
	return true
}

func isExpression(kind int) bool { return kind >= api.ExNum && kind <= api.ExAssign }

// mayHave says whether a node, whose kids there are, is of a kind that may have them.
func mayHave(x api.Ex, nodes []api.Ex) bool {
	count := len(x.Kids)
	switch x.Kind {
	case api.ExNum, api.ExText, api.ExName, api.ExConst, api.StBreak, api.StContinue, api.StEmpty:
		return count == 0
	case api.ExArray, api.StBlock, api.StCase, api.StProgram:
		return true
	case api.ExObject:
		return hasKeys(x.Kids, nodes)
	case api.ExFunc, api.StFunc, api.ExCall, api.StSwitch, api.StVar:
		return count >= 1
	case api.ExMember, api.ExUnary, api.ExUpdate, api.StExpr, api.StThrow:
		return count == 1
	case api.ExIndex, api.ExBinary, api.ExLogic, api.ExAssign, api.StWhile, api.StForIn:
		return count == 2
	case api.ExCond:
		return count == 3
	case api.StFor:
		return count == 4
	case api.StDecl, api.StReturn:
		return count <= 1
	case api.StIf:
		return count == 2 || count == 3
	case api.StTry:
		return (x.Num == caught || x.Num == finally) && count == 2 || x.Num == caught+finally && count == 3
	}
	return false
}

// What an StTry's Num is made of.
const (
	caught  = 1
	finally = 2
)

func hasKeys(kids []int, nodes []api.Ex) bool {
	for i := 0; i < len(kids); i += 2 {
		if nodes[kids[i]].Kind != api.ExText {
			return false
		}
	}
	return len(kids)%2 == 0
}
