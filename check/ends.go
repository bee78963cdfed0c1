package check

import "halyard/api"

// ends: does a statement, or a block, never go on behind its end? Names are not looked up: whatever is named panic ends.
func ends(n api.Node) bool {
	switch n.Kind {
	case api.SReturn:
		return true
	case api.SExpr:
		called := n.Kids[0].Kids[0]
		return called.Kind == api.EName && called.Text == "panic"
	case api.SBlock:
		return len(n.Kids) > 0 && ends(n.Kids[len(n.Kids)-1])
	case api.SIf:
		return len(n.Kids) == 3 && ends(n.Kids[1]) && ends(n.Kids[2])
	case api.SFor:
		return len(n.Kids) == 1 && !leaves(n.Kids[0])
	}
	return false
}

// leaves: does an SBreak stand in it that belongs to the SFor around it? Those within another SFor, or within a function literal, do not.
func leaves(n api.Node) bool {
	switch n.Kind {
	case api.SBreak:
		return true
	case api.SBlock, api.SIf:
		for _, kid := range n.Kids {
			if leaves(kid) {
				return true
			}
		}
	}
	return false
}
