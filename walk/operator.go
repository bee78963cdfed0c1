package walk

import (
	"cmp"

	"halyard/api"
)

func (w *walker) unary(n *api.Node) value {
	of := &n.Kids[0]
	switch n.Text {
	case "-":
		return -w.whole(of)
	case "!":
		return !w.holds(of)
	case "&":
		return address(w.held(of))
	}
	return w.place(n).value
}

func (w *walker) binary(n *api.Node) value {
	if n.Text == "&&" || n.Text == "||" {
		return w.both(n)
	}
	a := w.expression(&n.Kids[0])
	b := w.expression(&n.Kids[1])
	switch n.Text {
	case "==":
		return same(a, b)
	case "!=":
		return !same(a, b)
	}
	if x, ok := a.(string); ok {
		y, _ := b.(string)
		return ofTexts(n.Text, x, y)
	}
	x, _ := a.(int)
	y, _ := b.(int)
	return ofNumbers(n.Text, x, y)
}

// both: the first one may say it all.
func (w *walker) both(n *api.Node) bool {
	first := w.holds(&n.Kids[0])
	if first == (n.Text == "||") {
		return first
	}
	return w.holds(&n.Kids[1])
}

func same(a, b value) bool {
	if a == (nothing{}) {
		return isNil(b)
	}
	if b == (nothing{}) {
		return isNil(a)
	}
	return a == b
}

func ofTexts(operator, x, y string) value {
	if operator != "+" {
		return ordered(operator, cmp.Compare(x, y))
	}
	if len(x)+len(y) > api.MaxLen {
		trap(api.TrapLarge)
	}
	return x + y
}

func ofNumbers(operator string, x, y int) value {
	switch operator {
	case "+":
		return x + y
	case "-":
		return x - y
	case "*":
		return x * y
	case "/":
		return x / divisor(y)
	case "%":
		return x % divisor(y)
	}
	return ordered(operator, cmp.Compare(x, y))
}

func divisor(n int) int {
	if n == 0 {
		trap(api.TrapZero)
	}
	return n
}

// ordered: does an operator hold, if the first is below (-1), like (0) or above (1) the second?
func ordered(operator string, order int) bool {
	switch operator {
	case "<":
		return order < 0
	case "<=":
		return order <= 0
	case ">":
		return order > 0
	}
	return order >= 0
}
