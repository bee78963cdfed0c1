package verify

import "halyard/api"

// within: is n the number of one of so many?
func within(n, many int) bool { return n >= 0 && n < many }

// isKind: is a number a kind, where there are so many types?
func isKind(n, types int) bool {
	if n == api.Word || n == api.Any {
		return true
	}
	if n >= api.Local {
		n -= api.Local
	}
	return n >= api.Ptr && within((n-api.Ptr)/2, types)
}

// typeOf: the type that a pointer's or an array's kind is of.
func typeOf(kind int) int { return (bare(kind) - api.Ptr) / 2 }

// bare: a kind without Local.
func bare(kind int) int { return kind &^ api.Local }

// fits: is a kind another one, or that without Local?
func fits(kind, other int) bool { return kind == other || kind == bare(other) }

// must tells whether the i-th of the kinds that an instruction takes, from the lowest on, is what it must be. It is asked from the top on.
type must func(i, kind int) bool

// fitting: kinds that fit these.
func fitting(kinds ...int) (int, must) {
	return len(kinds), func(i, kind int) bool { return fits(kind, kinds[i]) }
}

// these: kinds of which each must be something of its own.
func these(each ...func(kind int) bool) (int, must) {
	return len(each), func(i, kind int) bool { return each[i](kind) }
}

// alike: two kinds but Word, of which one fits the other.
func alike() (int, must) {
	upper := api.Word
	return 2, func(i, kind int) bool {
		if i == 1 {
			upper = kind
		}
		return kind != api.Word && (fits(kind, upper) || fits(upper, kind))
	}
}

// exactly: this kind.
func exactly(wanted int) func(kind int) bool {
	return func(kind int) bool { return kind == wanted }
}

// of: Ptr, or Arr, of any type, with Local or without.
func of(form int) func(kind int) bool {
	return func(kind int) bool { return bare(kind) >= api.Ptr && bare(kind)%2 == form%2 }
}

func anything(kind int) bool { return true }

// boxable: Ptr of any type, without Local.
func boxable(kind int) bool { return of(api.Ptr)(kind) && kind < api.Local }
