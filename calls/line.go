package calls

// line puts groups one after the other. A group goes by its least function.
type line struct {
	groups  [][]int
	waiting map[int]int // how many calls a group has into groups that do not stand there yet
	callers [][]int     // which groups call it, once for each call
	out     [][]int
}

// inLine: the groups, callees first.
func (g graph) inLine(groups [][]int) [][]int {
	l := line{groups: make([][]int, len(g)), waiting: map[int]int{}, callers: make([][]int, len(g))}
	least := make([]int, len(g))
	for _, group := range groups {
		l.groups[group[0]], l.waiting[group[0]] = group, 0
		for _, f := range group {
			least[f] = group[0]
		}
	}
	for f := range len(g) {
		for _, to := range g[f] {
			l.call(least[f], least[to])
		}
	}
	for f := 0; f < len(g); {
		f = l.try(f)
	}
	return l.out
}

func (l *line) call(from, to int) {
	if from != to {
		l.waiting[from]++
		l.callers[to] = append(l.callers[to], from)
	}
}

// try puts a group into the line, if it waits for nothing, and tells which to try then: the next one, or one further ahead that waited for it alone.
func (l *line) try(f int) int {
	next := f + 1
	if calls, waits := l.waiting[f]; !waits || calls > 0 {
		return next
	}
	delete(l.waiting, f)
	l.out = append(l.out, l.groups[f])
	for _, from := range l.callers[f] {
		l.waiting[from]--
		if l.waiting[from] == 0 {
			next = min(next, from)
		}
	}
	return next
}
