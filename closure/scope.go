package closure

// scope is what one binder binds, within what those around it do; nil is outside of all. None is ever changed, so that a function may keep the one that it was made in.
type scope[T any] struct {
	last  T
	outer *scope[T]
}

func (s *scope[T]) with(one T) *scope[T] { return &scope[T]{one, s} }

// at: what the binder has that is so far outwards, the last one being at 0.
func (s *scope[T]) at(far int) T {
	for range far {
		s = s.outer
	}
	return s.last
}

// find: how far outwards the first binder is that is the one asked for; -1, if there is none.
func (s *scope[T]) find(isIt func(T) bool) int {
	for far := 0; s != nil; s, far = s.outer, far+1 {
		if isIt(s.last) {
			return far
		}
	}
	return -1
}

// binder: how far outwards a name is bound, where scopes have names alone.
func binder(s *scope[string], name string) int {
	return s.find(func(bound string) bool { return bound == name })
}
