package emit

import "halyard/api"

// ahead writes an instruction that comes to one which is not there yet: the answer lets it come to the next one that is written.
func (b *body) ahead(op int) (land func()) {
	at := len(b.code)
	b.write(op)
	return func() { b.code[at].A = len(b.code) }
}

// choose takes a number, and does one thing if it is not 0, else the other.
func (b *body) choose(yes, no func()) {
	then := b.ahead(api.OpIf)
	no()
	end := b.ahead(api.OpJump)
	then()
	yes()
	end()
}

// while a number that is put is not 0.
func (b *body) while(holds, do func()) {
	l := &loop{start: len(b.code)}
	b.loops = append(b.loops, l)
	holds()
	inside := b.ahead(api.OpIf)
	l.ends = append(l.ends, b.ahead(api.OpJump))
	inside()
	do()
	b.write(api.OpJump, l.start)
	for _, land := range l.ends {
		land()
	}
	b.loops = b.loops[:len(b.loops)-1]
}

// count goes through the numbers from 0 to ahead of a limit, each of them in a local.
func (b *body) count(limit func(), do func(i int)) {
	i := b.take(api.Word)
	b.constant(0)
	b.set(i)
	b.while(func() {
		b.get(i)
		limit()
		b.reckon(api.Lt)
	}, func() {
		do(i)
		b.get(i)
		b.constant(1)
		b.reckon(api.Add)
		b.set(i)
	})
	b.release(i)
}

// unlessNil: is the pointer in a local one that names something?
func (b *body) unlessNil(local int, yes, no func()) {
	b.get(local)
	b.write(api.OpNil, b.locals[local])
	b.write(api.OpSame)
	b.choose(no, yes)
}

// orAnswer takes a number; if it is 0, the function's answer is another one.
func (b *body) orAnswer(answer int) {
	goesOn := b.ahead(api.OpIf)
	b.constant(answer)
	b.write(api.OpRet)
	goesOn()
}

// requireIndex: is a local's number from 0 to ahead of a length?
func (b *body) requireIndex(i int, length func()) {
	b.constant(-1)
	b.get(i)
	b.reckon(api.Lt)
	b.get(i)
	length()
	b.reckon(api.Lt)
	b.reckon(api.And)
	b.require(api.TrapRange)
}

// requireCut: 0 <= from <= to <= length.
func (b *body) requireCut(from, to int, length func()) {
	b.get(from)
	b.constant(0)
	b.reckon(api.Lt)
	b.get(to, from)
	b.reckon(api.Lt)
	b.reckon(api.Or)
	length()
	b.get(to)
	b.reckon(api.Lt)
	b.reckon(api.Or)
	b.not()
	b.require(api.TrapRange)
}

func (b *body) trap(trap int) {
	b.constant(0)
	b.write(api.OpTrap, trap)
}

// require takes a number, and traps if it is 0.
func (b *body) require(trap int) {
	fine := b.ahead(api.OpIf)
	b.trap(trap)
	fine()
}
