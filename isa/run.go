package isa

import "debugger/api"

const (
	leastStack = 16     // words of memory behind the program
	mostWords  = 16384  // of memory
	mostSteps  = 200000 // of a run
)

// machine is a thread with its memory, and what it has printed.
type machine struct {
	cpu    api.Cpu
	memory []int
	output []int
}

// Run executes a thread on a flat memory.
func Run(words []int, size, entry int, args []int, steps int) api.Outcome {
	if size < len(words)+leastStack || size > mostWords || len(args) > api.MaxParams || steps < 0 || steps > mostSteps {
		return api.Outcome{Err: api.ErrArg}
	}
	m := begin(words, size, entry, args)
	if e := m.run(steps); e != api.OK {
		return api.Outcome{Err: e, Output: m.output}
	}
	return api.Outcome{Thrown: m.cpu.R[api.Flag] != 0, Value: m.cpu.R[api.Result], Output: m.output}
}

// begin returns a machine ahead of its first instruction.
func begin(words []int, size, entry int, args []int) *machine {
	m := &machine{memory: make([]int, size)}
	copy(m.memory, words)
	last := size - 1
	m.memory[last] = api.Exit
	copy(m.cpu.R[api.FirstArg:], args)
	m.cpu.R[api.SP] = last
	m.cpu.PC = entry
	return m
}

// run executes instructions up to the end of the thread, an error, or the last of the steps.
func (m *machine) run(steps int) api.Errno {
	for m.cpu.PC != api.Exit {
		if steps == 0 {
			return api.ErrFuel
		}
		if !m.step() {
			return api.ErrFault
		}
		steps--
	}
	return api.OK
}

// step executes an instruction, and tells whether there is one that can be executed.
func (m *machine) step() bool {
	w, ok := m.word(m.cpu.PC)
	i, e := Decode(w)
	if !ok || e != api.OK {
		return false
	}
	loaded := 0
	if addr, reads := Reads(m.cpu, i); reads {
		if loaded, ok = m.word(addr); !ok {
			return false
		}
	}
	effect, e := Execute(m.cpu, i, loaded)
	if e != api.OK || effect.Stores && !m.has(effect.Addr) {
		return false
	}
	m.take(effect)
	return true
}

// take makes an effect take place.
func (m *machine) take(e api.Effect) {
	m.cpu = e.Cpu
	if e.Stores {
		m.memory[e.Addr] = e.Word
	}
	if e.Prints {
		m.output = append(m.output, e.Print)
	}
}

// has tells whether an address is one of the memory.
func (m *machine) has(addr int) bool { return addr >= 0 && addr < len(m.memory) }

// word returns the word at an address, and whether there is one.
func (m *machine) word(addr int) (int, bool) {
	if !m.has(addr) {
		return 0, false
	}
	return m.memory[addr], true
}
