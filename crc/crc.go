// Package crc is layer 1: see shared/doc/01-crc.md.
package crc

// feedback is what the register is xored with when a 1 falls out of it.
const feedback = 0xEDB88320

// Sum is the sum of bytes: P1.1.
func Sum(b []byte) uint32 {
	// A sum of 0 is a register of all ones: that of no bytes yet.
	return Add(0, b)
}

// Add is the sum, if some were ahead: P1.1.
func Add(sum uint32, b []byte) uint32 {
	register := ^sum
	for _, c := range b {
		// All eight bits can come at once: a bit meets the register's lowest
		// only when it gets there, and shifts take it there in its turn.
		register = shiftByte(register ^ uint32(c))
	}
	return ^register
}

// Table is what each byte becomes: P1.2.
func Table() [256]uint32 {
	var rows [256]uint32
	for i := range rows {
		rows[i] = shiftByte(uint32(i))
	}
	return rows
}

// shiftByte is what a register becomes by eight shifts.
func shiftByte(register uint32) uint32 {
	for range 8 {
		fallen := register & 1
		register >>= 1
		if fallen == 1 {
			register ^= feedback
		}
	}
	return register
}
