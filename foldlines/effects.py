"""What lines by themselves write and use: registers, and the flag, as bits of one integer."""

from foldlines.limits import REGISTERS
from foldlines.lines import registers_in

# The registers have the bits from 1 to 32.
FLAG = 64

PURE_WORDS = ("num", "copy", "addr", "read", "same")
WRITING_WORDS = ("num", "copy", "add", "sub", "mul", "addr", "in", "pop", "read")
COMPARING_WORDS = ("same", "less")

# For each first word of a line the indexes of the parts whose values it takes.
USED_PARTS = {
    "copy": (2,),
    "add": (2, 3),
    "sub": (2, 3),
    "mul": (2, 3),
    "same": (1, 2),
    "less": (1, 2),
    "out": (1,),
    "push": (1,),
    "write": (2,),
    "callr": (1,),
}


def is_pure(line):
    """Whether all that a line does is to write a register or the flag."""
    return line[0] in PURE_WORDS


def written_bits(line):
    """The registers, and the flag, that a line itself writes."""
    return FLAG if line[0] in COMPARING_WORDS else written_registers(line)


def written_registers(line):
    """The register that a line itself writes, if there is one."""
    return _bit_of(line[1]) if line[0] in WRITING_WORDS else 0


def used_bits(line):
    """The registers whose values a line takes, and the flag, if it goes by it."""
    if line[0] in ("if", "unless"):
        return FLAG
    used = 0
    for part in USED_PARTS.get(line[0], ()):
        used |= _bit_of(line[part])
    return used


def named_bits(lines):
    """The registers that stand in any of these lines."""
    bits = 0
    for line in lines:
        for key in registers_in(line):
            bits |= _bit_of(key)
    return bits


def _bit_of(part):
    """The bit of a register; the link has none."""
    return 0 if part == "link" else 1 << part


def registers_of(bits):
    """The registers among these bits, ascending."""
    return tuple([key for key in range(REGISTERS) if bits >> key & 1])


def told_bits(bits):
    """The registers among these bits, ascending, then the flag, if it is among them."""
    return (*registers_of(bits), "flag") if bits & FLAG else registers_of(bits)
